import PyProof.Rows.All
import Wide.All
import OpenK.AllK
import Wide.FinOn
import PyProof.EqAt
import PyProof.EqKinds
import PyProof.TupleCall
import PyProof.NeKinds
import PyProof.AutoSeq1
import KE.LcSums
import PyProof.Rows.StrWeight2
import PyProof.StrBlockG
import KE.KIntText
import PyProof.CallStr
import PyProof.WalksEnum
import PyProof.Rows.EnumRows
import PyProof.Rows.FactsT2
import KE.KRevIter
import PyProof.StrWalks
import PyProof.ReprRoads
import PyProof.StrLawsTight
import PyProof.Rows.StrItems
import PyProof.Rows.ReprOcc
import PyProof.Rows.StrJoinMade
import PyProof.ReprLen
import PyProof.ZipIter
import PyProof.Rows.SortWalk
import PyProof.ListRange
import PyProof.AttrMissHeap
import PyProof.Rows.SumAny
import PyProof.SetKind
import PyProof.Rows.SetFrom
import PyProof.CollectWalk
import PyProof.ForAny
import PyProof.SetRoads
import PyProof.FactsAll.set
import PyProof.Rows.SortShell
import Lean
import PySem.Challenge.RW_stretchdeeds_k64_least_rows
set_option Elab.async false
set_option linter.all false
set_option maxRecDepth 100000
abbrev zC := PySem.W.Frag
abbrev zD := @List.length_map
abbrev zS := @List.mem_cons
abbrev zzA := @List.mem_cons_of_mem
abbrev zzB := @List.getElem?_eq_getElem
abbrev zzC := @List.mem_cons_self
abbrev zzD := @List.getElem?_eq_some_iff
abbrev zzE := @List.size_toArray
abbrev zzF := @List.getElem?_map
abbrev zzG := @List.length_append
abbrev zzH := @Nat.lt_of_lt_of_le
abbrev zzI := @List.mem_append_right
abbrev zzJ := @List.mem_append
abbrev zzK := @Nat.le_refl
abbrev zzL := @Nat.le_trans
abbrev zzM := @List.mem_append_left
abbrev zzN := @Nat.ne_of_lt
abbrev zzO := @List.mem_singleton
abbrev zzP := @List.length_take
abbrev zzQ := @List.length_cons
abbrev zzR := @List.length_set
abbrev zzS := @Int.natCast_mul
abbrev zzT := @List.nodup_cons
abbrev zzV := @List.getElem?_set_ne
abbrev zzW := @Option.some.inj
abbrev zzX := @List.mem_of_getElem?
abbrev zzY := @List.map_map
abbrev zzZ := @Bool.and_eq_true
abbrev zyA := @Bool.or_true
abbrev zyB := @List.append_nil
abbrev zyC := @List.getD_eq_getElem?_getD
abbrev zyD := @decide_eq_false
abbrev zyE := @Int.emod_lt_of_pos
abbrev zyF := @Int.toNat_natCast
abbrev zyG := @List.nodup_nil
abbrev zyH := @List.getElem?_set_self
abbrev zyI := @Option.bind_some
abbrev zyJ := @List.map_append
abbrev zyK := @Int.emod_nonneg
abbrev zyL := @decide_eq_true
abbrev zyM := @List.getElem?_append_left
abbrev zyN := @List.drop_eq_getElem_cons
abbrev zyO := @List.getElem?_append_right
abbrev zyP := @List.map_cons
abbrev zyQ := @Array.length_toList
abbrev zyR := @List.length_range
abbrev zyS := @List.getElem?_of_mem
abbrev zyT := @Bool.false_ne_true
abbrev zyU := @Nat.le_succ
abbrev zyV := @Nat.zero_add
abbrev zyW := @Int.toNat_of_nonneg
abbrev zyX := @List.getElem_mem
abbrev zyY := @Nat.lt_succ_of_lt
abbrev zyZ := @List.not_mem_nil
abbrev zxA := @List.append_assoc
abbrev zxB := @List.mem_map
abbrev zxC := @List.nodup_append
abbrev zxD := @PySem.wpAny_bind
abbrev zxE := @PySem.wpAny_pure
abbrev zxF := @PySem.Heap.get?_push_of_some
abbrev zxG := @PySem.Heap.lt_size
abbrev zxH := @PySem.Heap.get?_push_size
abbrev zxI := @PySem.wpAny_newObj_type
abbrev zxJ := @PySem.Around.under_plainId
abbrev zxK := @PySem.wpAny_holding
abbrev zxL := @PySem.Heap.get?_update_other
abbrev zxM := @PySem.codeAny_builtin
abbrev zxN := @PySem.plainId_quiet
abbrev zxO := @PySem.Heap.size_push
abbrev zxP := @PySem.Heap.get?_update_self
abbrev zxQ := @PySem.wpAny_mono
abbrev zxR := @PySem.wpAny_call_entry
section
namespace L2
open PySem PySem.Spec PyProof.Rows
abbrev Key := Sum Int Str
def zcF : Key -> Value -> Bool
 | .inl k, v => Value.isInt k v
 | .inr x, v => Value.isStrOf x v
def zrA (w : World) : Key -> Int
 | .inl k => hashInt k
 | .inr x => hashStr w x
theorem yQ : ∀ {k : Key} {v : Value}, zcF k v = true -> (∃ i t, k = Sum.inl i /\ v = Value.int i t) \/ (∃ x t, k = Sum.inr x /\ v = Value.str x t)
 | .inl i, v, h => by
  obtain ⟨t, e⟩ := Value.isInt_shape (k := i) (v := v) h
  exact .inl ⟨i, t, rfl, e⟩
 | .inr x, v, h => by
  obtain ⟨t, e⟩ := Value.isStrOf_shape (x := x) (v := v) h
  exact .inr ⟨x, t, rfl, e⟩
theorem zhY (i : Int) (t : Tok) : zcF (.inl i) (.int i t) = true := by simp [zcF, Value.isInt]
theorem zir (x : Str) (t : Tok) : zcF (.inr x) (.str x t) = true := by simp [zcF, Value.isStrOf]
theorem zob (a b : Int) : decide ((Sum.inl a : Key) = Sum.inl b) = (a == b) := by
 by_cases e : a = b
 · subst e; simp
 · have h : ¬ (Sum.inl a : Key) = Sum.inl b := λ q => e (Sum.inl.inj q)
   rw [zyD h]
   exact (beq_eq_false_iff_ne.mpr e).symm
theorem znK (a b : Str) : decide ((Sum.inr a : Key) = Sum.inr b) = decide (a = b) := by
 by_cases e : a = b
 · subst e; simp
 · have h : ¬ (Sum.inr a : Key) = Sum.inr b := λ q => e (Sum.inr.inj q)
   rw [zyD h, zyD e]
theorem zoy (a : Int) (b : Str) : decide ((Sum.inl a : Key) = Sum.inr b) = false := zyD (λ q => nomatch q)
theorem znQ (a : Str) (b : Int) : decide ((Sum.inr a : Key) = Sum.inl b) = false := zyD (λ q => nomatch q)
def yz (prog : Program) (w : World) : PySem.KeyKind prog w Key where
 is := zcF
 hash := zrA w
 inj := λ v a b ha hb => by
  rcases yQ ha with ⟨i, t, rfl, rfl⟩ | ⟨x, t, rfl, rfl⟩
  · rcases yQ hb with ⟨j, u, rfl, e⟩ | ⟨y, u, rfl, e⟩
    · injection e with e1 _; rw [e1]
    · exact nomatch e
  · rcases yQ hb with ⟨j, u, rfl, e⟩ | ⟨y, u, rfl, e⟩
    · exact nomatch e
    · injection e with e1 _; rw [e1]
 byValue := λ k v h => by
  rcases yQ h with ⟨i, t, rfl, rfl⟩ | ⟨x, t, rfl, rfl⟩ <;> rfl
 pyHash := λ hv h => by
  rcases yQ hv with ⟨i, t, rfl, rfl⟩ | ⟨x, t, rfl, rfl⟩
  · exact wpAny_pyHash_int h
  · exact wpAny_pyHash_str h
 eqBool := λ hu hv h => by
  rcases yQ hu with ⟨i, t, rfl, rfl⟩ | ⟨x, t, rfl, rfl⟩
  · rcases yQ hv with ⟨j, u, rfl, rfl⟩ | ⟨y, u, rfl, rfl⟩
    · rw [zob] at h; exact wpAny_eqBool_int h
    · rw [zoy] at h; exact SeqAt.EqAt.int_str i t y u _ _ _ _ h
  · rcases yQ hv with ⟨j, u, rfl, rfl⟩ | ⟨y, u, rfl, rfl⟩
    · rw [znQ] at h; exact SeqAt.EqAt.str_int x t j u _ _ _ _ h
    · rw [znK] at h; exact wpAny_eqBool_str h
 «strs» := λ k x t v h => by
  rcases yQ h with ⟨i, u, rfl, e⟩ | ⟨y, u, rfl, e⟩
  · exact nomatch e
  · injection e with e1 _
    subst e1
    cases v <;> rfl
theorem zfb (prog : Program) (w : World) (i : Int) (t : Tok) : (yz prog w).is (.inl i) (.int i t) = true := zhY i t
theorem Xy (prog : Program) (w : World) (x : Str) (t : Tok) : (yz prog w).is (.inr x) (.str x t) = true := zir x t
end L2
namespace L2
open PySem PySem.Spec PyProof.Rows
inductive V where
 | non | bl (b : Bool) | int (i : Int) | str (x : Str) | byt (b : Array UInt8) | flt (b : UInt64) | ref (a : Addr) | ty (n : String)
 deriving DecidableEq
def RelV : V -> Value -> Prop
 | .non, u => u = Value.none
 | .bl b, u => u = Value.bool b
 | .int i, u => ∃ t, u = Value.int i t
 | .str x, u => ∃ t, u = Value.str x t
 | .byt b, u => ∃ t, u = Value.bytes b t
 | .flt b, u => ∃ t, u = Value.float b t
 | .ref a, u => u = Value.ref a
 | .ty n, u => u = Value.type n
abbrev Vals : List V -> List Value -> Prop := Paired RelV
theorem Vals.length (r : Vals xs us) : xs.length = us.length := Paired.length r
theorem Vals.get : ∀ {xs : List V} {us : List Value} {i : Nat} {x : V}, Vals xs us -> xs[i]? = some x -> ∃ u, us[i]? = some u /\ RelV x u
 | _, _, _, _, .nil, e => by simp at e
 | _, _, 0, _, .cons r _, e => by simp at e; subst e; exact ⟨_, rfl, r⟩
 | _, _, i + 1, x, .cons _ t, e => by
  obtain ⟨u, h1, h2⟩ := Vals.get (i := i) (x := x) t (by simpa using e)
  exact ⟨u, by simpa using h1, h2⟩
theorem Vals.set (r : RelV x u) : ∀ {xs : List V} {us : List Value} (i : Nat), Vals xs us -> Vals (xs.set i x) (us.set i u)
 | _, _, _, .nil => .nil
 | _, _, 0, .cons _ t => .cons r t
 | _, _, i + 1, .cons q t => .cons q (Vals.set r i t)
theorem Vals.append : ∀ {xs ys : List V} {us ws : List Value}, Vals xs us -> Vals ys ws -> Vals (xs ++ ys) (us ++ ws)
 | _, _, _, _, .nil, s => s
 | _, _, _, _, .cons r t, s => .cons r (Vals.append t s)
theorem Vals.take : ∀ {xs : List V} {us : List Value} (n : Nat), Vals xs us -> Vals (xs.take n) (us.take n)
 | _, _, 0, _ => .nil
 | _, _, _ + 1, .nil => .nil
 | _, _, n + 1, .cons r t => .cons r (Vals.take n t)
theorem Vals.drop : ∀ {xs : List V} {us : List Value} (n : Nat), Vals xs us -> Vals (xs.drop n) (us.drop n)
 | _, _, 0, r => r
 | _, _, _ + 1, .nil => .nil
 | _, _, n + 1, .cons _ t => Vals.drop n t
def zbU : Option V -> Option Value -> Prop
 | some v, some u => RelV v u
 | none, none => True
 | _, _ => False
def KV {κ : Type} : List (κ × V) -> List (κ × Value) -> Prop := Paired λ (p : κ × V) (q : κ × Value) => p.1 = q.1 /\ RelV p.2 q.2
def kV : Key -> V
 | .inl i => .int i
 | .inr x => .str x
inductive HO where
 | lst (xs : List V)
 | tup (xs : List V)
 | dK (kvs : List (Key × V)) | dT (kvs : List (List Key × V))
 | set (S : Int -> Bool) (n : Nat)
 | ins (C dx : Addr) (fs : List (Str × V))
 | own (x : Addr)
 | xd (fs : List (Str × V))
 | met (f x : Addr)
 | rng (lo hi : Int)
 | frz (o : Obj) (u : HO)
 | tbl (ps : Array Value)
 | ext (φ : Heap -> Prop)
abbrev Hp := Addr -> Option HO
def upd (H : Hp) (a : Addr) (o : HO) : Hp := λ b => if b = a then some o else H b
theorem yc : upd H a o a = some o := by unfold upd; rw [if_pos rfl]
theorem zQ (h : b ≠ a) : upd H a o b = H b := by unfold upd; rw [if_neg h]
theorem zpq {H : Hp} {a b : Addr} {o u : HO} (h : H a = some o) (h' : H b = some u) (d : o ≠ u) : a ≠ b := by
 intro e; subst e; rw [h] at h'; exact d (zzW h')
theorem yH {H : Hp} {a b : Addr} {o : HO} (h : H a = some o) (h' : H b = none) : a ≠ b := by
 intro e; subst e; rw [h] at h'; cases h'
section
variable (P : Program) (w : World)
def yI (H : Hp) (h : Heap) (a : Addr) : HO -> Prop
 | .lst xs => xs.length <= sizeLine /\ ∃ (its : List Value) (n : Nat), Vals xs its /\ h.get? a = some { cls := .type "list", data := .seq its.toArray n }
 | .tup xs => xs.length <= sizeLine /\ ∃ its : List Value, Vals xs its /\ IsTup h a its.toArray
 | .dK kvs => kvs.length <= sizeLine /\ (a == sysModules) = false /\ ∃ vs, KV kvs vs /\ h.DictOf (yz P w) a vs
 | .dT kvs => kvs.length <= sizeLine /\ (a == sysModules) = false /\ ∃ xs : List (List Key × Addr × Value),
  Paired (λ (p : List Key × V) (q : List Key × Addr × Value) => p.1 = q.1 /\ H q.2.1 = some (.tup (p.1.map kV)) /\ RelV p.2 q.2.2) kvs xs /\
  ∃ o es ep, h.get? a = some o /\ o.ExactDict /\ o.data = .dict es ep /\ es.toList = xs.map (entryOfKey (tupleKind (yz P w))) /\ (xs.map (·.1)).Nodup
 | .set S n => h.SetOf (intKind P w) a S n
 | .ins C dx fs => H dx = some (.own a) /\ fs.length <= 1000 /\ dx ≠ a /\ h.get? a = some (PySem.W.instObj C dx) /\
  ∃ mA, h.Ns1 dx mA /\ (∀ f, zbU (fs.lookup f) (mA f)) /\ PySem.Within mA (fs.map (·.1))
 | .own _ => ∃ o, h.get? a = some o
 | .xd fs => ∃ mA, h.Ns1 a mA /\ ∀ f, zbU (fs.lookup f) (mA f)
 | .rng lo hi => ∃ t u v, h.get? a = some { cls := .type "range", data := .fields #[.int lo t, .int hi u, .int 1 v] }
 | .frz o u => h.get? a = some o /\ yI H h a u
 | .tbl ps => h.get? a = some { cls := .none, data := .fields ps }
 | .met f x => h.get? a = some (PySem.W.methodObj (.ref f) (.ref x))
 | .ext φ => φ h /\ (∃ o, h.get? a = some o) /\ ∀ h1 h2 : Heap, φ h1 -> (∀ o, h1.get? a = some o -> h2.get? a = some o) -> φ h2
def HOk (H : Hp) (h : Heap) : Prop := ∀ a o, H a = some o -> yI P w H h a o
end
section
variable {P : Program} {w : World} {H H' : Hp} {h h' : Heap} {a : Addr} {o : HO}
theorem yI.lt (x : yI P w H h a o) : a < h.objs.size := by
 cases o with
 | lst xs => obtain ⟨_, _, _, _, e⟩ := x; exact zxG e
 | tup xs => obtain ⟨_, _, _, p⟩ := x; exact p.lt
 | dK kvs => obtain ⟨_, _, _, _, o, _, _, e, _⟩ := x; exact zxG e
 | dT kvs => obtain ⟨_, _, _, _, o, _, _, e, _⟩ := x; exact zxG e
 | set S n => obtain ⟨o, _, _, _, e, _⟩ := x; exact zxG e
 | ins C dx fs => obtain ⟨_, _, _, e, _⟩ := x; exact zxG e
 | own y => obtain ⟨_, e⟩ := x; exact zxG e
 | xd fs => obtain ⟨_, ⟨_, _, _, e, _⟩, _⟩ := x; exact zxG e
 | rng lo hi => obtain ⟨_, _, _, e⟩ := x; exact zxG e
 | frz ob u => obtain ⟨e, _⟩ := x; exact zxG e
 | tbl ps => exact zxG (show h.get? a = some _ from x)
 | met f y => exact zxG (show h.get? a = some _ from x)
 | ext φ => obtain ⟨_, ⟨_, e⟩, _⟩ := x; exact zxG e
theorem Paired.mapP : ∀ {l₁ : List α} {l₂ : List β}, Paired F l₁ l₂ -> (∀ a b, F a b -> G a b) -> Paired G l₁ l₂
 | _, _, .nil, _ => .nil
 | _, _, .cons r t, f => .cons (f _ _ r) (Paired.mapP t f)
theorem yI.stay (x : yI P w H h a o) (k : ∀ b u, (b = a \/ H b = some (.own a)) -> h.get? b = some u -> h'.get? b = some u)
 (ho : ∀ b, H b = some (.own a) -> H' b = some (.own a)) (ht : ∀ b xs, H b = some (.tup xs) -> H' b = some (.tup xs)) : yI P w H' h' a o := by
 induction o with
 | lst xs => obtain ⟨z, its, n, r, e⟩ := x; exact ⟨z, its, n, r, k _ _ (.inl rfl) e⟩
 | tup xs => obtain ⟨z, its, r, ob, e, c⟩ := x; exact ⟨z, its, r, ob, k _ _ (.inl rfl) e, c⟩
 | dK kvs => obtain ⟨z, y, vs, r, ob, es, ep, e, c⟩ := x; exact ⟨z, y, vs, r, ob, es, ep, k _ _ (.inl rfl) e, c⟩
 | dT kvs =>
  obtain ⟨z, y, xs, r, ob, es, ep, e, c⟩ := x
  exact ⟨z, y, xs, Paired.mapP r λ p q z => ⟨z.1, ht _ _ z.2.1, z.2.2⟩, ob, es, ep, k _ _ (.inl rfl) e, c⟩
 | set S n => obtain ⟨ob, es, ep, t, e, c⟩ := x; exact ⟨ob, es, ep, t, k _ _ (.inl rfl) e, c⟩
 | ins C dx fs =>
  obtain ⟨d, z, ne, e, mA, ⟨od, es, ep, e2, c⟩, r⟩ := x
  exact ⟨ho _ d, z, ne, k _ _ (.inl rfl) e, mA, ⟨od, es, ep, k _ _ (.inr d) e2, c⟩, r⟩
 | own y => obtain ⟨ob, e⟩ := x; exact ⟨ob, k _ _ (.inl rfl) e⟩
 | xd fs => obtain ⟨mA, ⟨od, es, ep, e, c⟩, r⟩ := x; exact ⟨mA, ⟨od, es, ep, k _ _ (.inl rfl) e, c⟩, r⟩
 | rng lo hi => obtain ⟨t, u, v, e⟩ := x; exact ⟨t, u, v, k _ _ (.inl rfl) e⟩
 | frz ob u ih => obtain ⟨e, q⟩ := x; exact ⟨k _ _ (.inl rfl) e, ih q⟩
 | tbl ps =>
  have e : h.get? a = some { cls := .none, data := .fields ps } := x
  show h'.get? a = some { cls := .none, data := .fields ps }
  exact k a _ (.inl rfl) e
 | met f y =>
  have e : h.get? a = some (PySem.W.methodObj (.ref f) (.ref y)) := x
  show h'.get? a = some (PySem.W.methodObj (.ref f) (.ref y))
  exact k a _ (.inl rfl) e
 | ext φ => obtain ⟨p, ⟨o, e⟩, st⟩ := x; exact ⟨st _ _ p λ o q => k _ _ (.inl rfl) q, ⟨o, k _ _ (.inl rfl) e⟩, st⟩
theorem HOk.lt (x : HOk P w H h) (e : H a = some o) : a < h.objs.size := (x a o e).lt
theorem HOk.fresh (x : HOk P w H h) (e : h.objs.size <= a) : H a = none := by
 cases q : H a with
 | none => rfl
 | some u => exact absurd (zzH (x.lt q) e) (Nat.lt_irrefl _)
theorem HOk.kept (x : HOk P w H h) (k : ∀ b u, h.get? b = some u -> h'.get? b = some u) : HOk P w H h' := λ a o e =>
 (x a o e).stay (λ b u _ q => k b u q) (λ _ q => q) λ _ _ q => q
theorem HOk.laid (x : HOk P w H h) (k : ∀ b u, h.get? b = some u -> h'.get? b = some u) (hp : h.objs.size <= a) (new : yI P w (upd H a o) h' a o) : HOk P w (upd H a o) h' := λ b u e => by
 have hn := x.fresh hp
 by_cases hb : b = a
 · subst hb; rw [yc] at e; cases e; exact new
 · rw [zQ hb] at e
   exact (x b u e).stay (λ c v _ q => k c v q) (λ c q => by rw [zQ (yH q hn)]; exact q) λ c xs q => by rw [zQ (yH q hn)]; exact q
end
def Rd (H : Hp) (a : Addr) (u : HO) : Prop := H a = some u \/ ∃ o, H a = some (.frz o u)
theorem Rd.ok (r : Rd H a u) (x : HOk P w H h) : yI P w H h a u := by
 rcases r with r | ⟨o, r⟩
 · exact x a u r
 · obtain ⟨_, q⟩ := x a _ r
   exact q
def Mut : Option HO -> Prop
 | some (.lst _) => True
 | some (.dK _) => True
 | some (.dT _) => True
 | some (.set _ _) => True
 | some (.ins _ _ _) => True
 | some (.ext _) => True
 | _ => False
section
variable {P : Program} {w : World} {H : Hp} {h h' : Heap} {x e : Addr} {o' : HO}
theorem HOk.write (ok : HOk P w H h) (mu : Mut (H x)) (he : e = x \/ H e = some (.own x)) (k : ∀ b u, b ≠ e -> h.get? b = some u -> h'.get? b = some u) (heo : ∃ u, h'.get? e = some u)
 (new : yI P w (upd H x o') h' x o') : HOk P w (upd H x o') h' := λ b u q => by
 have nown : ∀ c y, H c = some (.own y) -> c ≠ x := λ c y r z => by subst z; rw [r] at mu; exact mu
 have ntup : ∀ c xs, H c = some (.tup xs) -> c ≠ x := λ c xs r z => by subst z; rw [r] at mu; exact mu
 by_cases hb : b = x
 · subst hb; rw [yc] at q; cases q; exact new
 · rw [zQ hb] at q
   by_cases hbe : b = e
   · have q' : H b = some (.own x) := by
      rcases he with z | z
      · exact absurd (hbe.trans z) hb
      · rw [hbe]; exact z
     rw [q] at q'; cases q'
     obtain ⟨v, hv⟩ := heo
     exact ⟨v, by rw [hbe]; exact hv⟩
   · refine (ok b u q).stay (λ c v hc r => k c v ?_ r) (λ c r => by rw [zQ (nown c b r)]; exact r) λ c xs r => by rw [zQ (ntup c xs r)]; exact r
     rcases hc with rfl | hc
     · exact hbe
     · rintro rfl
       rcases he with z | z
       · exact nown c b hc z
       · rw [hc] at z; cases z; exact hb rfl
end
structure Un (fs ex : List Addr) (H H' : Hp) (h h' : Heap) : Prop where
 keep : ∀ b o, h.get? b = some o -> H b = none -> b ∉ fs -> b ∉ ex -> h'.get? b = some o
 slot : ∀ b o, h.get? b = some o -> H b = none -> b ∈ fs -> b ∉ ex -> ∃ sl, h'.get? b = some { o with slots := sl }
 free : ∀ b o, h.get? b = some o -> H b = none -> b ∉ ex -> H' b = none
 there : ∀ b o, h.get? b = some o -> b ∉ ex -> ∃ o', h'.get? b = some o'
 tups : ∀ b xs, H b = some (.tup xs) -> H' b = some (.tup xs)
 frzs : ∀ b o u, H b = some (.frz o u) -> H' b = some (.frz o u)
 tbls : ∀ b ps, H b = some (.tbl ps) -> ∃ more, H' b = some (.tbl (ps ++ more))
section
variable {fs fs' ex ex' : List Addr} {H H1 H2 : Hp} {h h1 h2 h' : Heap} {a x e : Addr} {o : HO}
theorem Un.any (u : Un fs ex H H1 h h1) (q : h.get? b = some ob) (n : H b = none) (hx : b ∉ ex) : ∃ sl, h1.get? b = some { ob with slots := sl } := by
 by_cases hb : b ∈ fs
 · exact u.slot b ob q n hb hx
 · exact ⟨ob.slots, u.keep b ob q n hb hx⟩
theorem Un.kept (k : ∀ b u, h.get? b = some u -> h'.get? b = some u) : Un fs ex H H h h' :=
 ⟨λ b ob q _ _ _ => k b ob q, λ b ob q _ _ _ => ⟨ob.slots, k b ob q⟩, λ _ _ _ n _ => n, λ b ob q _ => ⟨ob, k b ob q⟩, λ _ _ q => q, λ _ _ _ q => q, λ _ ps q => ⟨#[], by rw [q]; simp⟩⟩
theorem Un.refl : Un fs ex H H h h := Un.kept λ _ _ q => q
theorem Un.laid (k : ∀ b u, h.get? b = some u -> h'.get? b = some u) (hp : h.objs.size <= a) (hn : H a = none) : Un fs ex H (upd H a o) h h' where
 keep := λ b u q _ _ _ => k b u q
 slot := λ b u q _ _ _ => ⟨u.slots, k b u q⟩
 free := λ b u q n _ => by rw [zQ (zzN (zzH (zxG q) hp))]; exact n
 there := λ b u q _ => ⟨u, k b u q⟩
 tups := λ b xs q => by rw [zQ (yH q hn)]; exact q
 frzs := λ b u xs q => by rw [zQ (yH q hn)]; exact q
 tbls := λ b ps q => ⟨#[], by rw [zQ (yH q hn), q]; simp⟩
theorem Un.write (mu : Mut (H x)) (he : e = x \/ H e = some (.own x)) (k : ∀ b u, b ≠ e -> h.get? b = some u -> h'.get? b = some u) (heo : ∃ u, h'.get? e = some u) : Un fs ex H (upd H x o) h h' := by
 have hx : ∀ b, H b = none -> b ≠ x := λ b n z => by subst z; rw [n] at mu; exact mu
 have hb : ∀ b, H b = none -> b ≠ e := λ b n z => by
  subst z
  rcases he with r | r
  · exact hx b n r
  · rw [n] at r; cases r
 have hm : ∀ b u, H b = some u -> ¬ Mut (some u) -> b ≠ x := λ b u q nm z => by subst z; rw [q] at mu; exact nm mu
 refine ⟨λ b u q n _ _ => k b u (hb b n) q, λ b u q n _ _ => ⟨u.slots, k b u (hb b n) q⟩, λ b u q n _ => by rw [zQ (hx b n)]; exact n, λ b u q _ => ?_,
  λ b xs q => by rw [zQ (hm b _ q λ z => z)]; exact q, λ b u xs q => by rw [zQ (hm b _ q λ z => z)]; exact q, λ b ps q => ⟨#[], by rw [zQ (hm b _ q λ z => z), q]; simp⟩⟩
 by_cases hbe : b = e
 · subst hbe; exact heo
 · exact ⟨u, k b u hbe q⟩
end
def trk (h : Heap) (H : Hp) : List Addr := (List.range h.objs.size).filter λ a => (H a).isSome
def zdM (h : Heap) (H : Hp) : Heap := PySem.W.hideAll h (trk h H)
theorem zhT (h : Heap) (H : Hp) : (zdM h H).objs.size = h.objs.size := PySem.W.hideAll_size _ _
theorem zkq (e : h.get? b = some o) (n : H b = none) : (zdM h H).get? b = some o :=
 PySem.W.hideAll_get _ e λ hm => by
  have q : (H b).isSome = true := (List.mem_filter.mp hm).2
  rw [n] at q; simp at q
theorem zlB (e : (zdM h H).get? b = some o) : h.get? b = some o /\ H b = none := by
 have e' : h.get? b = some o := PySem.W.of_hideAll (trk h H) e
 refine ⟨e', ?_⟩
 cases q : H b with
 | none => rfl
 | some x =>
  have hm : b ∈ trk h H := List.mem_filter.mpr ⟨List.mem_range.mpr (zxG e'), by simp [q]⟩
  have z : (zdM h H).get? b = none := PySem.W.hideAll_none (trk h H) hm
  rw [z] at e; cases e
end L2
namespace L2
open PySem PySem.Spec PyProof.Rows
structure Mod (K : zC) (mg : Str -> Option Value) (base : Heap) : Prop where
 kin : K.In base
 glob : base.Ns mainGlobals mg
 blt : ∃ mb, base.Ns builtinsNs mb /\ ∀ x : Str, x ≠ "__name__" -> mb x = bootBuiltins x
 nolimit : base.NoLimit
structure Cx where
 prog : Program
 w : World
 K : zC
 mg : Str -> Option Value
 base : Heap
 A : Around
 N : List Str
 s₀ : Shared
 H₀ : Hp
 env : Env
 outer : List Env
 stack : List Env
 ex : List Addr
 fn : Str -> Bool
 calm : Bool
 pn : List (Addr × Obj)
 xe : Value -> Shared -> Prop
def frs (l : List Env) : List Addr := l.filterMap (·.frame)
abbrev Cx.fs (X : Cx) : List Addr := frs X.outer
def Vis (sc : Scope) (x : Str) : Prop := sc.names.lookup x = some .local \/ sc.names.lookup x = some .cell \/ sc.names.lookup x = some .free
def Loc (sc : Scope) (x : Str) : Prop := sc.names.lookup x = some .local \/ sc.names.lookup x = some .cell
def Look (env : Env) (h : Heap) (m : Str -> Option Value) (x : Str) (u : Value) : Prop :=
 (env.kindOf x = some .local /\ m x = some u) \/ ((env.kindOf x = some .cell \/ env.kindOf x = some .free) /\ ∃ c, env.cells.lookup x = some c /\ h.IsCell c (some u))
structure Cx.Ok (X : Cx) : Prop where
 mod : Mod X.K X.mg X.base
 kind : X.env.scope.kind = .function
 glob : X.env.globals = mainGlobals
 blt : X.env.builtins = builtinsNs
 above : X.s₀.heap.objs.size <= X.env.locals
 inj : ∀ x y c, X.env.cells.lookup x = some c -> X.env.cells.lookup y = some c -> x = y
 has : ∀ x, (X.env.kindOf x = some .cell \/ X.env.kindOf x = some .free) -> ∃ c, X.env.cells.lookup x = some c
 cab : ∀ x c, X.fn x = true -> X.env.cells.lookup x = some c -> X.s₀.heap.objs.size <= c
 hd : X.calm = true -> X.A.handled = none
 frames : X.A.frames = some X.stack
 stk : X.stack = X.outer \/ (X.stack = X.env :: X.outer /\ X.env.frame = some X.env.locals)
 exf : ∀ b ∈ X.ex, b ≠ X.env.locals /\ ∀ x c, X.env.cells.lookup x = some c -> c ≠ b
 bs : ∀ b o, X.base.get? b = some o -> X.s₀.heap.get? b = some o /\ X.H₀ b = none
 bsz : X.base.objs.size <= X.s₀.heap.objs.size
 noex : ∀ b o, X.base.get? b = some o -> b ∉ X.ex
 exfs : ∀ b ∈ X.ex, b ∉ X.fs
 funs : X.s₀.heap.FunFrames X.base X.outer
 frf : ∀ b ∈ X.fs, X.H₀ b = none
structure Inv (X : Cx) (pins : List (Addr × Obj)) (σ : List (Option V)) (H : Hp) (s : Shared) : Prop where
 ok : X.Ok
 os : s.os = X.s₀.os
 bare : AllBare s.gens
 base : Un X.fs X.ex X.H₀ H X.s₀.heap s.heap
 loc : ∃ m, s.heap.Ns X.env.locals m /\ ∀ (i : Nat) (x : Str) (v : V), X.N[i]? = some x -> σ[i]? = some (some v) -> Vis X.env.scope x -> ∃ u, RelV v u /\ Look X.env s.heap m x u
 cell : ∀ x c, X.env.cells.lookup x = some c -> ∃ v, s.heap.IsCell c v
 free : H X.env.locals = none
 freeC : ∀ x c, X.env.cells.lookup x = some c -> H c = none
 pin : ∀ p ∈ X.pn ++ pins, s.heap.get? p.1 = some p.2 /\ H p.1 = none /\ p.1 ≠ X.env.locals /\ p.1 ∉ X.fs /\ ∀ v, p.2.data ≠ .cell v
 hok : HOk X.prog X.w H s.heap
 len : σ.length = X.N.length
section
variable {X : Cx} {pins : List (Addr × Obj)} {σ : List (Option V)} {H H' : Hp} {s : Shared} {h' : Heap}
theorem Cx.Ok.nofr (ok : X.Ok) (e : X.base.get? b = some o) : b ∉ X.fs := λ hb => by
 have := (ok.funs.mem hb).1
 rw [e] at this; cases this
theorem Inv.bs (I : Inv X pins σ H s) : ∀ b o, X.base.get? b = some o -> s.heap.get? b = some o /\ H b = none := λ b o e =>
 ⟨I.base.keep b o (I.ok.bs b o e).1 (I.ok.bs b o e).2 (I.ok.nofr e) (I.ok.noex b o e), I.base.free b o (I.ok.bs b o e).1 (I.ok.bs b o e).2 (I.ok.noex b o e)⟩
theorem Inv.bk (I : Inv X pins σ H s) : ∀ b o, X.base.get? b = some o -> s.heap.get? b = some o := λ b o e => (I.bs b o e).1
theorem Inv.mod (I : Inv X pins σ H s) : Mod X.K X.mg X.base := I.ok.mod
theorem Inv.kIn (I : Inv X pins σ H s) : X.K.In s.heap := I.ok.mod.kin.keeps I.bk
theorem Inv.lt (I : Inv X pins σ H s) : X.env.locals < s.heap.objs.size := let ⟨_, hn, _⟩ := I.loc; hn.lt
theorem Inv.sz (I : Inv X pins σ H s) : X.s₀.heap.objs.size <= s.heap.objs.size := zzL I.ok.above (Nat.le_of_lt I.lt)
theorem Inv.nofs (I : Inv X pins σ H s) (h : s.heap.objs.size <= a) : a ∉ X.fs := λ hb => by
 obtain ⟨_, o, ho, _⟩ := I.ok.funs.mem hb
 exact absurd (zzH (zxG ho) (zzL I.sz h)) (Nat.lt_irrefl _)
theorem Inv.cne (I : Inv X pins σ H s) : ∀ x c, X.env.cells.lookup x = some c -> c ≠ X.env.locals := λ x c e z => by
 obtain ⟨v, o, ho, hd⟩ := I.cell x c e
 obtain ⟨m, ⟨o', es, ep, ho', hd', _⟩, _⟩ := I.loc
 rw [z, ho'] at ho; cases ho; rw [hd'] at hd; cases hd
theorem Inv.funs (I : Inv X pins σ H s) : s.heap.FunFrames X.base X.outer := by
 have all : ∀ (l : List Env), (∀ b ∈ frs l, b ∈ X.fs) -> X.s₀.heap.FunFrames X.base l -> s.heap.FunFrames X.base l := by
  intro l
  induction l with
  | nil => intro _ _; trivial
  | cons env r ih =>
   intro hs hl
   obtain ⟨hk, ⟨L, o, hf, hn, ho, hd⟩, hr⟩ := hl
   have hL : L ∈ X.fs := hs L (by unfold frs; rw [List.filterMap_cons, hf]; exact zzC)
   obtain ⟨sl, e⟩ := I.base.slot L o ho (I.ok.frf L hL) hL λ z => I.ok.exfs L z hL
   exact ⟨hk, ⟨L, _, hf, hn, e, hd⟩, ih (λ b hb => hs b (by unfold frs; rw [List.filterMap_cons, hf]; exact zzA _ hb)) hr⟩
 exact all X.outer (λ _ hb => hb) I.ok.funs
theorem Inv.stack (I : Inv X pins σ H s) : s.heap.FunFrames X.base X.stack := by
 rcases I.ok.stk with e | ⟨e, hf⟩
 · rw [e]; exact I.funs
 · rw [e]
   obtain ⟨m, hn, _⟩ := I.loc
   refine .cons (by rw [I.ok.kind]; decide) hf hn ?_ I.funs
   exact Heap.get?_none_of_le (zzL I.ok.bsz I.ok.above)
theorem Inv.stkSub (I : Inv X pins σ H s) : ∀ b ∈ frs X.stack, b ∈ X.env.locals :: X.fs := λ b hb => by
 rcases I.ok.stk with e | ⟨e, hf⟩
 · rw [e] at hb; exact zzA _ hb
 · rw [e] at hb
   unfold frs at hb
   rw [List.filterMap_cons, hf] at hb
   exact hb
theorem Inv.stkFree (I : Inv X pins σ H s) : ∀ b ∈ frs X.stack, H b = none := λ b hb => by
 rcases zS.mp (I.stkSub b hb) with e | hb
 · rw [e]; exact I.free
 · obtain ⟨_, o, ho, _⟩ := I.ok.funs.mem hb
   exact I.base.free b o ho (I.ok.frf b hb) λ z => I.ok.exfs b z hb
theorem Inv.step {g' : Array GenState} {t' : Nat} {d' : Drawn} {ch : List Addr} (I : Inv X pins σ H s)
 (hch : ∀ b ∈ ch, (b ∈ X.ex \/ X.s₀.heap.objs.size <= b) /\ b ≠ X.env.locals /\ (∀ x c, X.env.cells.lookup x = some c -> c ≠ b) /\ ∀ p ∈ X.pn ++ pins, p.1 ≠ b)
 (keep : ∀ b o, b ≠ X.env.locals -> b ∉ X.fs -> b ∉ ch -> s.heap.get? b = some o -> H b = none -> h'.get? b = some o)
 (slot : ∀ b o, b ≠ X.env.locals -> b ∈ X.fs -> b ∉ ch -> s.heap.get? b = some o -> H b = none -> ∃ sl, h'.get? b = some { o with slots := sl }) (free : ∀ b o, b ∉ ch -> s.heap.get? b = some o -> H b = none -> H' b = none)
 (there : ∀ b o, b ∉ ch -> s.heap.get? b = some o -> ∃ o', h'.get? b = some o')
 (tups : ∀ b xs, H b = some (.tup xs) -> H' b = some (.tup xs)) (frzs : ∀ b o u, H b = some (.frz o u) -> H' b = some (.frz o u)) (tbls : ∀ b ps, H b = some (.tbl ps) -> ∃ more, H' b = some (.tbl (ps ++ more)))
 (ns : ∀ m, s.heap.Ns X.env.locals m -> h'.Ns X.env.locals m) (hok : HOk X.prog X.w H' h') (hg : AllBare g') :
 Inv X pins σ H' { s with heap := h', gens := g', drawn := d', toks := t' } := by
 have neL : ∀ b o, X.s₀.heap.get? b = some o -> b ≠ X.env.locals := λ b o e => zzN (zzH (zxG e) I.ok.above)
 have neC : ∀ b o, X.s₀.heap.get? b = some o -> b ∉ X.ex -> b ∉ ch := λ b o e hx hb => by
  rcases (hch b hb).1 with z | z
  · exact hx z
  · exact absurd (zzH (zxG e) z) (Nat.lt_irrefl _)
 have cellK : ∀ x c, X.env.cells.lookup x = some c -> ∀ v, s.heap.IsCell c v -> h'.IsCell c v := λ x c e v ⟨o, ho, hd⟩ => by
  have nch : c ∉ ch := λ z => (hch c z).2.2.1 x c e rfl
  by_cases hc : c ∈ X.fs
  · obtain ⟨sl, q⟩ := slot c o (I.cne x c e) hc nch ho (I.freeC x c e)
    exact ⟨_, q, hd⟩
  · exact ⟨o, keep c o (I.cne x c e) hc nch ho (I.freeC x c e), hd⟩
 refine ⟨I.ok, I.os, hg, ⟨λ b o e n hb hx => ?_, λ b o e n hb hx => ?_, λ b o e n hx => ?_, λ b o e hx => ?_, λ b xs e => tups b xs (I.base.tups b xs e), λ b o xs e => frzs b o xs (I.base.frzs b o xs e), λ b ps e => ?_⟩, ?_, λ x c e => ?_, ?_, λ x c e => ?_, λ p hp => ?_, hok, I.len⟩
 · exact keep b o (neL b o e) hb (neC b o e hx) (I.base.keep b o e n hb hx) (I.base.free b o e n hx)
 · obtain ⟨sl, e1⟩ := I.base.slot b o e n hb hx
   obtain ⟨sl', e2⟩ := slot b _ (neL b o e) hb (neC b o e hx) e1 (I.base.free b o e n hx)
   exact ⟨sl', e2⟩
 · obtain ⟨o', e1⟩ := I.base.there b o e hx
   exact free b o' (neC b o e hx) e1 (I.base.free b o e n hx)
 · obtain ⟨o', e1⟩ := I.base.there b o e hx
   exact there b o' (neC b o e hx) e1
 · obtain ⟨m1, e1⟩ := I.base.tbls b ps e
   obtain ⟨m2, e2⟩ := tbls b _ e1
   exact ⟨m1 ++ m2, by rw [e2, Array.append_assoc]⟩
 · obtain ⟨m, hn, hl⟩ := I.loc
   refine ⟨m, ns m hn, λ i x v e1 e2 e3 => ?_⟩
   obtain ⟨u, r, l⟩ := hl i x v e1 e2 e3
   refine ⟨u, r, ?_⟩
   rcases l with l | ⟨k, c, e, z⟩
   · exact .inl l
   · exact .inr ⟨k, c, e, cellK x c e _ z⟩
 · obtain ⟨v, z⟩ := I.cell x c e
   exact ⟨v, cellK x c e v z⟩
 · obtain ⟨m, ⟨o, _, _, ho, _⟩, _⟩ := I.loc
   exact free _ o (λ z => (hch _ z).2.1 rfl) ho I.free
 · obtain ⟨v, o, ho, hd⟩ := I.cell x c e
   exact free c o (λ z => (hch c z).2.2.1 x c e rfl) ho (I.freeC x c e)
 · obtain ⟨e, n, ne, nf, d⟩ := I.pin p hp
   have nch : p.1 ∉ ch := λ z => (hch p.1 z).2.2.2 p hp rfl
   exact ⟨keep p.1 p.2 ne nf nch e n, free p.1 p.2 nch e n, ne, nf, d⟩
theorem Inv.un {t' : Nat} (I : Inv X pins σ H s) (u : Un X.fs [] H H' s.heap h') (hok : HOk X.prog X.w H' h') : Inv X pins σ H' { s with heap := h', toks := t' } := by
 obtain ⟨m, ⟨o, es, ep, ho, r⟩, _⟩ := id I.loc
 obtain ⟨sl, hL⟩ := u.any ho I.free (by simp)
 exact I.step (g' := s.gens) (d' := s.drawn) (ch := []) (λ _ z => nomatch z) (λ b o _ hb _ e n => u.keep b o e n hb (by simp)) (λ b o _ hb _ e n => u.slot b o e n hb (by simp)) (λ b o _ e n => u.free b o e n (by simp)) (λ b o _ e => u.there b o e (by simp)) u.tups u.frzs u.tbls (λ m' hm => by
  obtain ⟨o', es', ep', ho', r'⟩ := hm
  rw [ho] at ho'; cases ho'
  exact ⟨_, es', ep', hL, r'⟩) hok I.bare
theorem Inv.call {g' : Array GenState} {t' : Nat} {d' : Drawn} {ch : List Addr} (I : Inv X pins σ H s) (u : Un (frs X.stack) ch H H' s.heap h') (hok : HOk X.prog X.w H' h') (hg : AllBare g')
 (hch : ∀ b ∈ ch, (b ∈ X.ex \/ X.s₀.heap.objs.size <= b) /\ b ≠ X.env.locals /\ (∀ x c, X.env.cells.lookup x = some c -> c ≠ b) /\ ∀ p ∈ X.pn ++ pins, p.1 ≠ b) :
 Inv X pins σ H' { s with heap := h', gens := g', drawn := d', toks := t' } := by
 obtain ⟨m, ⟨o, es, ep, ho, r⟩, _⟩ := id I.loc
 obtain ⟨sl, hL⟩ := u.any ho I.free λ z => (hch _ z).2.1 rfl
 exact I.step (ch := ch) hch (λ b o hL hb hc e n => u.keep b o e n (λ z => (zS.mp (I.stkSub b z)).elim hL hb) hc) (λ b o _ _ hc e n => u.any e n hc) (λ b o hc e n => u.free b o e n hc) (λ b o hc e => u.there b o e hc) u.tups u.frzs u.tbls (λ m' hm => by
  obtain ⟨o', es', ep', ho', r'⟩ := hm
  rw [ho] at ho'; cases ho'
  exact ⟨_, es', ep', hL, r'⟩) hok hg
theorem Inv.turned {t' : Nat} {it : Addr} (I : Inv X pins σ H s) (k : ∀ b o, b ≠ it -> s.heap.get? b = some o -> h'.get? b = some o) (hn : H it = none) (hL : it ≠ X.env.locals)
 (h1 : it ∈ X.ex \/ X.s₀.heap.objs.size <= it) (h2 : ∀ x c, X.env.cells.lookup x = some c -> c ≠ it) (h3 : ∀ p ∈ X.pn ++ pins, p.1 ≠ it) : Inv X pins σ H { s with heap := h', toks := t' } := by
 have nit : ∀ b u, H b = some u -> b ≠ it := λ b u e z => by rw [z, hn] at e; cases e
 refine I.step (g' := s.gens) (d' := s.drawn) (ch := [it]) (λ b hb => ?_) (λ b o _ _ hc e _ => k b o (λ z => hc (by simp [z])) e) (λ b o _ _ hc e _ => ⟨o.slots, k b o (λ z => hc (by simp [z])) e⟩) (λ _ _ _ _ n => n)
  (λ b o hc e => ⟨o, k b o (λ z => hc (by simp [z])) e⟩) (λ _ _ e => e) (λ _ _ _ e => e) (λ b ps e => ⟨#[], by rw [e]; simp⟩) (λ m hm => ?_) (λ b u e => ?_) I.bare
 · have e : b = it := by simpa using hb
   subst e
   exact ⟨h1, hL, h2, h3⟩
 · obtain ⟨o, es, ep, ho, r⟩ := hm
   exact ⟨o, es, ep, k _ o (Ne.symm hL) ho, r⟩
 · refine (I.hok b u e).stay (λ c v hc q => k c v ?_ q) (λ _ q => q) λ _ _ q => q
   rcases hc with z | z
   · rw [z]; exact nit b u e
   · exact nit c _ z
theorem Inv.tok (I : Inv X pins σ H s) (t : Nat) : Inv X pins σ H { s with toks := t } := I.un (h' := s.heap) (t' := t) Un.refl I.hok
theorem Inv.kept (I : Inv X pins σ H s) (k : ∀ b u, s.heap.get? b = some u -> h'.get? b = some u) : Inv X pins σ H { s with heap := h', toks := t' } := I.un (Un.kept k) (I.hok.kept k)
theorem Inv.laid (I : Inv X pins σ H s) (k : ∀ b u, s.heap.get? b = some u -> h'.get? b = some u) (hp : s.heap.objs.size <= a) (new : yI X.prog X.w (upd H a o) h' a o) :
 Inv X pins σ (upd H a o) { s with heap := h', toks := t' } := I.un (Un.laid k hp (I.hok.fresh hp)) (I.hok.laid k hp new)
theorem Inv.write (I : Inv X pins σ H s) (mu : Mut (H x)) (he : e = x \/ H e = some (.own x)) (k : ∀ b u, b ≠ e -> s.heap.get? b = some u -> h'.get? b = some u) (heo : ∃ u, h'.get? e = some u)
 (new : yI X.prog X.w (upd H x o) h' x o) : Inv X pins σ (upd H x o) { s with heap := h', toks := t' } := I.un (Un.write mu he k heo) (I.hok.write mu he k heo new)
theorem Inv.weak (I : Inv X pins σ H s) (hl : σ'.length = σ.length) (w : ∀ (i : Nat) v, σ'[i]? = some (some v) -> σ[i]? = some (some v)) : Inv X pins σ' H s :=
 ⟨I.ok, I.os, I.bare, I.base, let ⟨m, hn, hl'⟩ := I.loc; ⟨m, hn, λ i x v e1 e2 e3 => hl' i x v e1 (w i v e2) e3⟩, I.cell, I.free, I.freeC, I.pin, I.hok, hl.trans I.len⟩
theorem Inv.pins_of (I : Inv X pins σ H s) (h : ∀ p ∈ pins', s.heap.get? p.1 = some p.2 /\ H p.1 = none /\ p.1 ≠ X.env.locals /\ p.1 ∉ X.fs /\ ∀ v, p.2.data ≠ .cell v) : Inv X pins' σ H s :=
 ⟨I.ok, I.os, I.bare, I.base, I.loc, I.cell, I.free, I.freeC, λ p hp => (zzJ.mp hp).elim (λ z => I.pin p (zzM _ z)) (h p), I.hok, I.len⟩
theorem zeP {N : List Str} (hN : N.Nodup) {i j : Nat} {x : Str} (a : N[i]? = some x) (b : N[j]? = some x) : i = j := by
 obtain ⟨h1, e1⟩ := zzD.mp a
 obtain ⟨h2, e2⟩ := zzD.mp b
 exact (List.getElem_inj hN).mp (e1.trans e2.symm)
theorem zdq {M : Model} {A : Around} {E : Value -> Shared -> Prop} {i : Nat} {x : Str} {v : V} {u : Value} {Q : Unit -> Shared -> Prop} (I : Inv X pins σ H s) (hN : X.N.Nodup) (hi : X.N[i]? = some x) (hx : Loc X.env.scope x) (r : RelV v u)
 (h : ∀ s', Inv X pins (σ.set i (some v)) H s' -> (∃ a, Heap.SameBut a s.heap s'.heap /\ (a = X.env.locals \/ X.env.cells.lookup x = some a)) -> Q () s') (hf : X.fn x = true \/ X.env.scope.names.lookup x = some .local := by first | exact .inl rfl | exact .inr rfl | assumption) : wpAny M A (storeName X.env x u) Q E s := by
 obtain ⟨m, hn, hl⟩ := id I.loc
 have hcls : (X.env.scope.kind == .class || (X.env.scope.kind == .module && X.env.locals != X.env.globals)) = false := by rw [I.ok.kind]; rfl
 have hiσ : i < σ.length := by rw [I.len]; exact (zzD.mp hi).1
 have cne := I.cne
 have tracked : ∀ {a : Addr} {h' : Heap}, (∃ o, s.heap.get? a = some o /\ H a = none) -> Heap.SameBut a s.heap h' -> HOk X.prog X.w H h' := λ {a h'} ha hs b ob e => by
  obtain ⟨_, _, hfree⟩ := ha
  refine (I.hok b ob e).stay (λ c w' hc q => (hs.2 c ?_).trans q) (λ _ q => q) λ _ _ q => q
  rintro rfl
  rcases hc with rfl | hc
  · rw [hfree] at e; cases e
  · rw [hfree] at hc; cases hc
 rcases hx with hk | hk
 · refine wpAny_storeName_local hk hn (λ h' hn' hs => ?_) hcls
   obtain ⟨oL, _, _, hoL, _⟩ := id hn
   refine h _ ⟨I.ok, I.os, I.bare, ⟨λ b o e n hb hx => ?_, λ b o e n hb hx => ?_, I.base.free, λ b o e hx => ?_, I.base.tups, I.base.frzs, I.base.tbls⟩, ⟨_, hn', λ j y v' e1 e2 e3 => ?_⟩, λ y c e => ?_, I.free, I.freeC, λ p hp => ?_, tracked ⟨oL, hoL, I.free⟩ hs, by simpa using I.len⟩ ⟨_, hs, .inl rfl⟩
   · exact (hs.2 b (zzN (zzH (zxG e) I.ok.above))).trans (I.base.keep b o e n hb hx)
   · obtain ⟨sl, e1⟩ := I.base.slot b o e n hb hx
     exact ⟨sl, (hs.2 b (zzN (zzH (zxG e) I.ok.above))).trans e1⟩
   · obtain ⟨o', e1⟩ := I.base.there b o e hx
     exact ⟨o', (hs.2 b (zzN (zzH (zxG e) I.ok.above))).trans e1⟩
   · by_cases hj : j = i
     · subst hj
       rw [hi] at e1; cases e1
       rw [zyH hiσ] at e2
       cases e2
       exact ⟨u, r, .inl ⟨hk, by simp⟩⟩
     · rw [zzV (Ne.symm hj)] at e2
       obtain ⟨u', r', q⟩ := hl j y v' e1 e2 e3
       refine ⟨u', r', ?_⟩
       rcases q with ⟨k, e⟩ | ⟨k, c, e, z⟩
       · refine .inl ⟨k, ?_⟩
         have : y ≠ x := λ e => hj (zeP hN e1 (e ▸ hi))
         simp [this, e]
       · exact .inr ⟨k, c, e, z.sameBut hs (cne y c e)⟩
   · obtain ⟨w', z⟩ := I.cell y c e
     exact ⟨w', z.sameBut hs (cne y c e)⟩
   · obtain ⟨e, n, ne, nf, d⟩ := I.pin p hp
     exact ⟨(hs.2 p.1 ne).trans e, n, ne, nf, d⟩
 · have hfn : X.fn x = true := by
    rcases hf with z | z
    · exact z
    · rw [z] at hk; cases hk
   obtain ⟨c, hc⟩ := I.ok.has x (.inl hk)
   obtain ⟨w', z⟩ := I.cell x c hc
   refine wpAny_storeName_cell I.ok.kind hk hc z (λ h' hc' hs => ?_)
   obtain ⟨oc, hoc, hocd⟩ := id z
   refine h { s with heap := h' } ⟨I.ok, I.os, I.bare, ⟨λ b o e n hb hx => ?_, λ b o e n hb hx => ?_, I.base.free, λ b o e hx => ?_, I.base.tups, I.base.frzs, I.base.tbls⟩, ⟨m, hn.sameBut hs (Ne.symm (cne x c hc)), λ j y v' e1 e2 e3 => ?_⟩, λ y c' e => ?_, I.free, I.freeC, λ p hp => ?_, tracked ⟨oc, hoc, I.freeC x c hc⟩ hs, by simpa using I.len⟩ ⟨c, hs, .inr hc⟩
   · exact (hs.2 b (zzN (zzH (zxG e) (I.ok.cab x c hfn hc)))).trans (I.base.keep b o e n hb hx)
   · obtain ⟨sl, e1⟩ := I.base.slot b o e n hb hx
     exact ⟨sl, (hs.2 b (zzN (zzH (zxG e) (I.ok.cab x c hfn hc)))).trans e1⟩
   · obtain ⟨o', e1⟩ := I.base.there b o e hx
     exact ⟨o', (hs.2 b (zzN (zzH (zxG e) (I.ok.cab x c hfn hc)))).trans e1⟩
   · by_cases hj : j = i
     · subst hj
       rw [hi] at e1; cases e1
       rw [zyH hiσ] at e2
       cases e2
       exact ⟨u, r, .inr ⟨.inl hk, c, hc, hc'⟩⟩
     · rw [zzV (Ne.symm hj)] at e2
       obtain ⟨u', r', q⟩ := hl j y v' e1 e2 e3
       refine ⟨u', r', ?_⟩
       rcases q with q | ⟨k, c', e, z'⟩
       · exact .inl q
       · refine .inr ⟨k, c', e, z'.sameBut hs ?_⟩
         rintro rfl
         exact hj (zeP hN e1 (I.ok.inj _ _ _ e hc ▸ hi))
   · by_cases hcc : c' = c
     · subst hcc; exact ⟨_, hc'⟩
     · obtain ⟨w2, z2⟩ := I.cell y c' e
       exact ⟨w2, z2.sameBut hs hcc⟩
   · obtain ⟨e, n, ne, nf, d⟩ := I.pin p hp
     refine ⟨(hs.2 p.1 ?_).trans e, n, ne, nf, d⟩
     intro q
     rw [q, hoc] at e
     have q' : oc = p.2 := zzW e
     exact d w' (by rw [<- q']; exact hocd)
theorem Wc (I : Inv X pins σ H s) (hN : X.N.Nodup) (hi : X.N[i]? = some x) (hx : Loc X.env.scope x) (r : RelV v u)
 (h : ∀ s', Inv X pins (σ.set i (some v)) H s' -> Q () s') (hf : X.fn x = true \/ X.env.scope.names.lookup x = some .local := by first | exact .inl rfl | exact .inr rfl | assumption) : wpAny M A (storeName X.env x u) Q E s :=
 zdq I hN hi hx r (λ s' I' _ => h s' I') hf
theorem Inv.call' (I : Inv X pins σ H s) (ho : s'.os = s.os) (u : Un (frs X.stack) ch H H' s.heap s'.heap) (hok : HOk X.prog X.w H' s'.heap) (hg : AllBare s'.gens)
 (hch : ∀ b ∈ ch, (b ∈ X.ex \/ X.s₀.heap.objs.size <= b) /\ b ≠ X.env.locals /\ (∀ x c, X.env.cells.lookup x = some c -> c ≠ b) /\ ∀ p ∈ X.pn ++ pins, p.1 ≠ b) : Inv X pins σ H' s' := by
 obtain ⟨h', g', d', t', o'⟩ := s'
 have e : o' = s.os := ho
 subst e
 exact I.call (g' := g') (t' := t') (d' := d') u hok hg hch
end
abbrev XK := Value -> Option Addr -> Hp -> Prop
abbrev St := List (Option V)
abbrev VK := V -> Hp -> Prop
abbrev TE := St -> Hp -> VK -> Prop
abbrev TT := St -> Hp -> (Bool -> Hp -> Prop) -> Prop
abbrev TA := St -> Hp -> (List V -> Hp -> Prop) -> Prop
structure Ends where
 nx : St -> Hp -> Prop
 rt : VK
 bk : St -> Hp -> Prop := λ _ _ => False
 ct : St -> Hp -> Prop := λ _ _ => False
abbrev TS := Ends -> St -> Hp -> Prop
def EP (X : Cx) (pins : List (Addr × Obj)) (σ : St) (Q : VK) (u : Value) (s' : Shared) : Prop := ∃ v H', Inv X pins σ H' s' /\ RelV v u /\ Q v H'
def TP (X : Cx) (pins : List (Addr × Obj)) (σ : St) (Q : Bool -> Hp -> Prop) (b : Bool) (s' : Shared) : Prop := ∃ H', Inv X pins σ H' s' /\ Q b H'
def AP (X : Cx) (pins : List (Addr × Obj)) (σ : St) (Q : List V -> Hp -> Prop) (us : List Value) (s' : Shared) : Prop := ∃ vs H', Inv X pins σ H' s' /\ Vals vs us /\ Q vs H'
def SP (X : Cx) (pins : List (Addr × Obj)) (D : Ends) (f : Flow) (s' : Shared) : Prop :=
 match f with
 | .next => ∃ σ' H', Inv X pins σ' H' s' /\ D.nx σ' H'
 | .brk => ∃ σ' H', Inv X pins σ' H' s' /\ D.bk σ' H'
 | .cont => ∃ σ' H', Inv X pins σ' H' s' /\ D.ct σ' H'
 | .ret u => ∃ v σ' H', Inv X pins σ' H' s' /\ RelV v u /\ D.rt v H'
def PE (X : Cx) (e : Expr) (t : TE) : Prop :=
 ∀ (pins : List (Addr × Obj)) (s : Shared) (σ : St) (H : Hp) (Q : VK), Inv X pins σ H s -> t σ H Q -> wpAny (model X.prog X.w) X.A (eval e X.env) (EP X pins σ Q) X.xe s
def PT (X : Cx) (e : Expr) (t : TT) : Prop :=
 ∀ (pins : List (Addr × Obj)) (s : Shared) (σ : St) (H : Hp) (Q : Bool -> Hp -> Prop), Inv X pins σ H s -> t σ H Q -> wpAny (model X.prog X.w) X.A (isTrue e X.env (eval e X.env)) (TP X pins σ Q) X.xe s
def PW (X : Cx) (e : Expr) (t : TT) : Prop :=
 ∀ (whole : Sem Value) (pins : List (Addr × Obj)) (s : Shared) (σ : St) (H : Hp) (Q : Bool -> Hp -> Prop), Inv X pins σ H s -> t σ H Q -> wpAny (model X.prog X.w) X.A (isTrue e X.env whole) (TP X pins σ Q) X.xe s
theorem PW.pt (h : PW X e t) : PT X e t := h _
def PA (X : Cx) (es : List Expr) (t : TA) : Prop :=
 ∀ (pos : Pos) (pins : List (Addr × Obj)) (s : Shared) (σ : St) (H : Hp) (Q : List V -> Hp -> Prop), Inv X pins σ H s -> t σ H Q -> wpAny (model X.prog X.w) X.A (spliced (backTo pos (starEach es X.env))) (AP X pins σ Q) X.xe s
def PS (X : Cx) (st : Stmt) (t : TS) : Prop :=
 ∀ (pins : List (Addr × Obj)) (s : Shared) (σ : St) (H : Hp) (D : Ends), Inv X pins σ H s -> t D σ H -> wpAny (model X.prog X.w) X.A (exec st X.env) (SP X pins D) X.xe s
def PSs (X : Cx) (st : List Stmt) (t : TS) : Prop :=
 ∀ (pins : List (Addr × Obj)) (s : Shared) (σ : St) (H : Hp) (D : Ends), Inv X pins σ H s -> t D σ H -> wpAny (model X.prog X.w) X.A (execs st X.env) (SP X pins D) X.xe s
theorem thn (h : wpAny M A t Q E s) (hQ : ∀ a s, Q a s -> Q' a s) : wpAny M A t Q' E s := zxQ h hQ λ _ _ x => x
end L2
namespace L2
open PySem PySem.Spec PyProof.Rows
section
variable {X : Cx}
def Vh (i : Nat) : TE := λ σ H Q => ∃ v, σ[i]? = some (some v) /\ Q v H
def tC (v : V) : TE := λ _ H Q => Q v H
theorem zke (hN : X.N[i]? = some x) (hv : Vis X.env.scope x) (hd : (x == ("__debug__" : Str)) = false := by decide) (hcd : (x == ("__classdict__" : Str)) = false := by decide) : PE X (.Name x pos) (Vh i) := by
 intro pins s σ H Q I h
 obtain ⟨v, e, h⟩ := h
 obtain ⟨m, hn, hl⟩ := I.loc
 obtain ⟨u, r, l⟩ := hl i x v hN e hv
 have fin : EP X pins σ Q u s := ⟨v, H, I, r, h⟩
 rcases l with ⟨hk, hm⟩ | ⟨hk, c, hc, hcell⟩
 · exact wpAny_Name (wpAny_loadName_local I.ok.kind hk hn hm fin) hd
 · rcases hk with hk | hk
   · exact wpAny_Name (wpAny_loadName_cell I.ok.kind hk hc hcell fin) hd
   · exact wpAny_Name (wpAny_loadName_free I.ok.kind hk hc hcell fin hcd) hd
theorem zkM : PE X (.Constant (.int i) j pos) (tC (.int i)) := λ _ _ _ H _ I h => wpAny_Constant_int ⟨.int i, H, I.tok _, ⟨_, rfl⟩, h⟩
theorem zqC : PE X (.Constant (.bool b) j pos) (tC (.bl b)) := λ _ _ _ H _ I h => Constant_bool ⟨.bl b, H, I, rfl, h⟩
theorem zoF : PE X (.Constant .none j pos) (tC .non) := λ _ _ _ H _ I h => Constant_none ⟨.non, H, I, rfl, h⟩
theorem znv : PE X (.Constant (.str x) j pos) (tC (.str x)) := λ _ _ _ H _ I h => Calls.Constant_str ⟨.str x, H, I.tok _, ⟨_, rfl⟩, h⟩
def Gl (X : Cx) (x : Str) : Prop := X.env.kindOf x = some .globalImplicit
theorem zhC (I : Inv X pins σ H s) (hg : Gl X x) (hm : X.mg x = some u) (h : Q u s)
 (hd : (x == ("__debug__" : Str)) = false := by decide) : wpAny (model X.prog X.w) X.A (eval (.Name x pos) X.env) Q E s :=
 Calls.Name_function_global I.ok.kind hg (Calls.loadGlobal_global (by rw [I.ok.glob]; exact I.mod.glob.keeps I.bk) hm h) hd
theorem YM (I : Inv X pins σ H s) (hg : Gl X x) (hm : X.mg x = none) (hv : bootBuiltins x = some u) (h : Q u s)
 (hn : x ≠ "__name__" := by decide) (hd : (x == ("__debug__" : Str)) = false := by decide) : wpAny (model X.prog X.w) X.A (eval (.Name x pos) X.env) Q E s := by
 obtain ⟨mb, h1, h2⟩ := I.mod.blt
 exact Calls.Name_function_global I.ok.kind hg (Calls.loadGlobal_builtin (by rw [I.ok.glob]; exact I.mod.glob.keeps I.bk) hm (by rw [I.ok.blt]; exact h1.keeps I.bk) ((h2 x hn).trans hv) h) hd
theorem zlU (hg : Gl X x) (hm : X.mg x = none) (hv : bootBuiltins x = some u) (r : RelV v u) (hn : x ≠ "__name__" := by decide) (hd : (x == ("__debug__" : Str)) = false := by decide) : PE X (.Name x pos) (tC v) :=
 λ _ _ _ H _ I h => YM I hg hm hv ⟨v, H, I, r, h⟩ hn hd
variable {a b : Expr} {ta tb : TE} {pos : Pos}
variable {tA tB' : TT} {rest : List Expr}
def tOr (t u : TT) : TT := λ σ H Q => t σ H λ c H1 => if c = true then Q true H1 else u σ H1 Q
def zri (t : TT) : TT := λ σ H Q => t σ H λ c H1 => Q (!c) H1
theorem zoZ (ha : PT X a tA) : PW X (.BoolOp .Or [a] pos) tA := by
 intro wh pins s σ H Q I h
 refine isTrue_or (thn (ha pins s σ H Q I h) λ c s1 e => ?_)
 cases c with
 | false => exact isTrue_or_nil e
 | true => exact e
theorem zqb (ha : PT X a tA) (hb : PW X (.BoolOp .Or (b :: rest) pos) tB') : PW X (.BoolOp .Or (a :: b :: rest) pos) (tOr tA tB') := by
 intro wh pins s σ H Q I h
 refine isTrue_or (thn (ha pins s σ H _ I h) λ c s1 ⟨H1, I1, q1⟩ => ?_)
 cases c with
 | true => exact ⟨H1, I1, q1⟩
 | false => exact hb wh pins s1 σ H1 Q I1 q1
theorem zpj (ha : PT X a tA) : PT X (.UnaryOp .Not a pos) (zri tA) := by
 intro pins s σ H Q I h
 exact isTrue_not (ha pins s σ H (λ c H1 => Q (!c) H1) I h)
def zqv (ta tb : TE) : TE := λ σ H Q => ta σ H λ x H1 => ∃ c, x = .bl c /\ if c = true then tb σ H1 Q else Q (.bl false) H1
def zqc (ta : TE) : TE := λ σ H Q => ta σ H λ x H1 => ∃ c, x = .bl c /\ Q (.bl (!c)) H1
theorem zoO (h : PE X a t) : PE X (.BoolOp op [a] pos) t := λ pins s σ H Q I hw => BoolOp_one (h pins s σ H Q I hw)
theorem zoJ (ha : PE X a ta) (hb : PE X (.BoolOp .And (b :: rest) pos) tb) : PE X (.BoolOp .And (a :: b :: rest) pos) (zqv ta tb) := by
 intro pins s σ H Q I h
 refine BoolOp_and (thn (ha pins s σ H _ I h) λ v s1 ⟨x, H1, I1, r1, q1⟩ => ?_)
 obtain ⟨c, rfl, q1⟩ := q1
 cases r1
 refine wpAny_truthy_bool ?_
 cases c with
 | true => exact hb pins s1 σ H1 Q I1 q1
 | false => exact ⟨.bl false, H1, I1, rfl, q1⟩
theorem zns (ha : PE X a ta) : PE X (.UnaryOp .Not a pos) (zqc ta) := by
 intro pins s σ H Q I h
 refine UnaryOp_ (thn (ha pins s σ H _ I h) λ v s1 ⟨x, H1, I1, r1, q1⟩ => ?_)
 obtain ⟨c, rfl, q1⟩ := q1
 cases r1
 exact not_of (wpAny_truthy_bool ⟨.bl (!c), H1, I1, rfl, q1⟩)
end
end L2
namespace L2
open PySem PySem.Spec PyProof.Rows
def SqL (K : zC) (H : Hp) (a : Addr) (xs : List V) : Prop :=
 Rd H a (.lst xs) \/
  ∃ (o : Obj) (its : Array Value) (n : Nat), K.lookup a = some o /\ o.cls = .type "list" /\ o.dict = none /\ o.data = .seq its n /\ its.size <= sizeLine /\ Vals xs its.toList
def RdL (K : zC) (H : Hp) (a : Addr) (xs : List V) : Prop :=
 Rd H a (.lst xs) \/ ∃ (its : Array Value) (n : Nat), K.lookup a = some { cls := .type "list", data := .seq its n } /\ its.size <= sizeLine /\ Vals xs its.toList
def SqT (K : zC) (H : Hp) (a : Addr) (xs : List V) : Prop :=
 Rd H a (.tup xs) \/
  ∃ (o : Obj) (its : Array Value) (n : Nat), K.lookup a = some o /\ o.cls = .type "tuple" /\ o.data = .seq its n /\ its.size <= sizeLine /\ Vals xs its.toList
def zrn : Value -> Option V
 | .none => some .non
 | .bool b => some (.bl b)
 | .int i _ => some (.int i)
 | .str x _ => some (.str x)
 | .bytes b _ => some (.byt b)
 | .float b _ => some (.flt b)
 | .ref a => some (.ref a)
 | .type n => some (.ty n)
 | _ => none
theorem RelV.abs (r : RelV x u) : zrn u = some x := by
 cases x with
 | non => cases r; rfl
 | bl _ => cases r; rfl
 | int _ => obtain ⟨t, rfl⟩ := r; rfl
 | str _ => obtain ⟨t, rfl⟩ := r; rfl
 | byt _ => obtain ⟨t, rfl⟩ := r; rfl
 | flt _ => obtain ⟨t, rfl⟩ := r; rfl
 | ref _ => cases r; rfl
 | ty _ => cases r; rfl
theorem RelV.inj (r : RelV x u) (q : RelV y u) : x = y := zzW (r.abs.symm.trans q.abs)
theorem Vals.inj : ∀ {xs ys : List V} {us : List Value}, Vals xs us -> Vals ys us -> xs = ys
 | _, _, _, .nil, .nil => rfl
 | _, _, _, .cons r t, .cons r' t' => by rw [r.inj r', Vals.inj t t']
section
variable {X : Cx} {pins : List (Addr × Obj)} {σ : St} {H : Hp} {s : Shared} {a : Addr} {xs ys : List V}
theorem Inv.list (I : Inv X pins σ H s) (h : SqL X.K H a xs) : ∃ its : List Value, Vals xs its /\ PlainL s.heap a its.toArray /\ xs.length <= sizeLine := by
 rcases h with h | ⟨o, its, n, hk, hc, hd, hs, hz, r⟩
 · obtain ⟨z, its, n, r, e⟩ := h.ok I.hok
   exact ⟨its, r, ⟨_, n, e, rfl, rfl, rfl⟩, z⟩
 · refine ⟨its.toList, r, ⟨o, n, I.kIn a o hk, hc, hd, by simpa using hs⟩, ?_⟩
   have e := r.length
   simp only [zyQ] at e
   omega
theorem Inv.tuple (I : Inv X pins σ H s) (h : SqT X.K H a xs) : ∃ its : List Value, Vals xs its /\ IsTup s.heap a its.toArray /\ xs.length <= sizeLine := by
 rcases h with h | ⟨o, its, n, hk, hc, hs, hz, r⟩
 · obtain ⟨z, its, r, p⟩ := h.ok I.hok
   exact ⟨its, r, p, z⟩
 · refine ⟨its.toList, r, ⟨o, I.kIn a o hk, hc, n, by simpa using hs⟩, ?_⟩
   have e := r.length
   simp only [zyQ] at e
   omega
theorem Inv.list_inj (I : Inv X pins σ H s) (h : SqL X.K H a xs) (h' : SqL X.K H a ys) : xs = ys := by
 obtain ⟨its, r, ⟨o, n, e, _, _, d⟩, _⟩ := I.list h
 obtain ⟨its', r', ⟨o', n', e', _, _, d'⟩, _⟩ := I.list h'
 rw [e] at e'; cases e'
 rw [d] at d'
 injection d' with d1 _
 have : its = its' := by simpa using congrArg Array.toList d1
 subst this
 exact r.inj r'
theorem Inv.tuple_inj (I : Inv X pins σ H s) (h : SqT X.K H a xs) (h' : SqT X.K H a ys) : xs = ys := by
 obtain ⟨its, r, ⟨o, e, _, n, d⟩, _⟩ := I.tuple h
 obtain ⟨its', r', ⟨o', e', _, n', d'⟩, _⟩ := I.tuple h'
 rw [e] at e'; cases e'
 rw [d] at d'
 injection d' with d1 _
 have : its = its' := by simpa using congrArg Array.toList d1
 subst this
 exact r.inj r'
end
abbrev Cx.wish (X : Cx) (E : Value -> Shared -> Prop) : Cx := { X with xe := E }
abbrev Cx.nox (X : Cx) : Cx := X.wish λ _ _ => False
theorem Cx.Ok.wish {X : Cx} (ok : X.Ok) (E : Value -> Shared -> Prop) : (X.wish E).Ok :=
 ⟨ok.mod, ok.kind, ok.glob, ok.blt, ok.above, ok.inj, ok.has, ok.cab, ok.hd, ok.frames, ok.stk, ok.exf, ok.bs, ok.bsz, ok.noex, ok.exfs, ok.funs, ok.frf⟩
theorem Cx.Ok.unwish {X : Cx} {E : Value -> Shared -> Prop} (ok : (X.wish E).Ok) : X.Ok :=
 ⟨ok.mod, ok.kind, ok.glob, ok.blt, ok.above, ok.inj, ok.has, ok.cab, ok.hd, ok.frames, ok.stk, ok.exf, ok.bs, ok.bsz, ok.noex, ok.exfs, ok.funs, ok.frf⟩
section
variable {X : Cx} {pins : List (Addr × Obj)} {σ : St} {H : Hp} {s : Shared} {E : Value -> Shared -> Prop}
theorem Inv.wish (I : Inv X pins σ H s) (E : Value -> Shared -> Prop) : Inv (X.wish E) pins σ H s := ⟨I.ok.wish E, I.os, I.bare, I.base, I.loc, I.cell, I.free, I.freeC, I.pin, I.hok, I.len⟩
theorem Inv.unwish (I : Inv (X.wish E) pins σ H s) : Inv X pins σ H s := ⟨I.ok.unwish, I.os, I.bare, I.base, I.loc, I.cell, I.free, I.freeC, I.pin, I.hok, I.len⟩
theorem SP.unwish (h : SP (X.wish E) pins D f s') : SP X pins D f s' := by
 cases f with
 | next => obtain ⟨σ', H', I, q⟩ := h; exact ⟨σ', H', I.unwish, q⟩
 | brk => obtain ⟨σ', H', I, q⟩ := h; exact ⟨σ', H', I.unwish, q⟩
 | cont => obtain ⟨σ', H', I, q⟩ := h; exact ⟨σ', H', I.unwish, q⟩
 | ret u => obtain ⟨v, σ', H', I, r, q⟩ := h; exact ⟨v, σ', H', I.unwish, r, q⟩
theorem PSs.nox {st : List Stmt} {t : TS} (h : PSs X.nox st t) : PSs X st t := λ pins s σ H D I hw =>
 zxQ (h pins s σ H D (I.wish _) hw) (λ _ _ q => q.unwish) λ _ _ z => False.elim z
end
section
variable {X : Cx} {st : Stmt} {rest : List Stmt} {t u : TS} {e : Expr} {te : TE} {pos : Pos}
def zqe : TS := λ D σ H => D.nx σ H
def zrG (t u : TS) : TS := λ D σ H => t { D with nx := u D } σ H
theorem zmn : PSs X [] zqe := λ _ _ σ H _ I h => wpAny_execs_nil ⟨σ, H, I, h⟩
theorem zjp (h1 : PS X st t) (h2 : PSs X rest u) : PSs X (st :: rest) (zrG t u) := by
 intro pins s σ H D I h
 refine wpAny_execs_cons (thn (h1 pins s σ H { D with nx := u D } I h) λ f s1 q => ?_)
 cases f with
 | next =>
  obtain ⟨σ', H', I', q⟩ := q
  exact h2 pins s1 σ' H' D I' q
 | ret v => exact q
 | brk => exact q
 | cont => exact q
theorem zmr (h1 : PS X st t) : PSs X [st] t := by
 intro pins s σ H D I h
 refine wpAny_execs_cons (thn (h1 pins s σ H D I h) λ f s1 q => ?_)
 cases f with
 | next => exact wpAny_execs_nil q
 | ret v => exact q
 | brk => exact q
 | cont => exact q
theorem Inv.quiet (I : Inv X pins σ H s) : interactive X.env = false := by simp [interactive, I.ok.kind]
def zqs (te : TE) : TS := λ D σ H => te σ H λ _ H1 => D.nx σ H1
theorem zmb (he : PE X e te) (hs : swapsWith e none pos.line X.env = pure false := by rfl) : PS X (.Expr e pos) (zqs te) := by
 intro pins s σ H D I h
 exact wpAny_Expr_any (thn (he pins s σ H _ I h) λ v s1 ⟨x, H1, I1, r1, q1⟩ => ⟨σ, H1, I1, q1⟩) I.quiet hs
def zrD (te : TE) : TS := λ D σ H => te σ H D.rt
theorem znx (he : PE X e te) : PS X (.Return (some e) pos) (zrD te) := by
 intro pins s σ H D I h
 exact wpAny_Return_some (thn (he pins s σ H _ I h) λ v s1 ⟨x, H1, I1, r1, q1⟩ => ⟨x, σ, H1, I1, r1, q1⟩)
def zrb (c : TT) (t u : TS) : TS := λ D σ H => c σ H λ b H1 => if b = true then t D σ H1 else u D σ H1
theorem zqF (hc : PT X c tc) (ha : PSs X a t) (hb : PSs X b u) : PS X (.If c a b pos) (zrb tc t u) := by
 intro pins s σ H D I h
 refine wpAny_If (thn (hc pins s σ H _ I h) λ d s1 ⟨H1, I1, q1⟩ => ?_)
 cases d with
 | true => exact ha pins s1 σ H1 D I1 q1
 | false => exact hb pins s1 σ H1 D I1 q1
end
abbrev TG := V -> St -> Hp -> (St -> Hp -> Prop) -> Prop
abbrev TGs := List V -> St -> Hp -> (St -> Hp -> Prop) -> Prop
def PG (X : Cx) (target : Expr) (t : TG) : Prop :=
 ∀ (pins : List (Addr × Obj)) (s : Shared) (σ : St) (H : Hp) (v : V) (u : Value) (Q : St -> Hp -> Prop), Inv X pins σ H s -> RelV v u -> t v σ H Q ->
  wpAny (model X.prog X.w) X.A (assign target X.env u) (λ _ s' => ∃ σ' H', Inv X pins σ' H' s' /\ Q σ' H') X.xe s
def PGs (X : Cx) (ts : List Expr) (t : TGs) : Prop :=
 ∀ (pins : List (Addr × Obj)) (s : Shared) (σ : St) (H : Hp) (vs : List V) (us : List Value) (Q : St -> Hp -> Prop), Inv X pins σ H s -> Vals vs us -> t vs σ H Q ->
  wpAny (model X.prog X.w) X.A (assignInOrder ((assignEach ts X.env).map (·.2)) us) (λ _ s' => ∃ σ' H', Inv X pins σ' H' s' /\ Q σ' H') X.xe s
abbrev zqH := V -> V -> V -> Hp -> (Hp -> Prop) -> Prop
def zqt (X : Cx) (t : zqH) : Prop :=
 ∀ (pins : List (Addr × Obj)) (s : Shared) (σ : St) (H : Hp) (o i v : V) (ov iv u : Value) (Q : Hp -> Prop), Inv X pins σ H s -> RelV o ov -> RelV i iv -> RelV v u -> t o i v H Q ->
  wpAny (model X.prog X.w) X.A (setItem ov iv u) (λ _ s' => ∃ H', Inv X pins σ H' s' /\ Q H') X.xe s
abbrev TIp := V -> V -> Hp -> VK -> Prop
def PIp (X : Cx) (op : Operator) (t : TIp) : Prop :=
 ∀ (pins : List (Addr × Obj)) (s : Shared) (σ : St) (H : Hp) (x y : V) (v u : Value) (Q : VK), Inv X pins σ H s -> RelV x v -> RelV y u -> t x y H Q ->
  wpAny (model X.prog X.w) X.A (inplaceOp op v u) (EP X pins σ Q) X.xe s
section
variable {X : Cx} {pos : Pos}
def zeF (i : Nat) : TG := λ v σ H Q => Q (σ.set i (some v)) H
theorem zle (hN : X.N.Nodup) (hi : X.N[i]? = some x) (hx : Loc X.env.scope x) (hf : X.fn x = true \/ X.env.scope.names.lookup x = some .local := by first | exact .inl rfl | exact .inr rfl | assumption) : PG X (.Name x pos) (zeF i) := by
 intro pins s σ H v u Q I r h
 exact wpAny_assign_Name (Wc I hN hi hx r (λ s' I' => ⟨_, H, I', h⟩) hf)
def zrm : TGs := λ vs σ H Q => vs = [] /\ Q σ H
def zpR (t : TG) (u : TGs) : TGs := λ vs σ H Q => ∃ v r, vs = v :: r /\ t v σ H λ σ' H' => u r σ' H' Q
theorem zmc : PGs X [] zrm := by
 intro pins s σ H vs us Q I r h
 obtain ⟨e, h⟩ := h
 subst e
 cases r
 exact assignInOrder_nil ⟨σ, H, I, h⟩
theorem zkK (h1 : PG X e t) (h2 : PGs X es u)
 (hs : (assignEach (e :: es) X.env).map (·.2) = assign e X.env :: (assignEach es X.env).map (·.2) := by rfl) : PGs X (e :: es) (zpR t u) := by
 intro pins s σ H vs us Q I r h
 obtain ⟨v, vr, e1, h⟩ := h
 subst e1
 cases r with
 | cons r rr =>
  rw [hs]
  refine assignInOrder_cons (thn (h1 pins s σ H _ _ _ I r h) λ _ s1 ⟨σ1, H1, I1, q1⟩ => ?_)
  exact h2 pins s1 σ1 H1 _ _ Q I1 rr q1
def zrI (K : zC) (n : Nat) (t : TGs) : TG := λ v σ H Q => ∃ a xs, v = .ref a /\ SqT K H a xs /\ xs.length = n /\ t xs σ H Q
theorem zpm (hc : X.calm = true) (h : PGs X es t)
 (hn : (assignEach es X.env).length = n := by rfl) (hst : (assignEach es X.env).findIdx? (·.1) = none := by rfl) : PG X (.Tuple es k pos) (zrI X.K n t) := by
 intro pins s σ H v u Q I r hw
 obtain ⟨a, xs, e1, hq, hl, hw⟩ := hw
 subst e1
 cases r
 obtain ⟨its, rv, ht, hz⟩ := I.tuple hq
 refine assign_Tuple_tuple (I.ok.hd hc) ht (by simp [hn, <- hl, rv.length]) hst λ h' hx => ?_
 have I1 : Inv X pins σ H { s with heap := h' } := I.kept (t' := s.toks) λ b o e => hx b o (zzN (zxG e)) e
 exact h pins _ σ H xs _ Q I1 (by simpa using rv) hw
def zrh (to ti : TE) (t : zqH) : TG := λ v σ H Q => to σ H λ o H1 => ti σ H1 λ i H2 => t o i v H2 λ H3 => Q σ H3
theorem znL (ho : PE X o to) (hi : PE X i ti) (hs : zqt X t)
 (ha : ∀ v, assign (.Subscript o i pos) X.env v = (do
  let ov <- holding [v] (eval o X.env)
  let iv <- holding [v, ov] (eval i X.env)
  standAt pos
  holding [v, ov, iv] (setItem ov iv v)
  release [v, ov, iv] []) := by intro _; rfl) : PG X (.Subscript o i pos) (zrh to ti t) := by
 intro pins s σ H v u Q I r h
 rw [ha]
 refine zxD (zxK (thn (ho pins s σ H _ I h) λ ov s1 ⟨x, H1, I1, r1, q1⟩ => ?_))
 refine zxD (zxK (thn (hi pins s1 σ H1 _ I1 q1) λ iv s2 ⟨y, H2, I2, r2, q2⟩ => ?_))
 refine zxD (wpAny_standAt (zxD (zxK (thn (hs pins s2 σ H2 x y v ov iv u _ I2 r1 r2 r q2) λ _ s3 ⟨H3, I3, q3⟩ => ?_))))
 exact wpAny_release ⟨σ, H3, I3, q3⟩
def znZ (te : TE) (g : TG) : TS := λ D σ H => te σ H λ x H1 => g x σ H1 D.nx
theorem ziS (he : PE X e te) (hg : PG X tg g) (hs : swapsWithSole [tg] e pos.line X.env = pure false := by rfl) (hw : swappedStores [tg] e X.env = pure none := by rfl)
 (h1 : (assignEach [tg] X.env).map (·.2) = [assign tg X.env] := by rfl) : PS X (.Assign [tg] e pos) (znZ te g) := by
 intro pins s σ H D I h
 refine wpAny_Assign_stores (thn (he pins s σ H _ I h) λ v s1 ⟨x, H1, I1, r1, q1⟩ => ?_) hs hw
 rw [h1]
 exact thn (hg pins s1 σ H1 x v _ I1 r1 q1) λ _ s2 q => q
theorem zpl (hN : X.N.Nodup) (hi : X.N[i]? = some x) (hx : Loc X.env.scope x) (he : PE X e te) (hs : swapsWith e (some (.Name x pos')) pos.line X.env = pure false := by rfl) (hf : X.fn x = true \/ X.env.scope.names.lookup x = some .local := by first | exact .inl rfl | exact .inr rfl | assumption) :
 PS X (.Assign [.Name x pos'] e pos) (znZ te (zeF i)) := by
 intro pins s σ H D I h
 refine wpAny_Assign_Name (thn (he pins s σ H _ I h) λ v s1 ⟨y, H1, I1, r1, q1⟩ => ?_) hs
 exact Wc I1 hN hi hx r1 (λ s2 I2 => ⟨_, H1, I2, q1⟩) hf
def zru (i j : Nat) (ta : TA) : TS := λ D σ H => ta σ H λ vs H1 => ∃ v w, vs = [v, w] /\ D.nx ((σ.set i (some v)).set j (some w)) H1
theorem zoP (hc : X.calm = true) (hN : X.N.Nodup) (hi : X.N[i]? = some x) (hj : X.N[j]? = some y) (hij : i ≠ j)
 (hx : X.env.scope.names.lookup x = some .local) (hy : X.env.scope.names.lookup y = some .local) (ha : PA X [a, b] ta)
 (hw : swappedStores [.Tuple [.Name x px, .Name y py] kt pt] (.Tuple [a, b] k2 pt2) X.env = pure (some [x, y]))
 (hs : swapsWithSole [.Tuple [.Name x px, .Name y py] kt pt] (.Tuple [a, b] k2 pt2) pos.line X.env = pure false := by rfl) :
 PS X (.Assign [.Tuple [.Name x px, .Name y py] kt pt] (.Tuple [a, b] k2 pt2) pos) (zru i j ta) := by
 intro pins s σ H D I h
 rw [exec_Assign_arm]
 refine zxD (wpAny_standAt ?_)
 rw [hs]
 refine zxD (zxE ?_)
 rw [if_neg (by decide)]
 refine zxD (Tuple_ (thn (ha _ pins s σ H _ I h) λ us s1 ⟨vs, H1, I1, r1, q1⟩ => ?_))
 obtain ⟨v, w, e1, q1⟩ := q1
 subst e1
 obtain ⟨u1, u2, rfl, rv, rw'⟩ : ∃ u1 u2, us = [u1, u2] /\ RelV v u1 /\ RelV w u2 := by
  cases r1 with
  | cons p q =>
   cases q with
   | cons p' q' =>
    cases q'
    exact ⟨_, _, rfl, p, p'⟩
 refine zxI ?_ (by show 2 <= sizeLine; decide)
 have I2 : Inv X pins σ H1 { s1 with heap := s1.heap.push { cls := .type "tuple", data := .seq [u1, u2].toArray } } := I1.kept (t' := s1.toks) λ b o e => zxF _ e
 rw [hw]
 refine zxD (zxE ?_)
 show wpAny (model X.prog X.w) X.A (do rule "assign.swapped-stores"; let items <- unpackItems (.ref s1.heap.objs.size) 2 none; assignInOrder [λ v => bindName X.env y v, λ v => bindName X.env x v] items.reverse; pure Flow.next) _ _ _
 refine zxD (wpAny_rule (zxD (unpackItems_tuple (items := #[u1, u2]) (I.ok.hd hc) (IsTup.new s1.heap _) λ h' hx' => ?_)))
 have I3 := I2.kept (h' := h') (t' := s1.toks) λ b o e => hx' b o (zzN (zxG e)) e
 show wpAny _ _ (assignInOrder [λ v => bindName X.env y v, λ v => bindName X.env x v] [u2, u1] >>= λ _ => pure Flow.next) _ _ _
 refine zxD (assignInOrder_cons (wpAny_bindName (Wc I3 hN hj (.inl hy) rw' (λ s2 I4 => ?_) (.inr hy))))
 refine assignInOrder_cons (wpAny_bindName (Wc I4 hN hi (.inl hx) rv (λ s3 I5 => assignInOrder_nil (zxE ?_)) (.inr hx)))
 rw [List.set_comm _ _ (Ne.symm hij)] at I5
 exact ⟨_, H1, I5, q1⟩
def zrd (i : Nat) (te : TE) (ti : TIp) : TS := λ D σ H => ∃ x, σ[i]? = some (some x) /\ te σ H λ y H1 => ti x y H1 λ z H2 => D.nx (σ.set i (some z)) H2
theorem zpg (hN : X.N.Nodup) (hi : X.N[i]? = some x) (hx : Loc X.env.scope x) (he : PE X e te) (ho : PIp X op ti) (hf : X.fn x = true \/ X.env.scope.names.lookup x = some .local := by first | exact .inl rfl | exact .inr rfl | assumption) :
 PS X (.AugAssign (.Name x pos') op e pos) (zrd i te ti) := by
 intro pins s σ H D I h
 obtain ⟨v, e1, h⟩ := h
 obtain ⟨m, hn, hl⟩ := I.loc
 have vis : Vis X.env.scope x := by rcases hx with k | k; exact .inl k; exact .inr (.inl k)
 obtain ⟨u, r, l⟩ := hl i x v hi e1 vis
 refine wpAny_AugAssign_Name ?_
 have go : wpAny (model X.prog X.w) X.A (eval e X.env) (λ w s₂ => wpAny (model X.prog X.w) X.A (inplaceOp op u w) (λ r s₃ => wpAny (model X.prog X.w) X.A (storeName X.env x r) (λ _ => SP X pins D .next) X.xe s₃) X.xe s₂) X.xe s := by
  refine thn (he pins s σ H _ I h) λ w s1 ⟨y, H1, I1, r1, q1⟩ => ?_
  refine thn (ho pins s1 σ H1 v y u w _ I1 r r1 q1) λ z s2 ⟨zv, H2, I2, r2, q2⟩ => ?_
  exact Wc I2 hN hi hx r2 (λ s3 I3 => ⟨_, H2, I3, q2⟩) hf
 rcases l with ⟨hk, hm⟩ | ⟨hk, c, hc, hcell⟩
 · exact wpAny_loadName_local I.ok.kind hk hn hm go
 · rcases hk with hk | hk
   · exact wpAny_loadName_cell I.ok.kind hk hc hcell go
   · rcases hx with k | k
     · have : X.env.scope.names.lookup x = some .free := hk
       rw [k] at this; cases this
     · have : X.env.scope.names.lookup x = some .free := hk
       rw [k] at this; cases this
def ipI (f : Int -> Int -> Int) : TIp := λ x y H Q => ∃ i j, x = .int i /\ y = .int j /\ Q (.int (f i j)) H
theorem zoD : PIp X .Add (ipI λ i j => i + j) := by
 intro pins s σ H x y v u Q I r1 r2 h
 obtain ⟨i, j, e1, e2, q⟩ := h
 subst e1; subst e2
 obtain ⟨t, rfl⟩ := r1
 obtain ⟨t', rfl⟩ := r2
 exact iadd_int ⟨.int _, H, I.tok _, ⟨_, rfl⟩, q⟩
end
section
variable {X : Cx} {pos : Pos}
def zpk (c : TT) (tb : TS) : TS := λ D σ H => ∃ W : Nat -> St -> Hp -> Prop, (∃ m, W m σ H) /\ ∀ m σ H, W m σ H ->
 c σ H λ b H1 => if b = true then ∃ N : St -> Hp -> Prop, (∀ σ' H', N σ' H' -> ∃ m', m' < m /\ W m' σ' H') /\ tb { D with nx := N, ct := N, bk := D.nx } σ H1 else D.nx σ H1
theorem zkW (hp : PassesOwn (model X.prog X.w) X.A X.env X.xe) (hc : PT X c tc) (hb : PSs X body tb) : PS X (.While c body [] pos) (zpk tc tb) := by
 intro pins s σ H D I h
 obtain ⟨W, ⟨m0, w0⟩, turn⟩ := h
 refine wpAny_While (codeAny_whileLoop (λ n s' => ∃ σ' H', Inv X pins σ' H' s' /\ W n σ' H') ?_ m0 ⟨σ, H, I, w0⟩)
 rintro n s1 ⟨σ1, H1, I1, w1⟩
 refine wpAny_passesOwn hp (thn (hc pins s1 σ1 H1 _ I1 (turn n σ1 H1 w1)) λ b s2 ⟨H2, I2, q2⟩ => ?_)
 cases b with
 | true =>
  obtain ⟨N, hN, q2⟩ := q2
  rw [if_pos rfl]
  refine wpAny_passesOwn hp (thn (hb pins s2 σ1 H2 _ I2 q2) λ f s3 q3 => ?_)
  cases f with
  | next =>
   obtain ⟨σ3, H3, I3, n3⟩ := q3
   obtain ⟨m', hm, w3⟩ := hN σ3 H3 n3
   exact ⟨m', hm, σ3, H3, I3, w3⟩
  | cont =>
   obtain ⟨σ3, H3, I3, n3⟩ := q3
   obtain ⟨m', hm, w3⟩ := hN σ3 H3 n3
   exact ⟨m', hm, σ3, H3, I3, w3⟩
  | brk => exact q3
  | ret v => exact q3
 | false =>
  rw [if_neg zyT]
  exact wpAny_execs_nil ⟨σ1, H2, I2, q2⟩
end
structure It where
 go : Nat -> Hp -> Prop
 yld : Nat -> Hp -> V -> Hp -> Prop
 stop : Nat -> Hp -> Prop
def zcJ (X : Cx) (pins : List (Addr × Obj)) (H : Hp) (b : Addr) : Prop :=
 H b = none /\ b ≠ X.env.locals /\ b ∉ X.fs /\ (b ∈ X.ex \/ X.s₀.heap.objs.size <= b) /\ (∀ x c, X.env.cells.lookup x = some c -> c ≠ b) /\ ∀ p ∈ X.pn ++ pins, p.1 ≠ b
theorem Inv.fpOk (I : Inv X pins σ H s) (hb : s.heap.objs.size <= b) (hn : H' b = none) : zcJ X pins H' b := by
 refine ⟨hn, Nat.ne_of_gt (zzH I.lt hb), I.nofs hb, .inr (zzL I.sz hb), λ x c e z => ?_, λ p hp z => ?_⟩
 · obtain ⟨v, q⟩ := I.cell x c e
   exact absurd (zzH q.lt (by rw [z]; exact hb)) (Nat.lt_irrefl _)
 · exact absurd (zzH (zxG (I.pin p hp).1) (by rw [z]; exact hb)) (Nat.lt_irrefl _)
structure Turn (P : Program) (w : World) (K : zC) (tg : Expr) (J : It) (fp : List Addr) (it : Addr) (tn : Nat -> Heap -> Prop) : Prop where
 mem : it ∈ fp
 obj : ∀ i h, tn i h -> ∀ b ∈ fp, ∃ o, h.get? b = some o /\ ∀ v, o.data ≠ .cell v
 keep : ∀ i h h', tn i h -> (∀ b ∈ fp, ∀ o, h.get? b = some o -> h'.get? b = some o) -> tn i h'
 item : ∀ (X : Cx), X.prog = P -> X.w = w -> X.K = K -> X.calm = true -> ∀ (i : Nat) (pins : List (Addr × Obj)) (s : Shared) (σ : St) (H : Hp) (E : Value -> Shared -> Prop), Inv X pins σ H s -> (∀ b ∈ fp, zcJ X pins H b) -> tn i s.heap -> J.go i H ->
  wpAny (model P w) X.A (pyNext (.ref it)) (λ r s1 => ∃ u, r = some u /\
   wpAny (model P w) X.A (letOwnedTupleGo tg (.ref it) u) (λ _ s2 => ∃ x H', Inv X pins σ H' s2 /\ RelV x u /\ J.yld i H x H' /\ tn (i + 1) s2.heap /\ ∀ b ∈ fp, H' b = none) E s1) E s
 done : ∀ (X : Cx), X.prog = P -> X.w = w -> X.K = K -> X.calm = true -> ∀ (i : Nat) (pins : List (Addr × Obj)) (s : Shared) (σ : St) (H : Hp) (E : Value -> Shared -> Prop), Inv X pins σ H s -> (∀ b ∈ fp, zcJ X pins H b) -> tn i s.heap -> J.stop i H ->
  wpAny (model P w) X.A (pyNext (.ref it)) (λ r s1 => r = none /\ Inv X pins σ H s1) E s
 self : ∀ (A : Around) (i : Nat) (s : Shared) (Q : Value -> Shared -> Prop) (E : Value -> Shared -> Prop), tn i s.heap -> Q (.ref it) s -> wpAny (model P w) A (pyIter (.ref it)) Q E s
abbrev TI := St -> Hp -> (It -> Hp -> Prop) -> Prop
def PIE (X : Cx) (pins : List (Addr × Obj)) (σ : St) (tg : Expr) (R : It -> Hp -> Prop) (itv : Value) (s2 : Shared) : Prop :=
 ∃ (it : Addr) (fp : List Addr) (tn : Nat -> Heap -> Prop) (J : It) (H' : Hp), itv = .ref it /\ Inv X pins σ H' s2 /\ Turn X.prog X.w X.K tg J fp it tn /\ tn 0 s2.heap /\ (∀ b ∈ fp, zcJ X pins H' b) /\ R J H'
def PI (X : Cx) (tg iter : Expr) (wi : TI) : Prop :=
 ∀ (pins : List (Addr × Obj)) (s : Shared) (σ : St) (H : Hp) (R : It -> Hp -> Prop), Inv X pins σ H s -> wi σ H R ->
  wpAny (model X.prog X.w) X.A (eval iter X.env) (λ v s1 => wpAny (model X.prog X.w) X.A (pyIter v) (PIE X pins σ tg R) X.xe s1) X.xe s
theorem zhN (ho : s.heap.get? it = some o) (hc : o.cls = .type n) (hd : o.data = .fields vs)
 (hn : ["enumerate", "zip", "dict_itemiterator", "dict_reverseitemiterator", "odict_iterator", "itertools.zip_longest", "itertools.pairwise"].contains n = false) (hQ : Q () s) : wpAny M A (letOwnedTupleGo tg (.ref it) u) Q E s := by
 unfold letOwnedTupleGo
 cases tg <;> first
  | exact zxE hQ
  | (cases u <;> first
   | exact zxE hQ
   | (refine zxD (wpAny_load ho ?_)
      rw [hc, hd]
      show wpAny M A (if (["enumerate", "zip", "dict_itemiterator", "dict_reverseitemiterator", "odict_iterator", "itertools.zip_longest", "itertools.pairwise"].contains n && vs[0]? == some (rawInt _)) = true then _ else _) Q E s
      rw [if_neg (by intro h; rw [hn, Bool.false_and] at h; cases h)]
      exact zxE hQ))
def Itl (K : zC) (a : Addr) : It :=
 ⟨λ i H => ∃ xs x, SqL K H a xs /\ xs[i]? = some x, λ i H x H' => H' = H /\ ∀ xs, SqL K H a xs -> xs[i]? = some x, λ i H => ∃ xs, SqL K H a xs /\ xs.length <= i⟩
def Itt (K : zC) (a : Addr) : It :=
 ⟨λ i H => ∃ xs x, SqT K H a xs /\ xs[i]? = some x, λ i H x H' => H' = H /\ ∀ xs, SqT K H a xs -> xs[i]? = some x, λ i H => ∃ xs, SqT K H a xs /\ xs.length <= i⟩
def Itr (lo : Int) (n : Nat) : It := ⟨λ i _ => i < n, λ i H x H' => H' = H /\ x = .int (lo + i), λ i _ => n <= i⟩
theorem zid {P : Program} {w : World} {K : zC} {tg : Expr} (a it : Addr) : Turn P w K tg (Itl K a) [it] it (λ i h => h.IsListIter it a i) where
 mem := by simp
 obj := λ i h st b hb => by
  have e : b = it := by simpa using hb
  subst e
  obtain ⟨o, e, c, d⟩ := st
  exact ⟨o, e, λ v z => by rw [d] at z; cases z⟩
 keep := λ i h h' st k => st.at λ o e => k it (by simp) o e
 item := by
  intro X hP hw hK hc i pins s σ H E I hf st hg
  subst hP hw hK
  obtain ⟨xs, x, hq, hx⟩ := hg
  obtain ⟨its, rv, p, hz⟩ := I.list hq
  obtain ⟨u, hu, ru⟩ := rv.get hx
  obtain ⟨f0, f1, f2, f3, f4, f5⟩ := hf it (by simp)
  refine wpAny_pyNext_list_item st p.isList (x := u) (by simpa using hu) λ h' st' sb => ?_
  have I1 : Inv X pins σ H { s with heap := h' } := I.turned (t' := s.toks) (λ b o hb e => (sb.2 b hb).trans e) f0 f1 f3 f4 f5
  obtain ⟨o, e, c, d⟩ := id st'
  exact ⟨u, rfl, zhN (s := { s with heap := h' }) e c d (by decide) ⟨x, H, I1, ru, ⟨rfl, λ ys hy => by rw [I.list_inj hy hq]; exact hx⟩, st', λ b hb => (hf b hb).1⟩⟩
 done := by
  intro X hP hw hK hc i pins s σ H E I hf st hg
  subst hP hw hK
  obtain ⟨xs, hq, hx⟩ := hg
  obtain ⟨its, rv, p, hz⟩ := I.list hq
  obtain ⟨f0, f1, f2, f3, f4, f5⟩ := hf it (by simp)
  have hl := rv.length
  exact wpAny_pyNext_list_end (I.ok.hd hc) st p.isList (by simp; omega) λ h' eb => ⟨rfl, I.turned (t' := s.toks) (λ b o hb e => eb b o hb e) f0 f1 f3 f4 f5⟩
 self := λ _ _ _ _ _ st h => wpAny_pyIter_listiter st h
theorem zfL {P : Program} {w : World} {K : zC} {tg : Expr} (a it : Addr) : Turn P w K tg (Itt K a) [it] it (λ i h => h.IsTupleIter it a i) where
 mem := by simp
 obj := λ i h st b hb => by
  have e : b = it := by simpa using hb
  subst e
  obtain ⟨o, e, c, d⟩ := st
  exact ⟨o, e, λ v z => by rw [d] at z; cases z⟩
 keep := λ i h h' st k => st.at λ o e => k it (by simp) o e
 item := by
  intro X hP hw hK hc i pins s σ H E I hf st hg
  subst hP hw hK
  obtain ⟨xs, x, hq, hx⟩ := hg
  obtain ⟨its, rv, p, hz⟩ := I.tuple hq
  obtain ⟨u, hu, ru⟩ := rv.get hx
  obtain ⟨f0, f1, f2, f3, f4, f5⟩ := hf it (by simp)
  refine wpAny_pyNext_tuple_item st (show s.heap.IsTuple a its.toArray from p) (x := u) (by simpa using hu) λ h' st' sb => ?_
  have I1 : Inv X pins σ H { s with heap := h' } := I.turned (t' := s.toks) (λ b o hb e => (sb.2 b hb).trans e) f0 f1 f3 f4 f5
  obtain ⟨o, e, c, d⟩ := id st'
  exact ⟨u, rfl, zhN (s := { s with heap := h' }) e c d (by decide) ⟨x, H, I1, ru, ⟨rfl, λ ys hy => by rw [I.tuple_inj hy hq]; exact hx⟩, st', λ b hb => (hf b hb).1⟩⟩
 done := by
  intro X hP hw hK hc i pins s σ H E I hf st hg
  subst hP hw hK
  obtain ⟨xs, hq, hx⟩ := hg
  obtain ⟨its, rv, p, hz⟩ := I.tuple hq
  obtain ⟨f0, f1, f2, f3, f4, f5⟩ := hf it (by simp)
  have hl := rv.length
  exact wpAny_pyNext_tuple_end (I.ok.hd hc) st (show s.heap.IsTuple a its.toArray from p) (by simp; omega) λ h' eb => ⟨rfl, I.turned (t' := s.toks) (λ b o hb e => eb b o hb e) f0 f1 f3 f4 f5⟩
 self := λ _ _ _ _ _ st h => wpAny_pyIter_tupleiter st h
theorem zfB {P : Program} {w : World} {K : zC} {tg : Expr} (it : Addr) (lo : Int) (n : Nat) : Turn P w K tg (Itr lo n) [it] it (λ i h => IsRangeIter h it (lo + (i : Nat) * 1) ((n : Int) - (i : Nat)) 1) where
 mem := by simp
 obj := λ i h st b hb => by
  have e : b = it := by simpa using hb
  subst e
  exact ⟨_, st, λ v z => by
   have z' : Data.fields _ = Data.cell v := z
   cases z'⟩
 keep := λ i h h' st k => k it (by simp) _ st
 item := by
  intro X hP hw hK hc i pins s σ H E I hf st hg
  subst hP hw hK
  obtain ⟨f0, f1, f2, f3, f4, f5⟩ := hf it (by simp)
  have W := Walks.range (prog := X.prog) (w := X.w) (I.ok.hd hc) it lo 1 n
  refine W.item i s _ _ hg st λ v h' tk hv st' kk => ?_
  obtain ⟨t, rfl⟩ := hv
  have I1 : Inv X pins σ H { s with heap := h', toks := tk } := I.turned (λ b o hb e => kk b o (by simpa using hb) e) f0 f1 f3 f4 f5
  refine ⟨_, rfl, zhN (s := { s with heap := h', toks := tk }) (n := "range_iterator") st' rfl rfl (by decide) ⟨.int (lo + i), H, I1, ⟨t, ?_⟩, ⟨rfl, rfl⟩, st', λ b hb => (hf b hb).1⟩⟩
  rw [Int.mul_one]
 done := by
  intro X hP hw hK hc i pins s σ H E I hf st hg
  subst hP hw hK
  obtain ⟨f0, f1, f2, f3, f4, f5⟩ := hf it (by simp)
  exact wpAny_pyNext_range_end (I.ok.hd hc) st (by have : n <= i := hg; omega) λ h' eb => ⟨rfl, I.turned (t' := s.toks) (λ b o hb e => eb b o hb e) f0 f1 f3 f4 f5⟩
 self := λ _ _ _ _ _ st h => wpAny_pyIter_rangeiter st h
end L2
namespace L2
open PySem PySem.Spec PyProof.Rows
section
variable {X : Cx} {tg : Expr}
def zpU (K : zC) (tl : TE) : TI := λ σ H R => tl σ H λ x H1 => ∃ a, x = .ref a /\ (∃ xs, SqL K H1 a xs) /\ R (Itl K a) H1
def zrv (K : zC) (tl : TE) : TI := λ σ H R => tl σ H λ x H1 => ∃ a, x = .ref a /\ (∃ xs, SqT K H1 a xs) /\ R (Itt K a) H1
theorem zdX {l : Expr} {tl : TE} (hl : PE X l tl) : PI X tg l (zpU X.K tl) := by
 intro pins s σ H R I h
 refine thn (hl pins s σ H _ I h) λ v s1 ⟨x, H1, I1, r1, q1⟩ => ?_
 obtain ⟨a, e, ⟨xs, hq⟩, q⟩ := q1
 subst e
 cases r1
 obtain ⟨its, rv, p, hz⟩ := I1.list hq
 refine wpAny_pyIter_list p.isList ?_
 refine ⟨s1.heap.objs.size, [s1.heap.objs.size], _, _, H1, rfl, I1.kept (t' := s1.toks) λ b o e => zxF _ e, zid a _, ⟨_, zxH _ rfl, rfl, rfl⟩, λ b hb => ?_, q⟩
 have e : b = s1.heap.objs.size := by simpa using hb
 subst e
 exact I1.fpOk (zzK _) (I1.hok.fresh (zzK _))
theorem zfx {l : Expr} {tl : TE} (hl : PE X l tl) : PI X tg l (zrv X.K tl) := by
 intro pins s σ H R I h
 refine thn (hl pins s σ H _ I h) λ v s1 ⟨x, H1, I1, r1, q1⟩ => ?_
 obtain ⟨a, e, ⟨xs, hq⟩, q⟩ := q1
 subst e
 cases r1
 obtain ⟨its, rv, p, hz⟩ := I1.tuple hq
 refine wpAny_pyIter_tuple (show s1.heap.IsTuple a its.toArray from p) ?_
 refine ⟨s1.heap.objs.size, [s1.heap.objs.size], _, _, H1, rfl, I1.kept (t' := s1.toks) λ b o e => zxF _ e, zfL a _, ⟨_, zxH _ rfl, rfl, rfl⟩, λ b hb => ?_, q⟩
 have e : b = s1.heap.objs.size := by simpa using hb
 subst e
 exact I1.fpOk (zzK _) (I1.hok.fresh (zzK _))
theorem zeQ {pins : List (Addr × Obj)} {σ : St} {H : Hp} {s : Shared} {R : It -> Hp -> Prop} {E : Value -> Shared -> Prop} {lo hi : Int} {t u v : Tok} {tk : Nat} (I : Inv X pins σ H s) (h1 : -(2 ^ 62) <= lo) (h2 : lo < 2 ^ 62) (h3 : -(2 ^ 62) <= hi) (h4 : hi < 2 ^ 62)
 (q : R (Itr lo (hi - lo).toNat) H) : wpAny (model X.prog X.w) X.A (pyIter (.ref s.heap.objs.size)) (PIE X pins σ tg R) E { s with heap := s.heap.push { cls := .type "range", data := .fields #[.int lo t, .int hi u, .int 1 v] }, toks := tk } := by
 refine wpAny_pyIter_range (IsRange.new ..) (small_one h1 h2 h3 h4) ?_
 have I1 : Inv X pins σ H { s with heap := s.heap.push { cls := .type "range", data := .fields #[.int lo t, .int hi u, .int 1 v] }, toks := tk } := I.kept λ b o e => zxF _ e
 refine ⟨(s.heap.push { cls := .type "range", data := .fields #[.int lo t, .int hi u, .int 1 v] }).objs.size, [(s.heap.push { cls := .type "range", data := .fields #[.int lo t, .int hi u, .int 1 v] }).objs.size], _, _, H, rfl,
  I1.kept (t' := tk) λ b o e => zxF _ e, zfB _ lo (hi - lo).toNat, ?_, λ b hb => ?_, q⟩
 · have e1 : lo + ((0 : Nat) : Int) * 1 = lo := by simp
   have e2 : (((hi - lo).toNat : Nat) : Int) - ((0 : Nat) : Int) = Builtin.Range.rangeSize lo hi 1 := by rw [rangeSize_one]; split <;> omega
   show IsRangeIter _ _ (lo + ((0 : Nat) : Int) * 1) ((((hi - lo).toNat : Nat) : Int) - ((0 : Nat) : Int)) 1
   rw [e1, e2]
   exact zxH _ rfl
 · have e : b = (s.heap.push { cls := .type "range", data := .fields #[.int lo t, .int hi u, .int 1 v] }).objs.size := by simpa using hb
   subst e
   exact I1.fpOk (zzK _) (I1.hok.fresh (zzK _))
def zqM (ta : TA) : TI := λ σ H R => ta σ H λ vs H1 => ∃ j : Int, vs = [.int j] /\ -(2 ^ 62) <= j /\ j < 2 ^ 62 /\ R (Itr 0 j.toNat) H1
def zqJ (ta : TA) : TI := λ σ H R => ta σ H λ vs H1 => ∃ i j : Int, vs = [.int i, .int j] /\ (-(2 ^ 62) <= i /\ i < 2 ^ 62 /\ -(2 ^ 62) <= j /\ j < 2 ^ 62) /\ R (Itr i (j - i).toNat) H1
theorem zdk {a : Expr} {ta : TA} {p pos : Pos} (hg : Gl X "range") (hm : X.mg "range" = none) (ha : PA X [a] ta) (hs : starEach [a] X.env = [(false, eval a X.env)] := by rfl) : PI X tg (.Call (.Name "range" p) [a] [] pos) (zqM ta) := by
 intro pins s σ H R I h
 refine Call_ (YM I hg hm boot_range (PyProof.Rows.callWith_type1 (thn (ha pos pins s σ H _ I h) λ us s1 ⟨vs, H1, I1, r1, q1⟩ => ?_) hs rfl))
 obtain ⟨j, e, q1, q2, q⟩ := q1
 subst e
 cases r1 with
 | cons r rr =>
  cases rr
  obtain ⟨t, rfl⟩ := r
  exact call_range_1 (zeQ I1 (by omega) (by omega) q1 q2 (by simpa using q))
theorem ziq (hg : Gl X "range") (hm : X.mg "range" = none) (ha : PA X [a, b] ta) (hs : starEach [a, b] X.env = [(false, eval a X.env), (false, eval b X.env)] := by rfl) (hs2 : starEach [b] X.env = [(false, eval b X.env)] := by rfl) :
 PI X tg (.Call (.Name "range" p) [a, b] [] pos) (zqJ ta) := by
 intro pins s σ H R I h
 refine Call_ (YM I hg hm boot_range (PyProof.Rows.callWith_type1 (thn (ha pos pins s σ H _ I h) λ us s1 ⟨vs, H1, I1, r1, q1⟩ => ?_) (by rw [hs, hs2]) (by rw [hs2]; rfl)))
 obtain ⟨i, j, e, ⟨q1, q2, q3, q4⟩, q⟩ := q1
 subst e
 cases r1 with
 | cons r rr =>
  cases rr with
  | cons r' rr =>
   cases rr
   obtain ⟨t, rfl⟩ := r
   obtain ⟨t', rfl⟩ := r'
   exact call_range_2 (zeQ I1 q1 q2 q3 q4 q)
def zrK (wi : TI) (g : TG) (tb : TS) : TS := λ D σ H => wi σ H λ J H1 => ∃ W : Nat -> Nat -> St -> Hp -> Prop, (∃ m, W 0 m σ H1) /\ ∀ i m σ H, W i m σ H ->
 (J.stop i H /\ D.nx σ H) \/ (J.go i H /\ ∃ N : St -> Hp -> Prop, (∀ σ' H', N σ' H' -> ∃ m', m' < m /\ W (i + 1) m' σ' H') /\ ∀ x H', J.yld i H x H' -> g x σ H' λ σ2 H2 => tb { D with nx := N, ct := N, bk := D.nx } σ2 H2)
def zbL (fp : List Addr) (h : Heap) : List (Addr × Obj) := fp.filterMap λ b => (h.get? b).map λ o => (b, o)
theorem Xj (hb : b ∈ fp) (e : h.get? b = some o) : (b, o) ∈ zbL fp h := List.mem_filterMap.mpr ⟨b, hb, by rw [e]; rfl⟩
theorem zhQ (hp : p ∈ zbL fp h) : p.1 ∈ fp /\ h.get? p.1 = some p.2 := by
 obtain ⟨b, hb, e⟩ := List.mem_filterMap.mp hp
 cases q : h.get? b with
 | none => rw [q] at e; cases e
 | some o =>
  rw [q] at e
  have e' : (b, o) = p := zzW e
  subst e'
  exact ⟨hb, q⟩
theorem Inv.pinned (I : Inv X pins σ H s) (hf : ∀ b ∈ fp, zcJ X pins H b) (ho : ∀ b ∈ fp, ∃ o, s.heap.get? b = some o /\ ∀ v, o.data ≠ .cell v) : Inv X (pins ++ zbL fp s.heap) σ H s :=
 I.pins_of λ p hp => (zzJ.mp hp).elim (λ z => I.pin p (zzI _ z)) λ z => by
  obtain ⟨hb, e⟩ := zhQ z
  obtain ⟨f0, f1, f2, _⟩ := hf p.1 hb
  obtain ⟨o, e', d⟩ := ho p.1 hb
  rw [e] at e'; cases e'
  exact ⟨e, f0, f1, f2, d⟩
theorem Inv.unpinned (I : Inv X (pins ++ pl) σ H s) : Inv X pins σ H s := I.pins_of λ p hp => I.pin p (zzI _ (zzM _ hp))
theorem zoR (hp : PassesOwn (model X.prog X.w) X.A X.env X.xe) (hc : X.calm = true) (hi : PI X tg iter wi) (hg : PG X tg g) (hb : PSs X body tb)
 (hs : ∀ x, foldedSetIterable iter X.env x = pure x := by intro _; rfl) : PS X (.For tg iter body [] pos) (zrK wi g tb) := by
 intro pins s σ H D I h
 refine wpAny_For (thn (hi pins s σ H _ I h) λ v s1 h1 => thn h1 λ itv s2 h2 => ?_) hs
 obtain ⟨it, fp, tn, J, H2, e, I2, T, st2, f2, W, ⟨m0, w0⟩, turn⟩ := h2
 subst e
 have stat : ∀ {H' : Hp}, (∀ b ∈ fp, H' b = none) -> ∀ b ∈ fp, zcJ X pins H' b := λ hn b hb => ⟨hn b hb, (f2 b hb).2⟩
 refine codeAny_forLoop_any (λ n s' => ∃ i σ' H', Inv X pins σ' H' s' /\ tn i s'.heap /\ (∀ b ∈ fp, H' b = none) /\ W i n σ' H') ?_ m0 ⟨0, σ, H2, I2, st2, λ b hb => (f2 b hb).1, w0⟩
 rintro n s3 ⟨i, σ3, H3, I3, st3, fr3, w3⟩
 rcases turn i n σ3 H3 w3 with ⟨stop, qn⟩ | ⟨go, N, hN, step⟩
 · refine wpAny_passesOwn hp (thn (T.done X rfl rfl rfl hc i pins s3 σ3 H3 X.xe I3 (stat fr3) st3 stop) λ r s4 ⟨hr, I4⟩ => ?_)
   subst hr
   exact wpAny_execs_nil ⟨σ3, H3, I4, qn⟩
 · refine wpAny_passesOwn hp (thn (T.item X rfl rfl rfl hc i pins s3 σ3 H3 X.xe I3 (stat fr3) st3 go) λ r s4 ⟨u, hr, h4⟩ => ?_)
   subst hr
   refine wpAny_passesOwn hp (thn h4 λ _ s5 ⟨x, H5, I5, r5, y5, st5, fr5⟩ => ?_)
   have I5' := I5.pinned (stat fr5) (T.obj _ _ st5)
   refine wpAny_passesOwn hp (thn (hg _ s5 σ3 H5 x u _ I5' r5 (step x H5 y5)) λ _ s6 ⟨σ6, H6, I6, q6⟩ => ?_)
   refine wpAny_passesOwn hp (thn (hb _ s6 σ6 H6 _ I6 q6) λ f s7 q7 => ?_)
   have again : ∀ {σ7 : St} {H7 : Hp}, Inv X (pins ++ zbL fp s5.heap) σ7 H7 s7 -> N σ7 H7 -> ∃ m, m < n /\ ∃ i σ' H', Inv X pins σ' H' s7 /\ tn i s7.heap /\ (∀ b ∈ fp, H' b = none) /\ W i m σ' H' := λ {σ7 H7} I7 n7 => by
    obtain ⟨m', hm, w7⟩ := hN σ7 H7 n7
    refine ⟨m', hm, i + 1, σ7, H7, I7.unpinned, T.keep _ _ _ st5 λ b hb o e => (I7.pin (b, o) (zzI _ (zzI _ (Xj hb e)))).1, λ b hb => ?_, w7⟩
    obtain ⟨o, e, d⟩ := T.obj _ _ st5 b hb
    exact (I7.pin (b, o) (zzI _ (zzI _ (Xj hb e)))).2.1
   cases f with
   | next => obtain ⟨σ7, H7, I7, n7⟩ := q7; exact again I7 n7
   | cont => obtain ⟨σ7, H7, I7, n7⟩ := q7; exact again I7 n7
   | brk => obtain ⟨σ7, H7, I7, q7⟩ := q7; exact ⟨σ7, H7, I7.unpinned, q7⟩
   | ret v => obtain ⟨x7, σ7, H7, I7, r7, q7⟩ := q7; exact ⟨x7, σ7, H7, I7.unpinned, r7, q7⟩
end
end L2
namespace L2
open PySem PySem.Spec PyProof.Rows
abbrev R2 := V -> V -> Hp -> VK -> Prop
def OpR (X : Cx) (f : Value -> Value -> Sem Value) (r : R2) : Prop :=
 ∀ (pins : List (Addr × Obj)) (s : Shared) (σ : St) (H : Hp) (x y : V) (v u : Value) (Q : VK), Inv X pins σ H s -> RelV x v -> RelV y u -> r x y H Q ->
  wpAny (model X.prog X.w) X.A (f v u) (EP X pins σ Q) X.xe s
def WM (X : Cx) (f : Value) (r : List V -> Hp -> VK -> Prop) : Prop :=
 ∀ (pins : List (Addr × Obj)) (s : Shared) (σ : St) (H : Hp) (xs : List V) (us : List Value) (Q : VK), Inv X pins σ H s -> Vals xs us -> r xs H Q ->
  wpAny (model X.prog X.w) X.A (call f us) (EP X pins σ Q) X.xe s
def zrc (X : Cx) (r : V -> Hp -> (Bool -> Hp -> Prop) -> Prop) : Prop :=
 ∀ (pins : List (Addr × Obj)) (s : Shared) (σ : St) (H : Hp) (x : V) (v : Value) (Q : Bool -> Hp -> Prop), Inv X pins σ H s -> RelV x v -> r x H Q ->
  wpAny (model X.prog X.w) X.A (truthy v) (TP X pins σ Q) X.xe s
def tOp (r : R2) (ta tb : TE) : TE := λ σ H Q => ta σ H λ x H1 => tb σ H1 λ y H2 => r x y H2 Q
def rI (C : Int -> Int -> Prop) (g : Int -> Int -> V) : R2 := λ x y H Q => ∃ i j, x = .int i /\ y = .int j /\ C i j /\ Q (g i j) H
def rI0 (g : Int -> Int -> V) : R2 := λ x y H Q => ∃ i j, x = .int i /\ y = .int j /\ Q (g i j) H
section
variable {X : Cx} {a b c : Expr} {ta tb tc : TE} {pos : Pos}
theorem znq (ha : PE X a ta) (hb : PE X b tb) {pins : List (Addr × Obj)} {s : Shared} {σ : St} {H : Hp} {R : V -> V -> Hp -> Prop} (I : Inv X pins σ H s)
 (h : ta σ H λ x H1 => tb σ H1 λ y H2 => R x y H2) {Q : Value -> Shared -> Prop} {f : Value -> Value -> Sem Value}
 (hf : ∀ v u s2 x y H2, Inv X pins σ H2 s2 -> RelV x v -> RelV y u -> R x y H2 -> wpAny (model X.prog X.w) X.A (f v u) Q X.xe s2) :
 wpAny (model X.prog X.w) X.A (eval a X.env) (λ v s₁ => wpAny (model X.prog X.w) X.A (eval b X.env) (λ u s₂ => wpAny (model X.prog X.w) X.A (f v u) Q X.xe s₂) X.xe s₁) X.xe s := by
 refine thn (ha pins s σ H _ I h) λ v s1 ⟨x, H1, I1, r1, q1⟩ => ?_
 refine thn (hb pins s1 σ H1 _ I1 q1) λ u s2 ⟨y, H2, I2, r2, q2⟩ => ?_
 exact hf v u s2 x y H2 I2 r1 r2 q2
theorem zqG {op : Operator} {r : R2} (ho : OpR X (binaryOp op) r) (ha : PE X a ta) (hb : PE X b tb) : PE X (.BinOp a op b pos) (tOp r ta tb) := by
 intro pins s σ H Q I h
 exact wpAny_BinOp (znq ha hb I h λ v u s2 x y H2 I2 rx ry q => ho pins s2 σ H2 x y v u Q I2 rx ry q)
theorem opI {f : Value -> Value -> Sem Value} {C : Int -> Int -> Prop} {g : Int -> Int -> Int}
 (rule : ∀ (i j : Int) (t u : Tok) (s : Shared) (Q : Value -> Shared -> Prop) (E : Value -> Shared -> Prop), C i j -> Q (.int (g i j) s.toks) { s with toks := s.toks + 1 } -> wpAny (model X.prog X.w) X.A (f (.int i t) (.int j u)) Q E s) :
 OpR X f (rI C λ i j => .int (g i j)) := by
 intro pins s σ H x y v u Q I rx ry h
 obtain ⟨i, j, rfl, rfl, hc, q⟩ := h
 obtain ⟨t, rfl⟩ := rx
 obtain ⟨t', rfl⟩ := ry
 exact rule i j t t' s _ _ hc ⟨.int (g i j), H, I.tok _, ⟨_, rfl⟩, q⟩
theorem zqO {f : Value -> Value -> Sem Value} {g : Int -> Int -> Int}
 (rule : ∀ (i j : Int) (t u : Tok) (s : Shared) (Q : Value -> Shared -> Prop) (E : Value -> Shared -> Prop), Q (.int (g i j) s.toks) { s with toks := s.toks + 1 } -> wpAny (model X.prog X.w) X.A (f (.int i t) (.int j u)) Q E s) :
 OpR X f (rI0 λ i j => .int (g i j)) := by
 intro pins s σ H x y v u Q I rx ry h
 obtain ⟨i, j, rfl, rfl, q⟩ := h
 obtain ⟨t, rfl⟩ := rx
 obtain ⟨t', rfl⟩ := ry
 exact rule i j t t' s _ _ ⟨.int (g i j), H, I.tok _, ⟨_, rfl⟩, q⟩
theorem zls {f : Value -> Value -> Sem Value} {g : Int -> Int -> Bool}
 (rule : ∀ (i j : Int) (t u : Tok) (s : Shared) (Q : Value -> Shared -> Prop) (E : Value -> Shared -> Prop), Q (.bool (g i j)) s -> wpAny (model X.prog X.w) X.A (f (.int i t) (.int j u)) Q E s) :
 OpR X f (rI0 λ i j => .bl (g i j)) := by
 intro pins s σ H x y v u Q I rx ry h
 obtain ⟨i, j, rfl, rfl, q⟩ := h
 obtain ⟨t, rfl⟩ := rx
 obtain ⟨t', rfl⟩ := ry
 exact rule i j t t' s _ _ ⟨.bl (g i j), H, I, rfl, q⟩
def zqi (i j : Int) : Prop := 0 <= j /\ j <= 1000000 /\ i.natAbs < 2 ^ 64
theorem zod : OpR X (binaryOp .Add) (rI0 λ i j => .int (i + j)) := zqO λ _ _ _ _ _ _ _ q => add_int q
theorem zph : OpR X (binaryOp .Sub) (rI0 λ i j => .int (i - j)) := zqO λ _ _ _ _ _ _ _ q => sub_int q
theorem zny : OpR X (binaryOp .Mod) (rI (λ _ j => 0 < j) λ i j => .int (i % j)) := opI λ i j _ _ _ _ _ hc q => by
 have h1 : (0 : Int) < j := hc
 exact mod_int' (by omega) (by rw [Int.fmod_eq_emod_of_nonneg i (by omega)]; exact q)
theorem znS : OpR X (binaryOp .Pow) (rI zqi λ i j => .int (i ^ j.toNat)) := opI λ _ _ _ _ _ _ _ hc q => pow_int_small hc.1 hc.2.1 hc.2.2 q
theorem zox : OpR X (binaryOp .LShift) (rI zqi λ i j => .int (i * 2 ^ j.toNat)) := opI λ _ _ _ _ _ _ _ hc q => lshift_int_small hc.1 hc.2.1 hc.2.2 q
end
section
variable {X : Cx} {a b c : Expr} {ta tb tc : TE} {pos : Pos}
theorem vh (I : Inv X pins σ H s) (q : Q (.bl k) H) (e : k = k') : EP X pins σ Q (.bool k') s := by
 subst e
 exact ⟨.bl k, H, I, rfl, q⟩
theorem zpQ : OpR X (compareOp .Lt) (rI0 λ i j => .bl (decide (i < j))) := zls λ _ _ _ _ _ _ _ q => lt_int q
theorem zqD : OpR X (compareOp .LtE) (rI0 λ i j => .bl (decide (i <= j))) := zls λ _ _ _ _ _ _ _ q => le_int q
theorem zpW : OpR X (compareOp .Gt) (rI0 λ i j => .bl (decide (j < i))) := zls λ _ _ _ _ _ _ _ q => gt_int q
theorem zqw : OpR X (compareOp .GtE) (rI0 λ i j => .bl (decide (j <= i))) := zls λ _ _ _ _ _ _ _ q => ge_int q
theorem zis : OpR X (compareOp .In) (λ x y H Q => ∃ i j, x = .str i /\ y = .str j /\ Q (.bl (!(Builtin.Str.occurrences j i 0 j.length 1).isEmpty)) H) := by
 intro pins s σ H x y v u Q I rx ry h
 obtain ⟨i, j, rfl, rfl, q⟩ := h
 obtain ⟨t, rfl⟩ := rx
 obtain ⟨t', rfl⟩ := ry
 exact in_str (vh I q rfl)
theorem znM : OpR X (compareOp .Is) (λ x y H Q => y = .non /\ Q (.bl (decide (x = .non))) H) := by
 intro pins s σ H x y v u Q I rx ry h
 obtain ⟨rfl, q⟩ := h
 cases ry
 refine is_none_gen (vh I q ?_)
 cases x <;> first
  | (cases rx; rfl)
  | (obtain ⟨t, rfl⟩ := rx; rfl)
theorem zmG : OpR X (compareOp .IsNot) (λ x y H Q => y = .non /\ Q (.bl (!decide (x = .non))) H) := by
 intro pins s σ H x y v u Q I rx ry h
 obtain ⟨rfl, q⟩ := h
 cases ry
 refine isnot_none_gen (vh I q ?_)
 cases x <;> first
  | (cases rx; rfl)
  | (obtain ⟨t, rfl⟩ := rx; rfl)
theorem zez : OpR X (compareOp .NotIn) (λ x y H Q => ∃ i j, x = .str i /\ y = .str j /\ Q (.bl (!(!(Builtin.Str.occurrences j i 0 j.length 1).isEmpty))) H) := by
 intro pins s σ H x y v u Q I rx ry h
 obtain ⟨i, j, rfl, rfl, q⟩ := h
 obtain ⟨t, rfl⟩ := rx
 obtain ⟨t', rfl⟩ := ry
 exact notIn_str (vh I q rfl)
theorem yx (b : Expr) (h : op ≠ .In := by decide) (h2 : op ≠ .NotIn := by decide) : behindInMarks op b = false := by
 have e1 : (op == CmpOp.In) = false := by cases op <;> first | rfl | exact absurd rfl h
 have e2 : (op == CmpOp.NotIn) = false := by cases op <;> first | rfl | exact absurd rfl h2
 cases b <;> simp [behindInMarks, e1, e2]
theorem zmd {op : CmpOp} {r : R2} (ho : OpR X (compareOp op) r) (ha : PE X a ta) (hb : PE X b tb) (hm : behindInMarks op b = false) : PE X (.Compare a [op] [b] pos) (tOp r ta tb) := by
 intro pins s σ H Q I h
 exact wpAny_Compare1 (znq ha hb I h λ v u s2 x y H2 I2 rx ry q => ho pins s2 σ H2 x y v u Q I2 rx ry q) hm
def zqN (t : TE) : TT := λ σ H Q => t σ H λ x H' => ∃ k, x = .bl k /\ Q k H'
theorem zlx (ho : OpR X (compareOp op) r) (ha : PE X a ta) (hb : PE X b tb) (hm : behindInMarks op b = false) : PT X (.Compare a [op] [b] pos) (zqN (tOp r ta tb)) := by
 intro pins s σ H Q I h
 refine wpAny_isTrue_Compare1 (thn (ha pins s σ H _ I h) λ v s1 ⟨x, H1, I1, r1, q1⟩ => thn (hb pins s1 σ H1 _ I1 q1) λ u s2 ⟨y, H2, I2, r2, q2⟩ =>
  thn (ho pins s2 σ H2 x y v u _ I2 r1 r2 q2) λ c s3 ⟨z, H3, I3, r3, k, e, q3⟩ => ?_) hm
 subst e
 cases r3
 exact wpAny_truthy_bool ⟨H3, I3, q3⟩
def zol (K : zC) (x : V) (H : Hp) (k : Bool) : Prop :=
 match x with
 | .non => k = false
 | .bl b => k = b
 | .int i => k = (i != 0)
 | .str y => y.length <= sizeLine /\ k = ((y.length : Int) != 0)
 | .byt y => y.size <= sizeLine /\ k = ((y.size : Int) != 0)
 | .ref p => (∃ xs, SqL K H p xs /\ k = !xs.isEmpty) \/ (∃ xs, SqT K H p xs /\ k = !xs.isEmpty) \/ ∃ kvs, H p = some (.dK kvs) /\ k = !kvs.isEmpty
 | _ => False
theorem zgw (r : KV kvs vs) : (!vs.isEmpty) = !kvs.isEmpty := by
 cases r <;> rfl
theorem zcD (r : Vals xs its) : (!its.toArray.isEmpty) = !xs.isEmpty := by
 cases r <;> simp
theorem Vi : (sizeLine : Nat) < 2 ^ 63 := by rw [sizeLine_eq]; decide
theorem zoI : zrc X (λ x H Q => ∃ k, zol X.K x H k /\ Q k H) := by
 intro pins s σ H x v Q I rx h
 obtain ⟨k, e, q⟩ := h
 have hl := Vi
 have hs : sizeLine = 16777216 := sizeLine_eq
 cases x with
 | non =>
  cases rx
  have e' : k = false := e
  subst e'
  exact truthy_none ⟨H, I, q⟩
 | bl b =>
  cases rx
  have e' : k = b := e
  subst e'
  exact wpAny_truthy_bool ⟨H, I, q⟩
 | int i =>
  obtain ⟨t, rfl⟩ := rx
  have e' : k = (i != 0) := e
  subst e'
  exact PySem.P.truthy_int ⟨H, I, q⟩
 | str y =>
  obtain ⟨t, rfl⟩ := rx
  obtain ⟨hy, e'⟩ : y.length <= sizeLine /\ k = ((y.length : Int) != 0) := e
  subst e'
  exact PySem.P.truthy_str (by omega) ⟨H, I.tok _, q⟩
 | byt y =>
  obtain ⟨t, rfl⟩ := rx
  obtain ⟨hy, e'⟩ : y.size <= sizeLine /\ k = ((y.size : Int) != 0) := e
  subst e'
  exact PySem.W.truthy_bytes (by omega) ⟨H, I.tok _, q⟩
 | ref p =>
  cases rx
  have e' : (∃ xs, SqL X.K H p xs /\ k = !xs.isEmpty) \/ (∃ xs, SqT X.K H p xs /\ k = !xs.isEmpty) \/ ∃ kvs, H p = some (.dK kvs) /\ k = !kvs.isEmpty := e
  rcases e' with ⟨xs, hx, e'⟩ | ⟨xs, hx, e'⟩ | ⟨kvs, hx, e'⟩
  · subst e'
    obtain ⟨its, r, pl, hz⟩ := I.list hx
    have hlen := r.length
    exact wpAny_truthy_list pl.isList (by simp only [zzE]; omega) ⟨H, I.tok _, by rw [zcD r]; exact q⟩
  · subst e'
    obtain ⟨its, r, pl, hz⟩ := I.tuple hx
    have hlen := r.length
    exact truthy_tuple pl (by simp only [zzE]; omega) ⟨H, I.tok _, by rw [zcD r]; exact q⟩
  · subst e'
    obtain ⟨hz, hS, vs, r, m⟩ : kvs.length <= sizeLine /\ (p == sysModules) = false /\ ∃ vs, KV kvs vs /\ s.heap.DictOf (yz X.prog X.w) p vs := I.hok p _ hx
    have hlen : kvs.length = vs.length := Paired.length r
    exact wpAny_truthy_dict hS m (by omega) ⟨H, I.tok _, by rw [zgw r]; exact q⟩
 | _ => exact (show False from e).elim
theorem zja (ha : PE X a ta) (he : ∀ whole, isTrue a X.env whole = (do let v <- whole; standAt a.pos; holding [v] (truthy v))) :
 PT X a (λ σ H Q => ta σ H λ x H' => ∃ k, zol X.K x H' k /\ Q k H') := by
 intro pins s σ H Q I h
 exact isTrue_plain (thn (ha pins s σ H _ I h) λ v s1 ⟨x, H1, I1, r1, q1⟩ => zoI pins s1 σ H1 x v Q I1 r1 q1) (he _)
theorem zfX : OpR X (binaryOp .Add) (λ x y H Q => ∃ i j, x = .str i /\ y = .str j /\ i.length + j.length <= sizeLine /\ Q (.str (i ++ j)) H) := by
 intro pins s σ H x y v u Q I rx ry h
 obtain ⟨i, j, rfl, rfl, hz, q⟩ := h
 obtain ⟨t, rfl⟩ := rx
 obtain ⟨t', rfl⟩ := ry
 exact add_str (λ t' tk => ⟨.str (i ++ j), H, I.tok _, ⟨_, rfl⟩, q⟩) hz
theorem vals1 (r : Vals [x] us) : ∃ u, us = [u] /\ RelV x u := by
 cases r with
 | cons r1 r2 => cases r2; exact ⟨_, rfl, r1⟩
theorem vals2 (r : Vals [x, y] us) : ∃ u w', us = [u, w'] /\ RelV x u /\ RelV y w' := by
 cases r with
 | cons r1 r2 =>
  cases r2 with
  | cons r3 r4 => cases r4; exact ⟨_, _, rfl, r1, r3⟩
theorem zhV (hc : X.calm = true) : WM X (.builtin "max") (λ xs H Q => ∃ i j, xs = [.int i, .int j] /\ Q (.int (if j > i then j else i)) H) := by
 intro pins s σ H xs us Q I r h
 obtain ⟨i, j, rfl, q⟩ := h
 obtain ⟨u, w', rfl, ⟨t, rfl⟩, ⟨t', rfl⟩⟩ := vals2 r
 refine max_two_ints (I.ok.hd hc) λ h' tk k => ⟨_, H, I.kept k, ?_, q⟩
 by_cases hj : j > i
 · rw [if_pos hj, if_pos hj]; exact ⟨_, rfl⟩
 · rw [if_neg hj, if_neg hj]; exact ⟨_, rfl⟩
theorem zdb : WM X (.type "int") (λ xs H Q => (∃ i, xs = [.int i] /\ Q (.int i) H) \/ ∃ k, xs = [.bl k] /\ Q (.int (if k then 1 else 0)) H) := by
 intro pins s σ H xs us Q I r h
 rcases h with ⟨i, rfl, q⟩ | ⟨k, rfl, q⟩
 · obtain ⟨u, rfl, t, rfl⟩ := vals1 r
   exact call_int_int ⟨.int i, H, I, ⟨_, rfl⟩, q⟩
 · obtain ⟨u, rfl, r1⟩ := vals1 r
   cases r1
   exact call_int_bool ⟨.int (if k then 1 else 0), H, I.tok _, ⟨_, rfl⟩, q⟩
end
end L2
namespace L2
open PySem PySem.Spec PyProof.Rows
structure ObjM (h : Heap) (x dx C : Addr) (mA : Str -> Option Value) : Prop where
 obj : h.get? x = some (PySem.W.instObj C dx)
 ns : h.Ns1 dx mA
 ne : dx ≠ x
theorem zbU.some_of (r : zbU (some v) o) : ∃ u, o = some u /\ RelV v u := by
 cases o with
 | none => exact (show False from r).elim
 | some u => exact ⟨u, rfl, r⟩
structure Cls (K : zC) (C : Addr) : Prop where
 pg : PySem.W.plainGet K C Str.empty = true
 hd : PySem.W.hasDictIn K C = true
 po : PySem.W.plainOver K C = true
 sa : PySem.W.findIn K (.ref C) "__setattr__" = some (some (.builtin "object.__setattr__"))
structure Con (K : zC) (C : Addr) (f : Str) (v : V) (u : Value) : Prop where
 at_ : PySem.W.findIn K (.ref C) f = some (some u)
 rel : RelV v u
 get : PySem.W.specialIn K u "__get__" = some none
 cp : PySem.W.copiedNames.contains f = false
structure Meth (K : zC) (C : Addr) (m : Str) (f : Addr) : Prop where
 at_ : PySem.W.findIn K (.ref C) m = some (some (.ref f))
 fn : PySem.W.isFn K (.ref f) = true
 kp : PySem.W.keepIn K (.ref f) = true
section
variable {X : Cx} {pins : List (Addr × Obj)} {σ : St} {H : Hp} {s : Shared} {A : Around} {E : Value -> Shared -> Prop} {Q : Value -> Shared -> Prop} {c : Value} {b : Bool}
inductive TyOf (K : zC) (H : Hp) : V -> Value -> Prop where
 | non : TyOf K H .non (.type "NoneType")
 | bl (x : Bool) : TyOf K H (.bl x) (.type "bool")
 | int (i : Int) : TyOf K H (.int i) (.type "int")
 | str (x : Str) : TyOf K H (.str x) (.type "str")
 | flt (x : UInt64) : TyOf K H (.flt x) (.type "float")
 | lst {a : Addr} {xs : List V} (e : H a = some (.lst xs)) : TyOf K H (.ref a) (.type "list")
 | frz {a : Addr} {o : Obj} {xs : List V} (e : H a = some (.frz o (.lst xs))) : TyOf K H (.ref a) (.type "list")
 | tup {a : Addr} {xs : List V} (e : H a = some (.tup xs)) : TyOf K H (.ref a) (.type "tuple")
 | dK {a : Addr} {kvs : List (Key × V)} (e : H a = some (.dK kvs)) : TyOf K H (.ref a) (.type "dict")
 | dT {a : Addr} {kvs : List (List Key × V)} (e : H a = some (.dT kvs)) : TyOf K H (.ref a) (.type "dict")
 | ins {a C dx : Addr} {fs : List (Str × V)} (e : H a = some (.ins C dx fs)) (cl : Cls K C) (ha : PySem.W.findIn K (.ref C) "__class__" = some (some (.builtin "object.__class__")))
  (hn : PySem.W.specialIn K (.builtin "object.__class__") "__get__" = some (some (.builtin "getset_descriptor.__get__"))) (htk : PySem.W.takesIn K (.builtin "object.__class__") = some true)
  (hm : PySem.W.mroIn K C (.type "object") = some true) : TyOf K H (.ref a) (.ref C)
end
end L2
namespace L2
open PySem PySem.Spec PyProof.Rows
structure Room (k : Nat) (A : Around) : Prop where
 hd : A.handled = none
 dp : A.depth + 3 * k + 5 < recursionLimit
 un : A.units + 16 * k + 200 < cLine
 gd : A.guards = some []
theorem Room.mono (r : Room k A) (h : j <= k) : Room j A := ⟨r.hd, by have := r.dp; omega, by have := r.un; omega, r.gd⟩
theorem Room.deeper (r : Room (k + 1) A) (env : Env) : Room k (A.deeper env) :=
 ⟨r.hd, by have := r.dp; show A.depth + 1 + 3 * k + 5 < _; omega, by have := r.un; show A.units + 3 + 16 * k + 200 < _; omega, r.gd⟩
theorem Room.depth (r : Room k A) : A.depth < recursionLimit := by have := r.dp; omega
theorem Room.units (r : Room k A) : A.units + 64 < cLine := by have := r.un; omega
def zpK : TA := λ _ H Q => Q [] H
def zmJ (ta : TE) (tr : TA) : TA := λ σ H Q => ta σ H λ x H1 => tr σ H1 λ xs H2 => Q (x :: xs) H2
section
variable {X : Cx} {e : Expr} {es : List Expr} {te : TE} {t : TA} {pos : Pos}
theorem zel : PA X [] zpK := λ _ _ _ _ H Q I h => Calls.spliced_nil ⟨[], H, I, .nil, h⟩
theorem Vq (ha : PE X e te) (hr : PA X es t) (hs : starEach (e :: es) X.env = (false, eval e X.env) :: starEach es X.env := by rfl) : PA X (e :: es) (zmJ te t) := by
 intro pos pins s σ H Q I h
 rw [hs]
 show wpAny _ _ (spliced ((false, eval e X.env) :: backTo pos (starEach es X.env))) _ _ s
 refine Calls.spliced_cons (thn (ha pins s σ H _ I h) λ u s1 ⟨x, H1, I1, r1, q1⟩ => ?_)
 exact thn (hr pos pins s1 σ H1 _ I1 q1) λ us s2 ⟨xs, H2, I2, r2, q2⟩ => ⟨x :: xs, H2, I2, .cons r1 r2, q2⟩
def zqW (t : TA) : TE := λ σ H Q => t σ H λ xs H1 => xs.length <= sizeLine /\ ∀ p, H1 p = none -> Q (.ref p) (upd H1 p (.tup xs))
def zrf (t : TA) : TE := λ σ H Q => t σ H λ xs H1 => xs.length <= sizeLine /\ ∀ p, H1 p = none -> Q (.ref p) (upd H1 p (.lst xs))
theorem zoq (h : PA X es t) : PE X (.Tuple es x1 pos) (zqW t) := by
 intro pins s σ H Q I hq
 refine wpAny_Tuple_spliced (thn (h pos pins s σ H _ I hq) λ us s1 ⟨xs, H1, I1, r, z, q⟩ => ⟨by rw [<- r.length]; exact z, ?_⟩)
 have hf : H1 s1.heap.objs.size = none := I1.hok.fresh (zzK _)
 refine ⟨.ref s1.heap.objs.size, upd H1 s1.heap.objs.size (.tup xs), I1.laid (t' := s1.toks) (λ b u e => zxF _ e) (zzK _) ?_, rfl, q _ hf⟩
 exact ⟨z, us, r, ⟨_, zxH _ rfl, rfl, _, rfl⟩⟩
theorem zpf (h : PA X es t) : PE X (.List es pos) (zrf t) := by
 intro pins s σ H Q I hq
 refine wpAny_List_spliced (thn (h pos pins s σ H _ I hq) λ us s1 ⟨xs, H1, I1, r, z, q⟩ => ⟨by rw [<- r.length]; exact z, ?_⟩)
 have hf : H1 s1.heap.objs.size = none := I1.hok.fresh (zzK _)
 refine ⟨.ref s1.heap.objs.size, upd H1 s1.heap.objs.size (.lst xs), I1.laid (t' := s1.toks) (λ b u e => zxF _ e) (zzK _) ?_, rfl, q _ hf⟩
 exact ⟨z, us, 0, r, zxH _ rfl⟩
end
abbrev Sp := List V -> Hp -> VK -> XK -> Prop
abbrev CXT := List Env -> Hp -> Shared -> XK -> Value -> Shared -> Prop
structure Env0 (P : Program) (w : World) (K : zC) (mg : Str -> Option Value) (base : Heap) (A : Around) (outer : List Env) (s : Shared) (H : Hp) : Prop where
 frames : A.frames = some outer
 mod : Mod K mg base
 bs : ∀ b o, base.get? b = some o -> s.heap.get? b = some o /\ H b = none
 bsz : base.objs.size <= s.heap.objs.size
 funs : s.heap.FunFrames base outer
 frf : ∀ b ∈ frs outer, H b = none
 hok : HOk P w H s.heap
 bare : AllBare s.gens
def CE (outer : List Env) (P : Program) (w : World) (H : Hp) (s : Shared) (Q : VK) (u : Value) (s' : Shared) : Prop :=
 ∃ v H', s'.os = s.os /\ AllBare s'.gens /\ Un (frs outer) [] H H' s.heap s'.heap /\ HOk P w H' s'.heap /\ RelV v u /\ Q v H'
def CR (CX : CXT) (outer : List Env) (P : Program) (w : World) (H : Hp) (s : Shared) (Q : VK) (E : XK) (r : Result) (s' : Shared) : Prop :=
 match r with
 | .ok (.ret u) => CE outer P w H s Q u s'
 | .ok _ => False
 | .error e => CX outer H s E e s'
structure FnOk (P : Program) (w : World) (K : zC) (mg : Str -> Option Value) (base : Heap) (CX : CXT) (k : Nat) (f : Addr) (fd : FuncData) (ps : List Str) (sp : Sp) : Prop where
 len : ∀ vs H Q E, sp vs H Q E -> vs.length = ps.length
 run : ∀ (A : Around) (outer : List Env) (s : Shared) (H : Hp) (args : Args) (us : List Value) (vs : List V) (Q : VK) (E : XK), Room k A -> Env0 P w K mg base A outer s H -> BindsTo s fd args (ps.zip us) -> Vals vs us -> sp vs H Q E ->
  codeAny (model P w) A (.call (.ref f) args) (CR CX outer P w H s Q E) s
theorem FnOk.imp {P : Program} {w : World} {K : zC} {mg : Str -> Option Value} {base : Heap} {CX : CXT} {k : Nat} {f : Addr} {fd : FuncData} {ps : List Str} {sp sp' : Sp} (F : FnOk P w K mg base CX k f fd ps sp)
 (h : ∀ vs H Q E, sp' vs H Q E -> sp vs H Q E) : FnOk P w K mg base CX k f fd ps sp' :=
 ⟨λ vs H Q E q => F.len vs H Q E (h _ _ _ _ q), λ A outer s H args us vs Q E hr he hb hv hs => F.run A outer s H args us vs Q E hr he hb hv (h _ _ _ _ hs)⟩
section
variable {X : Cx} {pins : List (Addr × Obj)} {σ : St} {H : Hp} {s s' : Shared}
theorem Inv.env0 (I : Inv X pins σ H s) : Env0 X.prog X.w X.K X.mg X.base X.A X.stack s H :=
 ⟨I.ok.frames, I.ok.mod, I.bs, zzL I.ok.bsz I.sz, I.stack, I.stkFree, I.hok, I.bare⟩
theorem Inv.after (I : Inv X pins σ H s) (h : CE X.stack X.prog X.w H s Q u s') : EP X pins σ Q u s' := by
 obtain ⟨v, H', os, bare, un, hok, r, q⟩ := h
 obtain ⟨hh, g, d, t, os'⟩ := s'
 obtain rfl : os' = s.os := os
 exact ⟨v, H', I.call (h' := hh) (g' := g) (d' := d) (t' := t) (ch := []) un hok bare (λ b z => absurd z (by simp)), r, q⟩
end
def zmZ (sp : Sp) (dvs : List V) (E : XK) (t : TA) : TE := λ σ H Q => t σ H λ vs H1 => sp (vs ++ dvs) H1 Q E
def Binds (K : zC) (fd : FuncData) (ps : List Str) (ds : List Value) : Prop :=
 ∀ (s : Shared) (us : List Value), K.In s.heap -> (us ++ ds).length = ps.length -> BindsTo s fd ⟨us, []⟩ (ps.zip (us ++ ds))
theorem Binds.all {K : zC} {fd : FuncData} {ps : List Str} (h : ∀ us : List Value, us.length = ps.length -> bindArgs fd ⟨us, []⟩ = pure (ps.zip us)) : Binds K fd ps [] := λ s us _ hl => by
 rw [zyB] at hl ⊢
 exact .of_eq (h us hl)
def zar (CX : CXT) (X : Cx) (E : XK) : Prop := ∀ (pins : List (Addr × Obj)) (σ : St) (H : Hp) (s : Shared) (e : Value) (s' : Shared), Inv X pins σ H s -> CX X.stack H s E e s' -> X.xe e s'
section
variable {X : Cx} {CX : CXT} {k : Nat} {f C : Addr} {fd : FuncData} {ps : List Str} {sp : Sp} {dvs : List V} {ds : List Value} {E : XK} {x m : Str} {p pos apos : Pos} {e o : Expr} {es : List Expr} {ta : TE} {t : TA}
theorem zkO (F : FnOk X.prog X.w X.K X.mg X.base CX k f fd ps sp) (hr : Room k X.A) (hb : Binds X.K fd ps ds) (hd : Vals dvs ds) (hx : zar CX X E)
 (I : Inv X pins σ H s) (r : Vals vs us) (h : sp (vs ++ dvs) H Q E) : wpAny (model X.prog X.w) X.A (call (.ref f) us) (EP X pins σ Q) X.xe s := by
 have r2 : Vals (vs ++ dvs) (us ++ ds) := r.append hd
 have hl : (us ++ ds).length = ps.length := by rw [<- r2.length]; exact F.len _ _ _ _ h
 refine wpAny_call (codeAny_mono (F.run X.A X.stack s H ⟨us, []⟩ (us ++ ds) (vs ++ dvs) Q E hr I.env0 (hb s us I.kIn hl) r2 h) λ r s' hq => ?_)
 cases r with
 | error e => exact hx pins σ H s e s' I hq
 | ok fl =>
  cases fl with
  | ret u => exact I.after hq
  | next => exact False.elim hq
  | brk => exact False.elim hq
  | cont => exact False.elim hq
theorem zlM (F : FnOk X.prog X.w X.K X.mg X.base CX k f fd ps sp) (hr : Room k X.A) (hg : Gl X x) (hm : X.mg x = some (.ref f)) (hk : PySem.W.keepIn X.K (.ref f) = true) (hb : Binds X.K fd ps ds) (hd : Vals dvs ds) (hx : zar CX X E)
 (ha : PA X (e :: es) t) (hdb : (x == ("__debug__" : Str)) = false := by decide) (he : starEach (e :: es) X.env = (false, eval e X.env) :: starEach es X.env := by rfl) (hpl : (backTo pos (starEach es X.env)).any (·.1) = false := by rfl) :
 PE X (.Call (.Name x p) (e :: es) [] pos) (zmZ sp dvs E t) := by
 intro pins s σ H Q I h
 refine wpAny_Call_Name_kw (zhC I hg hm ?_ hdb)
 refine PySem.W.callWith_K (h₀ := X.base) I.ok.mod.kin hk (thn (ha pos pins s σ H _ I h) λ us s1 ⟨vs, H1, I1, r, q⟩ => ⟨I1.kIn, ?_⟩) he hpl
 exact zkO F hr hb hd hx I1 r q
structure Mk (K : zC) (C f : Addr) : Prop where
 makes : PySem.W.makesIn K C = true
 init : PySem.W.findIn K (.ref C) "__init__" = some (some (.ref f))
 fn : PySem.W.isFn K (.ref f) = true
 kp : PySem.W.keepIn K (.ref C) = true
end
section
variable {X : Cx} {CX : CXT} {k : Nat} {f C : Addr} {fd : FuncData} {ps ks : List Str} {sp : Sp} {E : XK} {x m : Str} {p pos apos kpos : Pos} {e o : Expr} {es : List Expr} {kws : List Keyword} {te ta : TE} {t tk : TA} {nm : Option Str}
structure KBinds (K : zC) (fd : FuncData) (ps ks : List Str) (g : List Value -> List Value -> List Value) (gV : List V -> List V -> List V) : Prop where
 to : ∀ (s : Shared) (us ws : List Value), K.In s.heap -> (g us ws).length = ps.length -> BindsTo s fd ⟨us, ks.zip ws⟩ (ps.zip (g us ws))
 rel : ∀ {vs : List V} {us : List Value} {zs : List V} {ws : List Value}, Vals vs us -> Vals zs ws -> Vals (gV vs zs) (g us ws)
variable {g : List Value -> List Value -> List Value} {gV : List V -> List V -> List V}
end
structure FnScope (N P : List Str) (sc : Scope) : Prop where
 kind : sc.kind = .function
 co : sc.isCoroutine = false
 gen : sc.isGenerator = false
 nd : N.Nodup
 pre : N.take P.length = P
 par : ∀ x ∈ P, sc.names.lookup x = some .local \/ sc.names.lookup x = some .cell
 nofree : ∀ y ∈ sc.names, y.2 ≠ .free
theorem zcU {kindOf : Str -> Option NameKind} {x : Str} : ∀ {binds : List (Str × Value)} {m : Str -> Option Value}, (∀ v, (x, v) ∉ binds) -> bindL kindOf binds m x = m x
 | [], _, _ => rfl
 | (n, v) :: r, m, h => by
  unfold bindL
  rw [zcU λ w hw => h w (zzA _ hw)]
  split
  · have : x ≠ n := by rintro rfl; exact h v zzC
    simp [this]
  · rfl
theorem zde {kindOf : Str -> Option NameKind} {x : Str} : ∀ {binds : List (Str × Value)} {m : Str -> Option Value}, (∀ v, (x, v) ∉ binds) -> bindC kindOf binds m x = m x
 | [], _, _ => rfl
 | (n, v) :: r, m, h => by
  unfold bindC
  rw [zde λ w hw => h w (zzA _ hw)]
  split
  · rfl
  · have : x ≠ n := by rintro rfl; exact h v zzC
    simp [this]
theorem zdj {kindOf : Str -> Option NameKind} {x : Str} {v : Value} : ∀ {P : List Str} {vs : List Value} {i : Nat} {m : Str -> Option Value}, P.Nodup -> P[i]? = some x -> vs[i]? = some v -> kindOf x = some .local ->
 bindL kindOf (P.zip vs) m x = some v
 | [], _, _, _, _, h, _, _ => by simp at h
 | _ :: _, [], _, _, _, _, h, _ => by simp at h
 | p :: P, w :: vs, 0, m, nd, h1, h2, hk => by
  simp at h1 h2; subst h1; subst h2
  show bindL kindOf ((p, w) :: P.zip vs) m p = _
  unfold bindL
  rw [zcU λ v hv => (zzT.mp nd).1 (List.of_mem_zip hv).1, if_pos hk]
  simp
 | p :: P, w :: vs, i + 1, m, nd, h1, h2, hk => by
  show bindL kindOf ((p, w) :: P.zip vs) m x = _
  unfold bindL
  exact zdj (i := i) (zzT.mp nd).2 (by simpa using h1) (by simpa using h2) hk
theorem zdh {kindOf : Str -> Option NameKind} {x : Str} {v : Value} : ∀ {P : List Str} {vs : List Value} {i : Nat} {m : Str -> Option Value}, P.Nodup -> P[i]? = some x -> vs[i]? = some v -> kindOf x ≠ some .local ->
 bindC kindOf (P.zip vs) m x = some v
 | [], _, _, _, _, h, _, _ => by simp at h
 | _ :: _, [], _, _, _, _, h, _ => by simp at h
 | p :: P, w :: vs, 0, m, nd, h1, h2, hk => by
  simp at h1 h2; subst h1; subst h2
  show bindC kindOf ((p, w) :: P.zip vs) m p = _
  unfold bindC
  rw [zde λ v hv => (zzT.mp nd).1 (List.of_mem_zip hv).1, if_neg hk]
  simp
 | p :: P, w :: vs, i + 1, m, nd, h1, h2, hk => by
  show bindC kindOf ((p, w) :: P.zip vs) m x = _
  unfold bindC
  exact zdh (i := i) (zzT.mp nd).2 (by simpa using h1) (by simpa using h2) hk
def start (N : List Str) (vs : List V) : St := vs.map some ++ List.replicate (N.length - vs.length) none
def zfK (CX : CXT) (P : Program) (w : World) (K : zC) (mg : Str -> Option Value) (base : Heap) (N : List Str) (qual : Str) (scope : Scope) (f : Addr) (cd : Value) (A : Around) (outer : List Env) (s : Shared) (H : Hp) (E : XK) : Cx where
 prog := P
 w := w
 K := K
 mg := mg
 base := base
 A := A.deeper (envOfC qual scope s.heap.objs.size f cd)
 N := N
 s₀ := s
 H₀ := H
 env := envOfC qual scope s.heap.objs.size f cd
 outer := outer
 stack := envOfC qual scope s.heap.objs.size f cd :: outer
 ex := []
 calm := true
 fn := λ _ => true
 pn := []
 xe := λ e s' => wpAny (model P w) (A.deeper (envOfC qual scope s.heap.objs.size f cd)) (leaving (envOfC qual scope s.heap.objs.size f cd) e) (λ _ s'' => CX outer H s E e s'') (λ e' s'' => CX outer H s E e' s'') s'
theorem zfr {sc : Scope} {n : Nat} {x : Str} (h : sc.names.lookup x = some .cell) : ∃ c, (cellsFrom n sc.names []).lookup x = some c := by
 have q := PySem.W.cellsFrom_some sc.names n [] (.inl h)
 exact Option.isSome_iff_exists.mp q
theorem zia {CX : CXT} {P : Program} {w : World} {K : zC} {mg : Str -> Option Value} {base : Heap} {N ps : List Str} {qual : Str} {scope : Scope} {f : Addr} {cd : Value} {A : Around} {outer : List Env} {s s1 : Shared} {H : Hp} {E : XK} {us : List Value} {vs : List V}
 (S : FnScope N ps scope) (hd : A.handled = none) (e0 : Env0 P w K mg base A outer s H) (hl : vs.length = ps.length) (r : Vals vs us)
 (x : InCallC s s.heap.objs.size (bindL (envOfC qual scope s.heap.objs.size f cd).kindOf (ps.zip us) λ _ => none) (cellsFrom (s.heap.objs.size + 1) scope.names []) (bindC (envOfC qual scope s.heap.objs.size f cd).kindOf (ps.zip us) λ _ => none) s1) :
 Inv (zfK CX P w K mg base N qual scope f cd A outer s H E) [] (start N vs) H s1 := by
 have hpl : ps.length <= N.length := by have := congrArg List.length S.pre; rw [zzP] at this; omega
 obtain ⟨h1, tk, rfl, hk⟩ := x.done
 have noA : ∀ b : Addr, b ∉ (zfK CX P w K mg base N qual scope f cd A outer s H E).ex := λ b z => absurd (show b ∈ ([] : List Addr) from z) (by simp)
 refine ⟨⟨e0.mod, S.kind, rfl, rfl, zzK _, λ y z c h1 h2 => ?_, λ y hy => ?_, λ y c _ h => ?_, λ _ => hd, Around.frames_deeper e0.frames, .inr ⟨rfl, rfl⟩, λ b z => absurd z (noA b), e0.bs, e0.bsz, λ b _ _ => noA b, λ b z => absurd z (noA b), e0.funs, e0.frf⟩,
  rfl, e0.bare, Un.kept hk, ⟨_, x.toInCall.ns, λ i y v h1 h2 h3 => ?_⟩, λ y c h => ⟨_, x.cell y c h⟩, e0.hok.fresh (zzK _), λ y c h => ?_, λ p hp => absurd (show p ∈ ([] : List (Addr × Obj)) from hp) (by simp), e0.hok.kept hk, ?_⟩
 · exact name_of_addr x.apart (PySem.mem_of_lookup h1) (PySem.mem_of_lookup h2)
 · have hy : scope.names.lookup y = some .cell \/ scope.names.lookup y = some .free := hy
   rcases hy with hy | hy
   · exact zfr hy
   · exact absurd rfl (S.nofree _ (PySem.mem_of_lookup hy))
 · exact Nat.le_of_lt (x.above y c (PySem.mem_of_lookup h))
 · have hi : i < vs.length := by
    unfold start at h2
    by_cases hi : i < vs.length
    · exact hi
    · rw [zyO (by simpa using hi)] at h2
      rw [List.getElem?_replicate] at h2
      split at h2 <;> cases h2
   have ha : vs[i]? = some v := by
    unfold start at h2
    rw [zyM (by simpa using hi), zzF] at h2
    cases e : vs[i]? with
    | none => rw [e] at h2; cases h2
    | some a => rw [e] at h2; cases h2; rfl
   obtain ⟨u, hu, rv⟩ := r.get ha
   have hp : ps[i]? = some y := by
    rw [<- S.pre, List.getElem?_take_of_lt (by omega)]; exact h1
   have ndP : ps.Nodup := by rw [<- S.pre]; exact S.nd.sublist (List.take_sublist _ _)
   refine ⟨u, rv, ?_⟩
   rcases S.par y (zzX hp) with k | k
   · exact .inl ⟨k, zdj ndP hp hu k⟩
   · obtain ⟨c, e⟩ := zfr (n := s.heap.objs.size + 1) k
     refine .inr ⟨.inl k, c, e, ?_⟩
     have q := x.cell y c e
     rw [zdh ndP hp hu (by show scope.names.lookup y ≠ _; rw [k]; decide)] at q
     exact q
 · exact e0.hok.fresh (Nat.le_of_lt (x.above y c (PySem.mem_of_lookup h)))
 · unfold start
   show _ = N.length
   rw [zzG, zD, List.length_replicate]
   omega
theorem zpT {CX : CXT} {P : Program} {w : World} {K : zC} {mg : Str -> Option Value} {base : Heap} {k : Nat} {f : Addr} {name qual : Str} {params : Arguments} {body : List Stmt} {scope : Scope} {dV kV doc pm cdv ct oc : Value} {an od : Option Addr}
 {osl : Array (Option Value)} {N ps : List Str} {sp : Sp} (lk : K.lookup f = some ⟨oc, od, .func (PySem.W.fnOf name qual params body scope dV kV doc pm an cdv ct), osl⟩) (hcd : PySem.W.codeIn K cdv qual = true) (S : FnScope N ps scope)
 (len : ∀ vs H Q E, sp vs H Q E -> vs.length = ps.length)
 (hbody : ∀ (A : Around) (outer : List Env) (s : Shared) (H : Hp) (vs : List V) (Q : VK) (E : XK), Room k (A.deeper (envOfC qual scope s.heap.objs.size f cdv)) -> sp vs H Q E ->
  ∃ t, PSs (zfK CX P w K mg base N qual scope f cdv A outer s H E) body t /\ t { nx := λ _ H' => Q .non H', rt := Q } (start N vs) H) :
 FnOk P w K mg base CX (k + 1) f (PySem.W.fnOf name qual params body scope dV kV doc pm an cdv ct) ps sp := by
 refine ⟨len, λ A outer s H args us vs Q E hr e0 hb r hsp => ?_⟩
 have hl := len _ _ _ _ hsp
 have KX : K.In s.heap := e0.mod.kin.keeps λ b o e => (e0.bs b o e).1
 have lim : s.heap.NoLimit := e0.mod.nolimit.keeps λ b o e => (e0.bs b o e).1
 have hkind : ∀ y ∈ ps.zip us, scope.names.lookup y.1 = some .local \/ (scope.names.lookup y.1 = some .cell /\ ((cellsFrom (s.heap.objs.size + 1) scope.names []).lookup y.1).isSome = true) := λ ⟨n, v⟩ hy => by
  rcases S.par n (List.of_mem_zip hy).1 with q | q
  · exact .inl q
  · exact .inr ⟨q, PySem.W.cellsFrom_some _ _ _ (.inl q)⟩
 refine codeAny_call_function hr.depth (KX _ _ lk) rfl S.co S.gen rfl (PySem.W.codeRec_of KX hcd) (hb _ _ _ _ ?_)
 refine wpAny_newFunctionEnv_cells S.kind hkind λ env he s1 x => ?_
 subst he
 refine ⟨lim.keeps x.toInCall.keep, codeAny_func ?_⟩
 obtain ⟨t, ht, hq⟩ := hbody A outer s H vs Q E (hr.deeper _) hsp
 have I : Inv (zfK CX P w K mg base N qual scope f cdv A outer s H E) [] (start N vs) H s1 := zia S hr.hd e0 hl r x
 refine zxQ (ht [] s1 (start N vs) H _ I hq) (λ fl s' hs => ?_) λ e s' hs => hs
 have fin : ∀ {σ' : St} {H' : Hp} {v : V} {u : Value}, Inv (zfK CX P w K mg base N qual scope f cdv A outer s H E) [] σ' H' s' -> RelV v u -> Q v H' -> CE outer P w H s Q u s' :=
  λ {σ' H' v u} J rv q => ⟨v, H', J.os, J.bare, J.base, J.hok, rv, q⟩
 cases fl with
 | ret u =>
  obtain ⟨v, σ', H', J, rv, q⟩ := hs
  exact fin J rv q
 | next =>
  obtain ⟨σ', H', J, q⟩ := hs
  exact fin (v := V.non) (u := Value.none) J rfl q
 | brk =>
  obtain ⟨_, _, _, q⟩ := hs
  exact False.elim q
 | cont =>
  obtain ⟨_, _, _, q⟩ := hs
  exact False.elim q
end L2
namespace L2
open PySem PySem.Spec PyProof.Rows
section
variable {X : Cx} {x : Str} {p pos : Pos} {e : Expr} {es : List Expr} {t : TA} {id T : String} {r : List V -> Hp -> VK -> Prop}
def tCB (r : List V -> Hp -> VK -> Prop) (t : TA) : TE := λ σ H Q => t σ H λ vs H1 => r vs H1 Q
theorem zbS (hc : WM X (.builtin id) r) (hg : Gl X x) (hm : X.mg x = none) (hv : bootBuiltins x = some (.builtin id)) (ha : PA X (e :: es) t) (hn : x ≠ "__name__" := by decide) (hdb : (x == ("__debug__" : Str)) = false := by decide)
 (he : starEach (e :: es) X.env = (false, eval e X.env) :: starEach es X.env := by rfl) (hpl : (backTo pos (starEach es X.env)).any (·.1) = false := by rfl) : PE X (.Call (.Name x p) (e :: es) [] pos) (tCB r t) := by
 intro pins s σ H Q I h
 refine wpAny_Call_Name_kw (YM I hg hm hv ?_ hn hdb)
 exact PyProof.Rows.callWith_builtin1 (thn (ha pos pins s σ H _ I h) λ us s1 ⟨vs, H1, I1, r1, q1⟩ => hc pins s1 σ H1 vs us Q I1 r1 q1) he hpl
theorem zii (hc : WM X (.type T) r) (hg : Gl X x) (hm : X.mg x = none) (hv : bootBuiltins x = some (.type T)) (ha : PA X (e :: es) t) (hn : x ≠ "__name__" := by decide) (hdb : (x == ("__debug__" : Str)) = false := by decide)
 (he : starEach (e :: es) X.env = (false, eval e X.env) :: starEach es X.env := by rfl) (hpl : (backTo pos (starEach es X.env)).any (·.1) = false := by rfl) : PE X (.Call (.Name x p) (e :: es) [] pos) (tCB r t) := by
 intro pins s σ H Q I h
 refine wpAny_Call_Name_kw (YM I hg hm hv ?_ hn hdb)
 exact PyProof.Rows.callWith_type1 (thn (ha pos pins s σ H _ I h) λ us s1 ⟨vs, H1, I1, r1, q1⟩ => hc pins s1 σ H1 vs us Q I1 r1 q1) he hpl
end
end L2
namespace L2
open PySem PySem.Spec PyProof.Rows
section
variable {κ : Type} [DecidableEq κ]
def Wy (kvs : List (κ × V)) (k : κ) : Option V := (kvs.find? λ kv => decide (kv.1 = k)).map (·.2)
def putK (kvs : List (κ × V)) (k : κ) (v : V) : List (κ × V) :=
 if (kvs.any λ kv => decide (kv.1 = k)) = true then kvs.map (λ kv => if kv.1 = k then (kv.1, v) else kv) else kvs ++ [(k, v)]
theorem zcp {p : κ × V} {r : List (κ × V)} {k : κ} (e : p.1 = k) : Wy (p :: r) k = some p.2 := by simp [Wy, List.find?_cons, e]
theorem zbV {p : κ × V} {r : List (κ × V)} {k : κ} (e : ¬ p.1 = k) : Wy (p :: r) k = Wy r k := by simp [Wy, List.find?_cons, e]
theorem zfp (k : κ) : ∀ kvs : List (κ × V), (kvs.any λ kv => decide (kv.1 = k)) = (Wy kvs k).isSome
 | [] => rfl
 | p :: r => by
  rw [List.any_cons]
  by_cases e : p.1 = k
  · simp only [zcp e, zyL e, Bool.true_or, Option.isSome_some]
  · rw [zbV e, zyD e, Bool.false_or]; exact zfp k r
theorem zaY (kvs : List (κ × V)) (k : κ) (v : V) : (putK kvs k v).length <= kvs.length + 1 := by
 unfold putK
 split
 · rw [zD]; omega
 · rw [zzG, zzQ, List.length_nil]; omega
theorem zbU.isSome_eq (r : zbU o u) : o.isSome = u.isSome := by
 cases o with
 | none => cases u with
  | none => rfl
  | some _ => exact (show False from r).elim
 | some _ => cases u with
  | none => exact (show False from r).elim
  | some _ => rfl
theorem zbU.getD (r : zbU o u) (rd : RelV d d') : RelV (o.getD d) (u.getD d') := by
 cases o with
 | none => cases u with
  | none => exact rd
  | some _ => exact (show False from r).elim
 | some _ => cases u with
  | none => exact (show False from r).elim
  | some _ => exact r
theorem KV.val {kvs : List (κ × V)} {vs : List (κ × Value)} (r : KV kvs vs) (k : κ) : zbU (Wy kvs k) (valueAt vs k) := by
 unfold KV at r
 induction r with
 | nil => exact True.intro
 | @cons p q ps qs h t ih =>
  obtain ⟨h1, h2⟩ := h
  by_cases e : p.1 = k
  · have e' : q.1 = k := h1.symm.trans e
    have b : valueAt (q :: qs) k = some q.2 := by simp [valueAt, List.find?_cons, e']
    rw [zcp e, b]; exact h2
  · have e' : ¬ q.1 = k := λ z => e (h1.trans z)
    have b : valueAt (q :: qs) k = valueAt qs k := by simp [valueAt, List.find?_cons, e']
    rw [zbV e, b]; exact ih
theorem KV.any (r : KV kvs vs) (k : κ) : (kvs.any λ kv => decide (kv.1 = k)) = vs.any λ kv => decide (kv.1 = k) := by
 unfold KV at r
 induction r with
 | nil => rfl
 | cons h t ih => rw [List.any_cons, List.any_cons, ih, h.1]
theorem KV.repl (r : KV kvs vs) (k : κ) (ry : RelV y u) :
 KV (kvs.map λ kv => if kv.1 = k then (kv.1, y) else kv) (vs.map λ kv => if kv.1 = k then (kv.1, u) else kv) := by
 unfold KV at r ⊢
 induction r with
 | nil => exact .nil
 | @cons p q ps qs h t ih =>
  rw [zyP, zyP]
  refine .cons ?_ ih
  obtain ⟨h1, h2⟩ := h
  by_cases e : p.1 = k
  · rw [if_pos e, if_pos (h1.symm.trans e)]; exact ⟨h1, ry⟩
  · rw [if_neg e, if_neg (λ z => e (h1.trans z))]; exact ⟨h1, h2⟩
theorem KV.put (r : KV kvs vs) (k : κ) (ry : RelV y u) : KV (putK kvs k y) (stored vs k u) := by
 unfold putK stored
 rw [r.any k]
 by_cases e : (vs.any λ kv => decide (kv.1 = k)) = true
 · rw [if_pos e, if_pos e]; exact r.repl k ry
 · rw [if_neg e, if_neg e]; exact Paired.snoc r ⟨rfl, ry⟩
theorem KV.length (r : KV kvs vs) : kvs.length = vs.length := Paired.length r
end
theorem zce (r : RelV (kV k) u) : (yz P w).is k u = true := by
 cases k with
 | inl i => obtain ⟨t, e⟩ := (show ∃ t, u = Value.int i t from r); subst e; exact zfb P w i t
 | inr x => obtain ⟨t, e⟩ := (show ∃ t, u = Value.str x t from r); subst e; exact Xy P w x t
theorem zcW : ∀ {ks : List Key} {us : List Value}, Vals (ks.map kV) us -> ItemsAre (yz P w) ks us
 | [], _, r => by rw [List.map_nil] at r; cases r; exact .nil
 | k :: ks, _, r => by
  rw [zyP] at r
  cases r with
  | cons h t => exact .cons (zce h) (zcW t)
abbrev KT (H : Hp) : List (List Key × V) -> List (List Key × Addr × Value) -> Prop := Paired λ p q => p.1 = q.1 /\ H q.2.1 = some (.tup (p.1.map kV)) /\ RelV p.2 q.2.2
theorem KT.val {H : Hp} {kvs : List (List Key × V)} {xs : List (List Key × Addr × Value)} (r : KT H kvs xs) (k : List Key) : zbU (Wy kvs k) ((atKey xs k).map (·.2)) := by
 induction r with
 | nil => exact True.intro
 | @cons p q ps qs h t ih =>
  obtain ⟨h1, _, h2⟩ := h
  by_cases e : p.1 = k
  · have e' : q.1 = k := h1.symm.trans e
    have b : atKey (q :: qs) k = some q.2 := by simp [atKey, List.find?_cons, e']
    rw [zcp e, b]; exact h2
  · have e' : ¬ q.1 = k := λ z => e (h1.trans z)
    have b : atKey (q :: qs) k = atKey qs k := by simp [atKey, List.find?_cons, e']
    rw [zbV e, b]; exact ih
theorem KT.repl (r : KT H kvs xs) (k : List Key) (ry : RelV y u) :
 KT H (kvs.map λ kv => if kv.1 = k then (kv.1, y) else kv) (xs.map (putAt k u)) := by
 induction r with
 | nil => exact .nil
 | @cons p q ps qs h t ih =>
  rw [zyP, zyP]
  refine .cons ?_ ih
  obtain ⟨h1, h2, h3⟩ := h
  unfold putAt
  by_cases e : p.1 = k
  · rw [if_pos e, if_pos (h1.symm.trans e)]; exact ⟨h1, h2, ry⟩
  · rw [if_neg e, if_neg (λ z => e (h1.trans z))]; exact ⟨h1, h2, h3⟩
theorem KT.put (r : KT H kvs xs) (k : List Key) (hb : H b = some (.tup (k.map kV))) (ry : RelV y u) :
 KT H (putK kvs k y) (storedH xs k b u) := by
 have e : (kvs.any λ kv => decide (kv.1 = k)) = (atKey xs k).isSome := by
  rw [zfp, (r.val k).isSome_eq, Option.isSome_map]
 unfold putK storedH
 rw [e]
 by_cases q : (atKey xs k).isSome = true
 · rw [if_pos q, if_pos q]; exact r.repl k ry
 · rw [if_neg q, if_neg q]; exact Paired.snoc r ⟨rfl, hb, ry⟩
theorem KT.keeps (r : KT H kvs xs) (ht : ∀ b ys, H b = some (.tup ys) -> H' b = some (.tup ys)) : KT H' kvs xs :=
 Paired.mapP r λ _ _ z => ⟨z.1, ht _ _ z.2.1, z.2.2⟩
section
variable {P : Program} {w : World} {H : Hp} {h : Heap} {a : Addr}
theorem zmX (ok : HOk P w H h) (e : Rd H a u) : yI P w H h a u := e.ok ok
theorem zmN (ok : HOk P w H h) (e : Rd H a (.dK kvs)) : kvs.length <= sizeLine /\ (a == sysModules) = false /\ ∃ vs, KV kvs vs /\ h.DictOf (yz P w) a vs :=
 show yI P w H h a (.dK kvs) from zmX ok e
theorem zpM (ok : HOk P w H h) (e : H a = some (.dK kvs)) : kvs.length <= sizeLine /\ (a == sysModules) = false /\ ∃ vs, KV kvs vs /\ h.DictOf (yz P w) a vs := zmN ok (.inl e)
theorem zjT (ok : HOk P w H h) (e : H a = some (.tup (ks.map kV))) : (tupleKind (yz P w)).is h ks a := by
 obtain ⟨_, its, r, o, h1, h2, n, h3⟩ := (show yI P w H h a (.tup (ks.map kV)) from ok a _ e)
 exact ⟨o, its.toArray, n, h1, h2, h3, by simpa using zcW r⟩
theorem zqq (ok : HOk P w H h) (e : Rd H a (.dT kvs)) : kvs.length <= sizeLine /\ (a == sysModules) = false /\
 ∃ xs, KT H kvs xs /\ h.DictOfH (tupleKind (yz P w)) a xs := by
 obtain ⟨z, y, xs, r, o, es, ep, h1, h2, h3, h4, h5⟩ := (show yI P w H h a (.dT kvs) from zmX ok e)
 refine ⟨z, y, xs, r, o, es, ep, h1, h2, h3, h4, λ x hx => ?_, h5⟩
 have all : ∀ {l : List (List Key × V)} {m : List (List Key × Addr × Value)}, KT H l m -> ∀ x ∈ m, (tupleKind (yz P w)).is h x.1 x.2.1 := by
  intro l m q
  induction q with
  | nil => intro x hx; exact nomatch hx
  | @cons p q ps qs hq t ih =>
   intro x hx
   rcases zS.mp hx with e | hx
   · subst e
     exact zjT ok (by rw [<- hq.1]; exact hq.2.1)
   · exact ih x hx
 exact all r x hx
theorem zpG (ok : HOk P w H h) (e : H a = some (.dT kvs)) : kvs.length <= sizeLine /\ (a == sysModules) = false /\
 ∃ xs, KT H kvs xs /\ h.DictOfH (tupleKind (yz P w)) a xs := zqq ok (.inl e)
end
def zpt (H : Hp) (a : Addr) (y v : V) (H' : Hp) : Prop :=
 (∃ kvs k, H a = some (.dK kvs) /\ y = kV k /\ kvs.length < sizeLine /\ H' = upd H a (.dK (putK kvs k v))) \/
 ∃ kvs k b, H a = some (.dT kvs) /\ y = .ref b /\ H b = some (.tup (k.map kV)) /\ kvs.length < sizeLine /\ H' = upd H a (.dT (putK kvs k v))
section
variable {X : Cx} {pins : List (Addr × Obj)} {σ : St} {H : Hp} {s : Shared} {a : Addr} {y v : V} {u r : Value} {o : Option V} {A : Around} {E : Value -> Shared -> Prop}
theorem Inv.big (I : Inv X pins σ H s) : sysModules < s.heap.objs.size := by
 have h : mainGlobals < s.heap.objs.size := (I.mod.glob.keeps I.bk).lt
 exact Nat.lt_trans (by decide) h
theorem zgI (I : Inv X pins σ H s) (mu : Mut (H a)) (hs : Heap.SameBut a s.heap h') (he : ∃ q, h'.get? a = some q) (new : yI X.prog X.w (upd H a ob) h' a ob) :
 Inv X pins σ (upd H a ob) { s with heap := h', toks := t' } :=
 I.write (x := a) (e := a) mu (.inl rfl) (λ b q hb z => (hs.2 b hb).trans z) he new
theorem zgo (z : kvs.length <= sizeLine) (hd : (a == sysModules) = false) (rel : KV kvs vs) (dd : h'.DictOf (yz P w) a vs) :
 yI P w H' h' a (.dK kvs) := ⟨z, hd, vs, rel, dd⟩
theorem ziD (hu : A.units + 1 < cLine) (I : Inv X pins σ H s) (g : zpt H a y v H') (ry : RelV y u) (rv : RelV v r) (h : ∀ s', Inv X pins σ H' s' -> Q () s') :
 wpAny (model X.prog X.w) A (setItem (.ref a) u r) Q E s := by
 rcases g with ⟨kvs, k, e, ey, l, eH⟩ | ⟨kvs, k, b, e, ey, eb, l, eH⟩
 · subst ey eH
   obtain ⟨z, hd, vs, rel, dd⟩ := zpM I.hok e
   have hz : vs.length <= sizeLine := by rw [<- rel.length]; exact z
   have hl : (putK kvs k v).length <= sizeLine := by have := zaY kvs k v; omega
   refine wpAny_setItem_pairs (hsz := hz) (zce ry) dd λ h' dd' hs => h _ ?_
   have he : ∃ q, h'.get? a = some q := let ⟨q, _, _, hq, _⟩ := dd'; ⟨q, hq⟩
   exact zgI I (by rw [e]; exact True.intro) hs he (zgo hl hd (rel.put k rv) dd')
 · subst ey eH
   cases (show u = Value.ref b from ry)
   obtain ⟨z, hd, xs, rel, dd⟩ := zpG I.hok e
   have hz : xs.length <= sizeLine := by rw [<- Paired.length rel]; exact z
   have hl : (putK kvs k v).length <= sizeLine := by have := zaY kvs k v; omega
   refine wpAny_setItem_heap (hsz := hz) (tupleKind_room_in1 hu) (zjT I.hok eb) dd λ h' dd' hs => h _ ?_
   obtain ⟨q, es, ep, hq, h2, h3, h4, _, h5⟩ := dd'
   refine zgI I (by rw [e]; exact True.intro) hs ⟨q, hq⟩ ⟨hl, hd, _, (rel.put k eb rv).keeps λ c ys ec => ?_, q, es, ep, hq, h2, h3, h4, h5⟩
   rw [zQ (zpq ec e (λ z => nomatch z))]
   exact ec
end
def zpZ (td ty tv : TE) : TS := λ D σ H => tv σ H λ v H1 => td σ H1 λ x H2 => ty σ H2 λ y H3 => ∃ a H4, x = .ref a /\ zpt H3 a y v H4 /\ D.nx σ H4
section
variable {X : Cx} {o i e value : Expr} {pos pos' tpos : Pos} {td ty tv : TE}
theorem zmg (hu : X.A.units + 1 < cLine) (ho : PE X o td) (hi : PE X i ty) (hv : PE X value tv) (hs : swapsWith value (some (.Subscript o i pos')) pos.line X.env = pure false) :
 PS X (.Assign [.Subscript o i pos'] value pos) (zpZ td ty tv) := by
 intro pins s σ H D I h
 refine wpAny_Assign_Subscript (thn (hv pins s σ H _ I h) λ r s1 ⟨v, H1, I1, rv, q1⟩ => thn (ho pins s1 σ H1 _ I1 q1) λ u s2 ⟨x, H2, I2, rx, q2⟩ => thn (hi pins s2 σ H2 _ I2 q2) λ iv s3 ⟨y, H3, I3, ry, a, H4, ex, g, q3⟩ => ?_) hs
 subst ex
 obtain rfl : u = Value.ref a := rx
 exact ziD hu I3 g ry rv λ s4 I4 => ⟨σ, H4, I4, q3⟩
end
theorem zjL (h : Heap) (hb : sysModules < h.objs.size) : yI P w H (h.push { cls := .type "dict", data := .dict #[] }) h.objs.size (.dK []) :=
 ⟨Nat.zero_le _, beq_eq_false_iff_ne.mpr (Ne.symm (zzN hb)), [], .nil, Heap.DictOf.new h⟩
def zoU : TE := λ _ H Q => ∀ p, H p = none -> Q (.ref p) (upd H p (.dK []))
section
variable {X : Cx} {pos : Pos}
theorem zjd : PE X (.Dict [] [] pos) zoU := λ pins s σ H Q I h =>
 wpAny_Dict_empty ⟨.ref s.heap.objs.size, _, I.laid (a := s.heap.objs.size) (o := .dK []) (t' := s.toks) (λ _ _ q => zxF _ q) (zzK _) (zjL s.heap I.big), rfl, h _ (I.hok.fresh (zzK _))⟩
end
structure M1 (X : Cx) (o : Expr) (m : Str) (apos : Pos) (e : Expr) (cpos : Pos) : Prop where
 base : attributeBase o m X.env (eval o X.env) = eval o X.env
 few : ((backTo cpos (starEach [e] X.env)).all (λ x => !x.1) && (backToKw cpos (keywordEach [] X.env)).all (λ x => x.1.isSome)
  && decide (([e] : List Expr).length + ([] : List Keyword).length + (if ([] : List Keyword).isEmpty then 0 else 1) < 30)) = true
 line : (apos.endLine == cpos.line) = true
 trees : backTo cpos (starEach [e] X.env) = [(false, eval e X.env)]
structure M2 (X : Cx) (o : Expr) (m : Str) (apos : Pos) (e f : Expr) (cpos : Pos) : Prop where
 base : attributeBase o m X.env (eval o X.env) = eval o X.env
 few : ((backTo cpos (starEach [e, f] X.env)).all (λ x => !x.1) && (backToKw cpos (keywordEach [] X.env)).all (λ x => x.1.isSome)
  && decide (([e, f] : List Expr).length + ([] : List Keyword).length + (if ([] : List Keyword).isEmpty then 0 else 1) < 30)) = true
 line : (apos.endLine == cpos.line) = true
 trees : backTo cpos (starEach [e, f] X.env) = [(false, eval e X.env), (false, eval f X.env)]
end L2
namespace HT
open PySem PyProof.Rows
def lexLt : List Int -> List Int -> Bool
 | [], [] => false
 | [], _ :: _ => true
 | _ :: _, [] => false
 | x :: xs, y :: ys => if x = y then lexLt xs ys else decide (x < y)
theorem zbY (x y : Int) (xs ys : List Int) : lexLt (x :: xs) (y :: ys) = if x = y then lexLt xs ys else decide (x < y) := rfl
theorem zjz (A : Around) (s : Shared) (a : Int) (t : Tok) (c : Int) (u : Tok) : ∃ e, SeqAt.EqAt A s (.int a t) (.int c u) e /\ (e = true ↔ a = c) :=
 ⟨(a == c), SeqAt.EqAt.int_int a t c u, by simp⟩
theorem zjM (A : Around) (s : Shared) (a : Int) (t : Tok) (c : Int) (u : Tok) (prog : Program) (w : World) (E : Value -> Shared -> Prop) (Q : Value -> Shared -> Prop) (h : Q (.bool (decide (a < c))) s) :
 wpAny (model prog w) A (richCompare .Lt (.int a t) (.int c u)) Q E s :=
 (PyProof.Rows.lt_int h : wpAny (model prog w) A (compareOp .Lt (.int a t) (.int c u)) Q E s)
section
variable {prog : Program} {w : World} {A : Around} {E : Value -> Shared -> Prop} {s : Shared}
theorem zly (ht : IsTup s.heap t vs.toArray) (hb : IsTup s.heap b ws.toArray) (hv : vs ≠ [])
 (h1 : ws = [] -> Q (.ref t) s) (h2 : ws ≠ [] -> Q (.ref s.heap.objs.size) { s with heap := s.heap.push { cls := .type "tuple", data := .seq (vs ++ ws).toArray } })
 (hsz : vs.length + ws.length <= sizeLine) : wpAny (model prog w) A (binaryOp .Add (.ref t) (.ref b)) Q E s := by
 obtain ⟨⟨cls, dd, data, sl⟩, ho, hc, n, hd⟩ := id ht
 obtain ⟨⟨cls2, dd2, data2, sl2⟩, ho2, hc2, n2, hd2⟩ := id hb
 simp only at hc hd hc2 hd2
 subst hc hd hc2 hd2
 have e : vs.toArray ++ ws.toArray = (vs ++ ws).toArray := by simp
 by_cases hw : ws = []
 · exact concat_meets ⟨_, ho, rfl⟩ ⟨_, ho2, rfl⟩ noFill_tuple_add seq_tuple_add PySem.F.slot_tuple_add PySem.F.entry_tuple_add (PySem.F.args_tuple_add_2 _ _)
    (tuple_addW1 t b vs.toArray ws.toArray n n2 dd dd2 sl sl2 (by simpa using hv) (by simp [hw])) ⟨ho, ho2, h1 hw⟩
 · refine concat_meets ⟨_, ho, rfl⟩ ⟨_, ho2, rfl⟩ noFill_tuple_add seq_tuple_add PySem.F.slot_tuple_add PySem.F.entry_tuple_add (PySem.F.args_tuple_add_2 _ _)
    (tuple_addW2 t b vs.toArray ws.toArray n n2 dd dd2 sl sl2 (by simpa using hv) (by simpa using hw) (by rw [zzE, zzE]; exact hsz)) ⟨ho, ho2, ?_⟩
   rw [e]
   exact h2 hw
def sIx (n d : Nat) : Option Int -> Nat
 | none => d
 | some v => if v < 0 then (v + (n : Int)).toNat else min v.toNat n
theorem zjW (n d : Nat) : sIx n d none = d := rfl
theorem zmh (n d k : Nat) : sIx n d (some (k : Int)) = min k n := by
 show (if (k : Int) < 0 then ((k : Int) + (n : Int)).toNat else min (k : Int).toNat n) = min k n
 rw [if_neg (by omega), zyF]
theorem znC (n d : Nat) (hd : d <= n) (o : Option Int) : sIx n d o <= n := by
 cases o with
 | none => exact hd
 | some v =>
  show (if v < 0 then (v + (n : Int)).toNat else min v.toNat n) <= n
  by_cases hv : v < 0
  · rw [if_pos hv]; omega
  · rw [if_neg hv]; exact Nat.min_le_right _ _
theorem zhb (v : Int) (n d : Nat) : (if v < 0 then max (v + (n : Int)) 0 else min v (n : Int)) = ((sIx n d (some v) : Nat) : Int) := by
 show (if v < 0 then max (v + (n : Int)) 0 else min v (n : Int)) = (((if v < 0 then (v + (n : Int)).toNat else min v.toNat n) : Nat) : Int)
 by_cases hv : v < 0
 · simp only [if_pos hv]; omega
 · simp only [if_neg hv]; omega
theorem zfG (lo hi : Option Int) (n : Nat) : Builtin.Slice.sliceAdjust lo hi 1 (n : Int) = (((sIx n 0 lo : Nat) : Int), ((sIx n n hi : Nat) : Int)) := by
 have h1 : ¬ ((1 : Int) < 0) := by omega
 unfold Builtin.Slice.sliceAdjust
 simp only [h1, if_false]
 refine Prod.ext ?_ ?_
 · cases lo with
   | none => rfl
   | some v => exact zhb v n 0
 · cases hi with
   | none => rfl
   | some v => exact zhb v n n
theorem zgr (i j : Nat) : Builtin.Slice.slicePlaces (i : Int) (j : Int) 1 = j - i := by
 unfold Builtin.Slice.slicePlaces
 have h1 : (1 : Int) > 0 := by omega
 simp only [h1, if_true, Int.ediv_one]
 split <;> omega
theorem zbQ (p : IsPart v o) (h : Q o s) : wpAny (model prog w) A (Builtin.Slice.slicePartIndex v) Q E s := by
 cases p with
 | none => exact slicePart_none h
 | int i t => exact slicePart_int h
theorem zaj {sl : Addr} {vl vu : Value} {lo hi : Option Int} {n : Nat} {Q : Int × Int × Nat -> Shared -> Prop} (hs : s.heap.IsSliceOf sl vl vu .none) (pl : IsPart vl lo) (pu : IsPart vu hi)
 (h : Q (((sIx n 0 lo : Nat) : Int), 1, sIx n n hi - sIx n 0 lo) s) : wpAny (model prog w) A (Builtin.Slice.sliceApplied (.ref sl) (pure (n : Int))) Q E s := by
 obtain ⟨os, hos, hcs, hds⟩ := id hs
 unfold Builtin.Slice.sliceApplied Builtin.Slice.sliceFields
 refine zxD (zxD (wpAny_field hos hds (x := vl) rfl (zxD (wpAny_field hos hds (x := vu) rfl (zxD (wpAny_field hos hds (x := .none) rfl (zxE ?_)))))))
 refine zxD (slicePart_none ?_)
 show wpAny _ _ (if ((1 : Int) == 0) = true then _ else _) _ _ s
 rw [if_neg (by decide)]
 refine zxD (zbQ pl (zxD (zbQ pu (zxD (zxE ?_)))))
 show wpAny _ _ (match Builtin.Slice.sliceAdjust lo hi 1 (n : Int) with | (lo, hi) => pure (lo, (1 : Int), Builtin.Slice.slicePlaces lo hi 1)) _ _ s
 rw [zfG lo hi n]
 show wpAny _ _ (pure (((sIx n 0 lo : Nat) : Int), (1 : Int), Builtin.Slice.slicePlaces ((sIx n 0 lo : Nat) : Int) ((sIx n n hi : Nat) : Int) 1)) _ _ s
 rw [zgr]
 exact zxE h
theorem zje (xs : Array Value) (i k : Nat) : ((List.range k).filterMap λ (m : Nat) => xs[((i : Int) + (m : Int) * 1).toNat]?).toArray = ((xs.toList.drop i).take k).toArray := by
 have e : (λ (m : Nat) => xs[((i : Int) + (m : Int) * 1).toNat]?) = λ m => xs[i + m]? := by
  funext m
  have : ((i : Int) + (m : Int) * 1).toNat = i + m := by omega
  rw [this]
 rw [e]
 have := pick_run xs i k
 rw [List.filterMap_map] at this
 have e2 : ((λ x => xs[x]?) ∘ λ x => i + x) = λ m => xs[i + m]? := rfl
 rw [e2] at this
 rw [this]
theorem Vx {t sl : Addr} {items : Array Value} {vl vu : Value} {lo hi : Option Int} {Q : Value -> Shared -> Prop} (ht : IsTup s.heap t items) (hs : s.heap.IsSliceOf sl vl vu .none) (pl : IsPart vl lo) (pu : IsPart vu hi)
 (hw : ¬ (sIx items.size 0 lo = 0 /\ sIx items.size items.size hi = items.size))
 (h : Q (.ref s.heap.objs.size) { s with heap := s.heap.push { cls := .type "tuple", data := .seq ((items.toList.drop (sIx items.size 0 lo)).take (sIx items.size items.size hi - sIx items.size 0 lo)).toArray } })
 (hsz : items.size <= sizeLine) : wpAny (model prog w) A (getItem (.ref t) (.ref sl)) Q E s := by
 have htake : sizeOk (.seq ((items.toList.drop (sIx items.size 0 lo)).take (sIx items.size items.size hi - sIx items.size 0 lo)).toArray) := by
  show ((items.toList.drop (sIx items.size 0 lo)).take (sIx items.size items.size hi - sIx items.size 0 lo)).toArray.size <= sizeLine
  rw [zzE, zzP, List.length_drop, zyQ]
  omega
 have hj : sIx items.size items.size hi <= items.size := znC _ _ (zzK _) hi
 obtain ⟨os, hos, hcs, hds⟩ := id hs
 have hTs : s.TypeIs (.ref sl) "slice" := ⟨os, hos, hcs⟩
 unfold getItem
 try with_reducible refine zxK ?_
 first | refine zxD (zxE ?_) | skip
 refine zxD (wpAny_sequenceKey ht.typeIs (by decide) ?_)
 refine zxD (wpAny_callSpecial?_slot (name := Str.ofString "__getitem__") ht.typeIs PyProof.Rows.slot_tuple_getitem
  (zxR PyProof.Rows.slot_tuple_getitem ht.typeIs entry_tuple_getitem ?_ (args_tuple_getitem _ _)))
 show wpAny _ _ (Builtin.Tuple.tupleItemsOf (.ref t) >>= _) _ _ s
 refine zxD (tupleItemsOf_ ht ?_)
 refine zxD (wpAny_typeOf hTs ?_)
 rw [if_pos (by decide)]
 refine zxD (zaj hs pl pu ?_)
 have hno : ¬ ((((sIx items.size 0 lo : Nat) : Int) == 0 && (1 : Int) == 1 && (sIx items.size items.size hi - sIx items.size 0 lo) == items.size) = true) := by
  intro q
  rw [zzZ, zzZ] at q
  have q1 : ((sIx items.size 0 lo : Nat) : Int) = 0 := eq_of_beq q.1.1
  have q2 : sIx items.size items.size hi - sIx items.size 0 lo = items.size := eq_of_beq q.2
  exact hw ⟨by omega, by omega⟩
 show wpAny _ _ (if (((sIx items.size 0 lo : Nat) : Int) == 0 && (1 : Int) == 1 && (sIx items.size items.size hi - sIx items.size 0 lo) == items.size) = true then _ else _) _ _ s
 rw [if_neg hno, zje]
 first
  | exact zxD (m := Builtin.Tuple.tupleExact _) (zxI (zxE ⟨_, rfl, zxE h⟩) htake)
  | exact zxD (m := Builtin.Tuple.tupleExact _) (zxI (zxD (zxE (zxE ⟨_, rfl, zxE h⟩))) htake)
  | exact zxD (zxD (m := Builtin.Tuple.tupleExact _) (zxI (zxE (zxE ⟨_, rfl, zxE h⟩)) htake))
  | exact zxD (zxD (m := Builtin.Tuple.tupleExact _) (zxI (zxE ⟨_, rfl, zxE h⟩) htake))
end
end HT
namespace L2
open PySem PySem.Spec PyProof.Rows
abbrev TO := St -> Hp -> (Option Int -> Hp -> Prop) -> Prop
def PO (X : Cx) (e : Option Expr) (t : TO) : Prop :=
 ∀ (pins : List (Addr × Obj)) (s : Shared) (σ : St) (H : Hp) (Q : Option Int -> Hp -> Prop), Inv X pins σ H s -> t σ H Q ->
  wpAny (model X.prog X.w) X.A (evalPart e X.env) (λ u s' => ∃ o H', Inv X pins σ H' s' /\ IsPart u o /\ Q o H') X.xe s
def zlj : TO := λ _ H Q => Q none H
def zpY (t : TE) : TO := λ σ H Q => t σ H λ x H1 => ∃ i, x = .int i /\ Q (some i) H1
theorem intsAre_of : ∀ {us : List Value}, Vals (ns.map V.int) us -> IntsAre us ns := by
 induction ns with
 | nil => intro us r; rw [List.map_nil] at r; cases r; exact .nil
 | cons n ns ih =>
  intro us r
  rw [zyP] at r
  cases r with
  | cons r1 r2 =>
   obtain ⟨t, e⟩ := r1
   subst e
   exact .cons n t (ih r2)
section
variable {X : Cx} {e : Expr} {te : TE} {lo hi : Option Expr} {tl th : TO} {pos p2 : Pos}
theorem zlG : PO X none zlj := by
 intro pins s σ H Q I h
 rw [evalPart_none]
 exact zxE ⟨none, H, I, .none, h⟩
theorem zlZ (h : PE X e te) : PO X (some e) (zpY te) := by
 intro pins s σ H Q I hw
 rw [evalPart_some]
 refine thn (h pins s σ H _ I hw) λ u s1 ⟨x, H1, I1, r1, q1⟩ => ?_
 obtain ⟨i, rfl, q⟩ := q1
 obtain ⟨t, rfl⟩ := r1
 exact ⟨some i, H1, I1, .int i t, q⟩
def SlR (X : Cx) (r : V -> Option Int -> Option Int -> Hp -> VK -> Prop) : Prop :=
 ∀ (pins : List (Addr × Obj)) (s : Shared) (σ : St) (H : Hp) (x : V) (v vl vu : Value) (lo hi : Option Int) (sl : Addr) (Q : VK), Inv X pins σ H s -> RelV x v -> s.heap.IsSliceOf sl vl vu .none -> IsPart vl lo -> IsPart vu hi -> r x lo hi H Q ->
  ∃ T id, typeLookup (.type T) "__getitem__" = pure (some (.builtin id)) /\ s.TypeIs v T /\ wpAny (model X.prog X.w) X.A (getItem v (.ref sl)) (EP X pins σ Q) X.xe s
def tSl (r : V -> Option Int -> Option Int -> Hp -> VK -> Prop) (te : TE) (tl th : TO) : TE := λ σ H Q => te σ H λ x H1 => tl σ H1 λ l H2 => th σ H2 λ u H3 => r x l u H3 Q
theorem zko (hr : SlR X r) (he : PE X e te) (hl : PO X lo tl) (hu : PO X hi th) : PE X (.Subscript e (.Slice lo hi none p2) pos) (tSl r te tl th) := by
 intro pins s σ H Q I h
 refine Subscript_ (thn (he pins s σ H _ I h) λ v s1 ⟨x, H1, I1, r1, q1⟩ => ?_)
 refine wpAny_Slice (thn (hl pins s1 σ H1 _ I1 q1) λ vl s2 ⟨l, H2, I2, pl, q2⟩ => thn (hu pins s2 σ H2 _ I2 q2) λ vu s3 ⟨u, H3, I3, pu, q3⟩ => ?_)
 rw [evalPart_none]
 refine zxE ?_
 have I4 : Inv X pins σ H3 { s3 with heap := s3.heap.push { cls := .type "slice", data := .fields #[vl, vu, .none] } } := I3.kept (t' := s3.toks) λ b ob q => zxF _ q
 obtain ⟨T, id, hT, ht, hg⟩ := hr pins { s3 with heap := s3.heap.push { cls := .type "slice", data := .fields #[vl, vu, .none] } } σ H3 x v vl vu l u s3.heap.objs.size Q I4 r1 (Heap.IsSliceOf.new ..) pl pu q3
 show wpAny (model X.prog X.w) X.A (subscriptTail e (.Slice lo hi none p2) v (.ref s3.heap.objs.size)) (EP X pins σ Q) X.xe { s3 with heap := s3.heap.push { cls := .type "slice", data := .fields #[vl, vu, .none] } }
 exact tail_any (ops := [.ref s3.heap.objs.size, v]) ht hT hg (by with_unfolding_all rfl)
def zft (xs : List V) (lo hi : Option Int) : List V := (xs.drop (HT.sIx xs.length 0 lo)).take (HT.sIx xs.length xs.length hi - HT.sIx xs.length 0 lo)
theorem zbk (xs : List V) (lo hi : Option Int) : (zft xs lo hi).length <= xs.length := by
 unfold zft
 rw [zzP, List.length_drop]
 omega
def zrw (K : zC) : V -> Option Int -> Option Int -> Hp -> VK -> Prop := λ x lo hi H Q => ∃ a xs, x = .ref a /\ SqT K H a xs /\
 ¬ (HT.sIx xs.length 0 lo = 0 /\ HT.sIx xs.length xs.length hi = xs.length) /\ ∀ p, H p = none -> Q (.ref p) (upd H p (.tup (zft xs lo hi)))
theorem zoE : SlR X (zrw X.K) := by
 intro pins s σ H x v vl vu lo hi sl Q I rx hs pl pu h
 obtain ⟨a, xs, rfl, hx, hw, q⟩ := h
 cases rx
 obtain ⟨its, r, ht, hz⟩ := I.tuple hx
 have hlen : its.toArray.size = xs.length := by rw [zzE]; exact r.length.symm
 refine ⟨"tuple", _, PyProof.Rows.slot_tuple_getitem.lookup, ht.typeIs, ?_⟩
 refine HT.Vx ht hs pl pu (by rw [hlen]; exact hw) ?_ (by rw [hlen]; exact hz)
 rw [hlen]
 refine ⟨.ref s.heap.objs.size, _, I.laid (t' := s.toks) (o := .tup (zft xs lo hi)) (λ b ob q => zxF _ q) (zzK _) ?_, rfl, q _ (I.hok.fresh (zzK _))⟩
 exact ⟨zzL (zbk xs lo hi) hz, _, (r.drop (HT.sIx xs.length 0 lo)).take (HT.sIx xs.length xs.length hi - HT.sIx xs.length 0 lo), IsTup.new _ _⟩
def zqQ (K : zC) : R2 := λ x y H Q => ∃ a b xs ys, x = .ref a /\ y = .ref b /\ SqT K H a xs /\ SqT K H b ys /\ xs ≠ [] /\ xs.length + ys.length <= sizeLine /\
 (ys = [] -> Q (.ref a) H) /\ (ys ≠ [] -> ∀ p, H p = none -> Q (.ref p) (upd H p (.tup (xs ++ ys))))
theorem Vals.nil_iff (r : Vals xs us) : us = [] ↔ xs = [] := by
 cases r with
 | nil => simp
 | cons _ _ => simp
theorem zlE : OpR X (binaryOp .Add) (zqQ X.K) := by
 intro pins s σ H x y v u Q I rx ry h
 obtain ⟨a, b, xs, ys, rfl, rfl, ha, hb, hx, hz, q1, q2⟩ := h
 cases rx
 cases ry
 obtain ⟨its, r1, p1, _⟩ := I.tuple ha
 obtain ⟨its2, r2, p2, _⟩ := I.tuple hb
 refine HT.zly p1 p2 (λ z => hx (r1.nil_iff.mp z)) (λ z => ⟨.ref a, H, I, rfl, q1 (r2.nil_iff.mp z)⟩) (λ z => ?_) (by rw [<- r1.length, <- r2.length]; exact hz)
 refine ⟨.ref s.heap.objs.size, _, I.laid (t' := s.toks) (o := .tup (xs ++ ys)) (λ b ob q => zxF _ q) (zzK _) ?_, rfl, q2 (λ w => z (r2.nil_iff.mpr w)) _ (I.hok.fresh (zzK _))⟩
 exact ⟨by rw [zzG]; exact hz, _, r1.append r2, IsTup.new _ _⟩
end
end L2
namespace L2
open PySem PySem.Spec PyProof.Rows
def ixN (n : Nat) (i : Int) : Option Nat := if 0 <= i then (if i < n then some i.toNat else none) else if -(n : Int) <= i then some (i + n).toNat else none
def atI {α : Type} (xs : List α) (i : Int) : Option α := (ixN xs.length i).bind λ j => xs[j]?
theorem zhH (h : ixN n i = some j) : seqIndex? i n = some j /\ j < n /\ -(n : Int) <= i /\ i < n := by
 unfold ixN at h
 by_cases h0 : 0 <= i
 · rw [if_pos h0] at h
   by_cases h1 : i < n
   · rw [if_pos h1] at h
     have e : i.toNat = j := zzW h
     exact ⟨by rw [seqIndex_of h0 h1, e], by omega, by omega, h1⟩
   · rw [if_neg h1] at h; cases h
 · rw [if_neg h0] at h
   by_cases h1 : -(n : Int) <= i
   · rw [if_pos h1] at h
     have e : (i + n).toNat = j := zzW h
     exact ⟨by rw [seqIndex_neg (by omega) h1, e], by omega, h1, by omega⟩
   · rw [if_neg h1] at h; cases h
theorem zdJ (h : atI xs i = some v) : ∃ j, seqIndex? i xs.length = some j /\ xs[j]? = some v /\ j < xs.length /\ -(xs.length : Int) <= i /\ i < xs.length := by
 unfold atI at h
 cases e : ixN xs.length i with
 | none => rw [e] at h; cases h
 | some j =>
  rw [e] at h
  obtain ⟨h1, h2, h3, h4⟩ := zhH e
  exact ⟨j, h1, h, h2, h3, h4⟩
theorem xY {α : Type} {xs : List α} {j : Nat} {v : α} (h : xs[j]? = some v) : atI xs (j : Int) = some v := by
 have hj : j < xs.length := (zzD.mp h).1
 have e : ixN xs.length (j : Int) = some j := by
  unfold ixN
  rw [if_pos (by omega), if_pos (by omega)]; simp
 unfold atI; rw [e]; exact h
def V8 (b : Expr) : Prop := ∀ o i, subscripted b false o i = operate [o, i] (getItem o i)
def IxR (X : Cx) (r : R2) : Prop :=
 ∀ (value slice : Expr) (pins : List (Addr × Obj)) (s : Shared) (σ : St) (H : Hp) (x y : V) (v u : Value) (Q : VK), Inv X pins σ H s -> RelV x v -> RelV y u -> r x y H Q ->
  subscripted slice false v u = operate [v, u] (getItem v u) -> wpAny (model X.prog X.w) X.A (subscriptTail value slice v u) (EP X pins σ Q) X.xe s
def MtR (X : Cx) (id : String) (r : V -> List V -> Hp -> VK -> Prop) : Prop :=
 ∀ (pins : List (Addr × Obj)) (s : Shared) (σ : St) (H : Hp) (x : V) (xs : List V) (v : Value) (us : List Value) (Q : VK), Inv X pins σ H s -> RelV x v -> Vals xs us -> r x xs H Q ->
  wpAny (model X.prog X.w) X.A (call (.builtin id) (v :: us)) (EP X pins σ Q) X.xe s
section
variable {X : Cx} {a b : Expr} {ta tb : TE} {pos : Pos}
theorem zjn (hr : IxR X r) (ha : PE X a ta) (hb : PE X b tb) (hs : V8 b) : PE X (.Subscript a b pos) (tOp r ta tb) := by
 intro pins s σ H Q I h
 exact Subscript_ (znq ha hb I h λ v u s2 x y H2 I2 rx ry q => hr a b pins s2 σ H2 x y v u Q I2 rx ry q (hs _ _))
def zrg (K : zC) : R2 := λ x y H Q => ∃ p xs i v, x = .ref p /\ y = .int i /\ SqL K H p xs /\ atI xs i = some v /\ Q v H
def zrj (K : zC) : R2 := λ x y H Q => ∃ p xs i v, x = .ref p /\ y = .int i /\ SqT K H p xs /\ atI xs i = some v /\ Q v H
def zrr : R2 := λ x y H Q => ∃ z i c, x = .str z /\ y = .int i /\ z.length <= sizeLine /\ atI z.cps.toList i = some c /\ Q (.str ⟨#[c]⟩) H
theorem zer : IxR X (zrg X.K) := by
 intro value slice pins s σ H x y v u Q I rx ry h hs
 obtain ⟨p, xs, i, z, rfl, rfl, hq, he, q⟩ := h
 cases rx
 obtain ⟨t, rfl⟩ := ry
 obtain ⟨its, r, pl, hz⟩ := I.list hq
 obtain ⟨j, h1, h2, h3, h4, h5⟩ := zdJ he
 obtain ⟨w, ew, rw'⟩ := r.get h2
 have hl := r.length
 have hn := Vi
 have fin : EP X pins σ Q w s := ⟨z, H, I, rw', q⟩
 by_cases h0 : 0 <= i
 · have hj : i.toNat = j := by
    rw [seqIndex_of h0 h5] at h1
    exact zzW h1
   exact item_listR pl.isList h0 (by omega) (by rw [hj]; simpa using ew) fin hs
 · have hj : (i + (its.toArray.size : Int)).toNat = j := by
    rw [seqIndex_neg (by omega) h4] at h1
    rw [zzE, <- hl]
    exact zzW h1
   exact subscriptTail_builtinR (x := w) pl.isList.typeIs slot_list_getitem.lookup
    (wpAny_getItem_list_neg (Q := λ r s' => r = w /\ EP X pins σ Q r s') pl.isList (by omega) (by rw [zzE] <;> omega) (by omega) (by rw [hj]; simpa using ew) ⟨rfl, fin⟩) hs
theorem zoc : IxR X (zrj X.K) := by
 intro value slice pins s σ H x y v u Q I rx ry h hs
 obtain ⟨p, xs, i, z, rfl, rfl, hq, he, q⟩ := h
 cases rx
 obtain ⟨t, rfl⟩ := ry
 obtain ⟨its, r, pl, hz⟩ := I.tuple hq
 obtain ⟨j, h1, h2, h3, h4, h5⟩ := zdJ he
 obtain ⟨w, ew, rw'⟩ := r.get h2
 have hl := r.length
 have hn := Vi
 have fin : EP X pins σ Q w s := ⟨z, H, I, rw', q⟩
 exact subscriptTail_builtinR (x := w) pl.typeIs slot_tuple_getitem.lookup
  (getItem_tuple (j := j) (Q := λ r s' => r = w /\ EP X pins σ Q r s') pl (by omega) (by omega) (by rw [zzE, <- hl]; exact h1) (by simpa using ew) ⟨rfl, fin⟩) hs
theorem zoT : IxR X zrr := by
 intro value slice pins s σ H x y v u Q I rx ry h hs
 obtain ⟨z, i, c, rfl, rfl, hz, he, q⟩ := h
 obtain ⟨t, rfl⟩ := rx
 obtain ⟨t', rfl⟩ := ry
 obtain ⟨j, h1, h2, h3, h4, h5⟩ := zdJ he
 have hl : z.cps.toList.length = z.length := by simp [Str.length]
 rw [hl] at h1 h4 h5
 have hn := Vi
 exact tail_any (typeIs_str s z t) slot_str_getitem.lookup (getItem_str (c := c) (by
  have e1 : decide (i < -(2 ^ 63 : Int)) = false := zyD (by omega)
  have e2 : decide (i ≥ 2 ^ 63) = false := zyD (by omega)
  rw [e1, e2, Bool.or_false]) (by rw [h1]; simpa using h2) ⟨.str ⟨#[c]⟩, H, I.tok _, ⟨_, rfl⟩, q⟩) hs
theorem zfW (its : List Value) (n j : Nat) (u : Value) : Obj.mapSeq (·.setIfInBounds j u) { cls := .type "list", data := .seq its.toArray n } = { cls := .type "list", data := .seq (its.set j u).toArray n } := by
 simp [Obj.mapSeq]
theorem Inv.lst (I : Inv X pins σ H s) (h : H p = some (.lst xs)) :
 ∃ (its : List Value) (n : Nat), Vals xs its /\ s.heap.get? p = some { cls := .type "list", data := .seq its.toArray n } /\ xs.length <= sizeLine := by
 obtain ⟨z, its, n, r, e⟩ := I.hok p _ h
 exact ⟨its, n, r, e, z⟩
theorem Inv.lstUpd {pins : List (Addr × Obj)} {σ : St} {H : Hp} {s : Shared} {p : Addr} {xs ys : List V} {its its' : List Value} {n n' : Nat} {f : Obj -> Obj} (I : Inv X pins σ H s) (h : H p = some (.lst xs))
 (ho : s.heap.get? p = some { cls := .type "list", data := .seq its.toArray n }) (hf : f { cls := .type "list", data := .seq its.toArray n } = { cls := .type "list", data := .seq its'.toArray n' }) (r : Vals ys its') (hz : ys.length <= sizeLine) (t : Nat) :
 Inv X pins σ (upd H p (.lst ys)) { s with heap := s.heap.update p f, toks := t } := by
 have e : (s.heap.update p f).get? p = some { cls := .type "list", data := .seq its'.toArray n' } := by
  rw [zxP f ho (by rw [hf] <;> rfl), hf]
 refine I.write (x := p) (e := p) (by rw [h]; trivial) (.inl rfl) (λ b u hb q => (zxL _ _ (Ne.symm hb)).trans q) ⟨_, e⟩ ?_
 exact ⟨hz, its', n', r, e⟩
def zqL : V -> V -> V -> Hp -> (Hp -> Prop) -> Prop := λ o i v H Q => ∃ p xs k j, o = .ref p /\ i = .int k /\ H p = some (.lst xs) /\ ixN xs.length k = some j /\ Q (upd H p (.lst (xs.set j v)))
theorem set_list : zqt X zqL := by
 intro pins s σ H o i v ov iv u Q I ro ri rv h
 obtain ⟨p, xs, k, j, rfl, rfl, hp, hj, q⟩ := h
 cases ro
 obtain ⟨t, rfl⟩ := ri
 obtain ⟨its, n, r, ho, hz⟩ := I.lst hp
 obtain ⟨h1, h2, h3, h4⟩ := zhH hj
 have hl := r.length
 have hn := Vi
 have I' : Inv X pins σ (upd H p (.lst (xs.set j v))) { s with heap := s.heap.update p (Obj.mapSeq (·.setIfInBounds j u)) } :=
  I.lstUpd hp ho (zfW its n j u) (r.set rv j) (by rw [zzR]; exact hz) s.toks
 by_cases h0 : 0 <= k
 · have hk : k.toNat = j := by
    rw [seqIndex_of h0 h4] at h1
    exact zzW h1
   exact PySem.W.ki_setAt ho h0 (by omega) (by rw [zzE, <- hl]; exact h4) (by rw [hk]; exact ⟨_, I', q⟩)
 · have hk : (k + (its.toArray.size : Int)).toNat = j := by
    rw [seqIndex_neg (by omega) h3] at h1
    rw [zzE, <- hl]
    exact zzW h1
   exact PySem.W.ki_setBack ho (by omega) (by rw [zzE, <- hl]; exact h3) (by omega) (by rw [hk]; exact ⟨_, I', q⟩)
theorem zdI (lo hi : Option Int) (n : Nat) : (sliceBounds lo hi none n).1 = ((HT.sIx n 0 lo : Nat) : Int) /\ (sliceBounds lo hi none n).2.1 = ((HT.sIx n n hi : Nat) : Int) /\ (sliceBounds lo hi none n).2.2 = 1 := by
 refine ⟨?_, ?_, rfl⟩
 · cases lo with
   | none => simp [sliceBounds, HT.sIx]
   | some i =>
    simp only [sliceBounds, HT.sIx, Option.getD_none, show (1 : Int) > 0 by decide, if_true]
    by_cases h : i < 0
    · simp only [h, if_true] <;> omega
    · simp only [h, if_false] <;> omega
 · cases hi with
   | none => simp [sliceBounds, HT.sIx]
   | some i =>
    simp only [sliceBounds, HT.sIx, Option.getD_none, show (1 : Int) > 0 by decide, if_true]
    by_cases h : i < 0
    · simp only [h, if_true] <;> omega
    · simp only [h, if_false] <;> omega
theorem zcH (its : List Value) (lo hi : Option Int) : slicePick its.toArray lo hi none = ((its.drop (HT.sIx its.length 0 lo)).take (HT.sIx its.length its.length hi - HT.sIx its.length 0 lo)).toArray := by
 obtain ⟨h1, h2, h3⟩ := zdI lo hi its.toArray.size
 unfold slicePick
 rw [h1, h2, h3]
 simp only [sliceRange_one, pick_run, zzE] <;> rfl
def zrF (K : zC) : V -> Option Int -> Option Int -> Hp -> VK -> Prop := λ x lo hi H Q => ∃ a xs, x = .ref a /\ SqL K H a xs /\ ∀ p, H p = none -> Q (.ref p) (upd H p (.lst (zft xs lo hi)))
theorem zlC : SlR X (zrF X.K) := by
 intro pins s σ H x v vl vu lo hi sl Q I rx hs pl pu h
 obtain ⟨a, xs, rfl, hx, q⟩ := h
 cases rx
 obtain ⟨its, r, ht, hz⟩ := I.list hx
 have hlen := r.length
 refine ⟨"list", _, slot_list_getitem.lookup, ht.isList.typeIs, ?_⟩
 refine wpAny_getItem_list_slice ht.isList hs pl pu .none (by simp) ?_ (by rw [zzE] <;> omega)
 rw [zcH, <- hlen]
 refine ⟨.ref s.heap.objs.size, _, I.laid (t' := s.toks) (o := .lst (zft xs lo hi)) (λ b ob q => zxF _ q) (zzK _) ?_, rfl, q _ (I.hok.fresh (zzK _))⟩
 exact ⟨zzL (zbk xs lo hi) hz, _, 0, (r.drop (HT.sIx xs.length 0 lo)).take (HT.sIx xs.length xs.length hi - HT.sIx xs.length 0 lo), zxH _ rfl⟩
theorem VJ : WM X (.builtin "len") (λ xs H Q => ∃ p ys, xs = [.ref p] /\ (SqL X.K H p ys \/ SqT X.K H p ys) /\ Q (.int ys.length) H) := by
 intro pins s σ H xs us Q I r h
 obtain ⟨p, ys, rfl, hq, q⟩ := h
 obtain ⟨u, rfl, rx⟩ := vals1 r
 cases rx
 have hn := Vi
 rcases hq with hq | hq
 · obtain ⟨its, r', pl, hz⟩ := I.list hq
   have hlen := r'.length
   exact Calls.call_len_list pl.isList (by simp only [zzE] <;> omega) ⟨.int ys.length, H, I.tok _, ⟨s.toks + 1, by rw [zzE, hlen]⟩, q⟩
 · obtain ⟨its, r', pl, hz⟩ := I.tuple hq
   have hlen := r'.length
   exact len_tuple pl (by simp only [zzE] <;> omega) ⟨.int ys.length, H, I.tok _, ⟨s.toks + 1, by rw [zzE, hlen]⟩, q⟩
theorem zdL : WM X (.builtin "len") (λ xs H Q => ∃ z, xs = [.str z] /\ z.length <= sizeLine /\ Q (.int z.length) H) := by
 intro pins s σ H xs us Q I r h
 obtain ⟨z, rfl, hz, q⟩ := h
 obtain ⟨u, rfl, t, rfl⟩ := vals1 r
 have hn := Vi
 exact len_str (by omega) ⟨.int z.length, H, I.tok _, ⟨_, rfl⟩, q⟩
theorem Vo : WM X (.type "list") (λ xs H Q => ∃ p ys, xs = [.ref p] /\ (SqL X.K H p ys \/ SqT X.K H p ys) /\ ∀ l, H l = none -> Q (.ref l) (upd H l (.lst ys))) := by
 intro pins s σ H xs us Q I r h
 obtain ⟨p, ys, rfl, hq, q⟩ := h
 obtain ⟨u, rfl, rx⟩ := vals1 r
 cases rx
 have fin : ∀ (its : List Value), Vals ys its -> ys.length <= sizeLine -> ∀ (h' : Heap) (c' : Nat), (∀ b o', s.heap.get? b = some o' -> h'.get? b = some o') ->
  h'.get? s.heap.objs.size = some { cls := .type "list", dict := none, data := .seq its.toArray c', slots := #[] } -> EP X pins σ Q (.ref s.heap.objs.size) { s with heap := h' } := λ its r' hz h' c' kp e =>
  ⟨.ref s.heap.objs.size, _, I.laid (t' := s.toks) kp (zzK _) (show yI X.prog X.w _ h' _ (.lst ys) from ⟨hz, its, c', r', e⟩), rfl, q _ (I.hok.fresh (zzK _))⟩
 rcases hq with hq | hq
 · obtain ⟨its, r', pl, hz⟩ := I.list hq
   have hlen := r'.length
   obtain ⟨o, ho, hc, n, hd⟩ := pl.isList
   exact call_list_seq p (.inl rfl) ho hc hd (λ h' c' kp e => fin its r' hz h' c' kp e) (by simp only [zzE] <;> omega)
 · obtain ⟨its, r', pl, hz⟩ := I.tuple hq
   have hlen := r'.length
   obtain ⟨o, ho, hc, n, hd⟩ := pl
   exact call_list_seq p (.inr rfl) ho hc hd (λ h' c' kp e => fin its r' hz h' c' kp e) (by simp only [zzE] <;> omega)
def tyV (K : zC) (T : String) (x : V) (H : Hp) : Prop := match x with
 | .str _ => T = "str"
 | .int _ => T = "int"
 | .ref p => (T = "list" /\ ∃ xs, SqL K H p xs) \/ (T = "tuple" /\ ∃ o, K.lookup p = some o /\ o.cls = .type "tuple" /\ o.dict = none) \/
  (T = "dict" /\ ((∃ kvs, H p = some (.dK kvs)) \/ ∃ kvs, H p = some (.dT kvs))) \/ (T = "set" /\ ∃ S n, H p = some (.set S n))
 | _ => False
theorem znm (I : Inv X pins σ H s) (r : RelV x v) (ty : tyV X.K T x H) :
 s.TypeIs v T /\ ∀ a, v = .ref a -> ∃ ob, s.heap.get? a = some ob /\ ob.dict = none := by
 cases x with
 | str z =>
  obtain ⟨t, rfl⟩ := r
  cases (show T = "str" from ty)
  exact ⟨typeIs_str s z t, λ _ e => nomatch e⟩
 | int i =>
  obtain ⟨t, rfl⟩ := r
  cases (show T = "int" from ty)
  exact ⟨typeIs_int s i t, λ _ e => nomatch e⟩
 | ref p =>
  cases r
  rcases ty with ⟨rfl, xs, hq⟩ | ⟨rfl, o, hk, hc, hd⟩ | ⟨rfl, hk⟩ | ⟨rfl, S, n, hk⟩
  · obtain ⟨its, _, pl, _⟩ := I.list hq
    refine ⟨pl.isList.typeIs, λ a e => ?_⟩
    cases e
    obtain ⟨o, n, e, c, hd, _⟩ := pl
    exact ⟨o, e, hd⟩
  · refine ⟨⟨o, I.kIn p o hk, hc⟩, λ a e => ?_⟩
    cases e
    exact ⟨o, I.kIn _ o hk, hd⟩
  · have z : ∃ o, s.heap.get? p = some o /\ o.ExactDict := by
     rcases hk with ⟨kvs, hk⟩ | ⟨kvs, hk⟩
     · obtain ⟨_, _, _, _, o, _, _, e, ex, _⟩ := I.hok p _ hk
       exact ⟨o, e, ex⟩
     · obtain ⟨_, _, _, _, o, _, _, e, ex, _⟩ := I.hok p _ hk
       exact ⟨o, e, ex⟩
    obtain ⟨o, e, ex⟩ := z
    refine ⟨⟨o, e, ex.1⟩, λ a e2 => ?_⟩
    cases e2
    exact ⟨o, e, ex.2.1⟩
  · obtain ⟨o, _, _, _, e, ex, _⟩ := I.hok p _ hk
    refine ⟨⟨o, e, ex.1⟩, λ a e2 => ?_⟩
    cases e2
    exact ⟨o, e, ex.2.1⟩
 | _ => exact False.elim ty
def tBM (K : zC) (T : String) (r : V -> List V -> Hp -> VK -> Prop) (to : TE) (t : TA) : TE := λ σ H Q => to σ H λ x H1 => tyV K T x H1 /\ t σ H1 λ xs H2 => r x xs H2 Q
variable {o e : Expr} {es : List Expr} {to : TE} {t : TA} {name : Str} {apos cpos : Pos} {T id : String} {r : V -> List V -> Hp -> VK -> Prop}
theorem zpD (pa : PlainAttrs T) (slot : Slot T name id) (hty : typeOf (.builtin id) = pure (.type "method_descriptor")) (hm : MtR X id r) (ho : PE X o to) (ha : PA X (e :: es) t)
 (hbase : attributeBase o name X.env (eval o X.env) = eval o X.env := by rfl)
 (hfew : ((backTo cpos (starEach (e :: es) X.env)).all (λ x => !x.1) && (backToKw cpos (keywordEach [] X.env)).all (λ x => x.1.isSome)
  && decide ((e :: es).length + ([] : List Keyword).length + (if ([] : List Keyword).isEmpty then 0 else 1) < 30)) = true := by rfl)
 (hline : (apos.endLine == cpos.line) = true := by rfl) (hs : starEach (e :: es) X.env = (false, eval e X.env) :: starEach es X.env := by rfl) (hplain : (backTo cpos (starEach es X.env)).any (·.1) = false := by rfl) :
 PE X (.Call (.Attribute o name apos) (e :: es) [] cpos) (tBM X.K T r to t) := by
 intro pins s σ H Q I h
 refine wpAny_Call_method_late hbase hfew hline rfl (thn (ho pins s σ H _ I h) λ v s1 ⟨x, H1, I1, r1, ty, q1⟩ => ?_)
 obtain ⟨h1, h2⟩ := znm I1 r1 ty
 refine ⟨T, id, pa, slot, hty, h1, h2, ?_⟩
 have hA := ha cpos pins s1 σ H1 _ I1 q1
 rw [hs] at hA ⊢
 refine Calls.callWith_builtin (by show (false || (backTo cpos (starEach es X.env)).any (·.1)) = false; rw [hplain] <;> rfl) (Calls.evalArgs_plain ?_)
 exact thn hA λ us s2 ⟨vs, H2, I2, r2, q2⟩ => hm pins s2 σ H2 x vs v us Q I2 r1 r2 q2
end
end L2
namespace L2
open PySem PySem.Spec PyProof.Rows
def MtM (X : Cx) (id : String) (r : V -> List V -> Hp -> VK -> Prop) : Prop :=
 ∀ (pins : List (Addr × Obj)) (s : Shared) (σ : St) (H : Hp) (x : V) (xs : List V) (v : Value) (us : List Value) (Q : VK), Inv X pins σ H s -> RelV x v -> Vals xs us -> r x xs H Q ->
  wpAny (model X.prog X.w) X.A (call (.builtin id) (v :: us)) (EP X pins σ Q) X.xe s
theorem Vals.one : ∀ {x : V} {us : List Value}, Vals [x] us -> ∃ u, us = [u] /\ RelV x u
 | _, _, .cons r .nil => ⟨_, rfl, r⟩
theorem Vals.eraseIdx : ∀ {xs : List V} {us : List Value} (i : Nat), Vals xs us -> Vals (xs.eraseIdx i) (us.eraseIdx i)
 | _, _, _, .nil => .nil
 | _, _, 0, .cons _ t => t
 | _, _, i + 1, .cons r t => .cons r (Vals.eraseIdx i t)
theorem Vals.rep (h : Vals xs us) : ∀ k : Nat, Vals (List.replicate k xs).flatten (List.replicate k us).flatten
 | 0 => .nil
 | k + 1 => by
  rw [List.replicate_succ, List.replicate_succ, List.flatten_cons, List.flatten_cons]
  exact Vals.append h (Vals.rep h k)
theorem zdl : ∀ (l : List α) (i : Nat), (l.eraseIdx i).length <= l.length
 | [], _ => zzK _
 | _ :: _, 0 => zyU _
 | _ :: r, i + 1 => Nat.succ_le_succ (zdl r i)
theorem foldl_rep (its : List Value) : ∀ (k : Nat) (acc : List Value),
 List.foldl (λ x1 x2 => x1 ++ x2) acc.toArray (List.replicate k its.toArray) = (acc ++ (List.replicate k its).flatten).toArray
 | 0, acc => by simp
 | k + 1, acc => by
  have e : acc.toArray ++ its.toArray = (acc ++ its).toArray := by simp
  have e2 : (acc ++ its) ++ (List.replicate k its).flatten = acc ++ (List.replicate (k + 1) its).flatten := by
   rw [List.replicate_succ, List.flatten_cons, zxA]
  rw [<- e2, <- foldl_rep its k (acc ++ its), <- e, List.replicate_succ, List.foldl_cons]
section
variable {X : Cx} {pins : List (Addr × Obj)} {σ : St} {H : Hp} {s : Shared} {l b : Addr} {xs ys zs : List V}
theorem Inv.lset {its its' : List Value} {n : Nat} {f : Array Value -> Array Value} {t' : Nat} (I : Inv X pins σ H s) (hH : H l = some (.lst xs))
 (e : s.heap.get? l = some { cls := .type "list", data := .seq its.toArray n }) (hf : f its.toArray = its'.toArray) (hv : Vals ys its') (hz : ys.length <= sizeLine) :
 Inv X pins σ (upd H l (.lst ys)) { s with heap := s.heap.update l (Obj.mapSeq f), toks := t' } := by
 have q := PySem.IsL.update e f
 rw [hf] at q
 refine I.write (x := l) (e := l) (by rw [hH]; exact trivial) (.inl rfl) (λ b' u hb hu => (zxL s.heap (Obj.mapSeq f) (Ne.symm hb)).trans hu) ⟨_, q⟩ ?_
 exact ⟨hz, its', _, hv, q⟩
theorem Inv.lnew (I : Inv X pins σ H s) (hv : Vals ys its) (hz : ys.length <= sizeLine) :
 Inv X pins σ (upd H s.heap.objs.size (.lst ys)) { s with heap := s.heap.push { cls := .type "list", data := .seq its.toArray }, toks := t' } :=
 I.laid (λ _ _ q => zxF _ q) (zzK _) ⟨hz, its, 0, hv, zxH _ rfl⟩
theorem Inv.fresh (I : Inv X pins σ H s) : H s.heap.objs.size = none := I.hok.fresh (zzK _)
theorem Inv.lstM (I : Inv X pins σ H s) (hH : H l = some (.lst xs)) : xs.length <= sizeLine /\ ∃ (its : List Value) (n : Nat), Vals xs its /\ xs.length = its.length /\ s.heap.get? l = some { cls := .type "list", data := .seq its.toArray n } := by
 obtain ⟨z, its, n, r, e⟩ := I.hok l _ hH
 exact ⟨z, its, n, r, r.length, e⟩
theorem zkA (h : n <= sizeLine) : Builtin.List.listTooLong n = false := by
 unfold Builtin.List.listTooLong
 exact zyD (by omega)
end
section
variable {X : Cx}
def zhj : V -> List V -> Hp -> VK -> Prop := λ x vs H Q => ∃ l xs y, x = .ref l /\ vs = [y] /\ H l = some (.lst xs) /\ xs.length < sizeLine /\ Q .non (upd H l (.lst (xs ++ [y])))
theorem wg : MtM X "list.append" zhj := by
 intro pins s σ H x vs v us Q I rx rv h
 obtain ⟨l, xs, y, rfl, rfl, hH, hz, q⟩ := h
 cases rx
 obtain ⟨u, rfl, ru⟩ := rv.one
 obtain ⟨z, its, n, r, hl, e⟩ := I.lstM hH
 refine call_meets F.slot_list_append ⟨_, e, rfl⟩ F.entry_list_append (F.args_list_append_2 _ _) (PySem.list_append l its.toArray n u (by rw [zzE]; omega)) ⟨e, ?_⟩
 refine ⟨.non, _, I.lset (its' := its ++ [u]) hH e (by simp) (r.append (.cons ru .nil)) ?_, rfl, q⟩
 rw [zzG, List.length_singleton]
 omega
def ziT : V -> List V -> Hp -> VK -> Prop := λ x vs H Q => ∃ l xs i k y, x = .ref l /\ vs = [.int i] /\ H l = some (.lst xs) /\ -(2 ^ 63) <= i /\ i < 2 ^ 63 /\ seqIndex? i xs.length = some k /\ xs[k]? = some y /\ Q y (upd H l (.lst (xs.eraseIdx k)))
theorem zjP : MtM X "list.pop" ziT := by
 intro pins s σ H x vs v us Q I rx rv h
 obtain ⟨l, xs, i, k, y, rfl, rfl, hH, h1, h2, hk, hy, q⟩ := h
 cases rx
 obtain ⟨u, rfl, ru⟩ := rv.one
 obtain ⟨t, rfl⟩ := ru
 obtain ⟨z, its, n, r, hl, e⟩ := I.lstM hH
 obtain ⟨w, hw, rw'⟩ := r.get hy
 refine call_meets F.slot_list_pop ⟨_, e, rfl⟩ F.entry_list_pop (F.args_list_pop_2 _ _)
  (MeetsSeq.list_pop_at l its.toArray n i t k w (fitsIndex_both h1 h2) (by rw [zzE, <- hl]; exact hk) (by rw [<- Array.getElem?_toList]; exact hw) (by rw [zzE]; omega)) ⟨e, ?_⟩
 refine ⟨y, _, I.lset (its' := its.eraseIdx k) hH e ?_ (r.eraseIdx k) ?_, rw', q⟩
 · show its.toArray.eraseIdxIfInBounds k = (its.eraseIdx k).toArray
   rw [List.eraseIdxIfInBounds_toArray]
 · have := zdl xs k
   omega
theorem len_rep (xs : List α) (k : Nat) : (List.replicate k xs).flatten.length = k * xs.length := by
 induction k with
 | zero => simp
 | succ k ih => rw [List.replicate_succ, List.flatten_cons, zzG, ih, Nat.succ_mul, Nat.add_comm]
end
end L2
namespace Att
open PySem PySem.W PySem.Calls PyProof.Rows
theorem zbu : ∀ (ns : List Int) (vs : List Value), WellAll P h vs (ns.map WData.int) -> IntsAre vs ns := by
 intro ns
 induction ns with
 | nil =>
  intro vs w
  rw [List.map_nil] at w
  cases w
  exact .nil
 | cons n ns ih =>
  intro vs w
  rw [zyP] at w
  cases w with
  | cons a b =>
   cases a
   exact .cons _ _ (ih _ b)
theorem ziy {l : OpenLaw} {n : Nat} (hn : l.most = some n) {P : Params} {h : Heap} {args : List WData} {vals : List Value}
 (hpre : l.row.toRowW.claim.pre args = true) (hwl : WellAll P h vals args) :
 ∃ a vs ns, vals = [Value.ref a] /\ args = [WData.list (ns.map WData.int)] /\ h.get? a = some { cls := .type "list", data := .seq vs.toArray } /\ IntsAre vs ns /\ ns.length <= n := by
 have hsh : WShape.hasAll [] args [.list .int] = true := (pre_splitW hpre).1
 have hc : l.pre.holds [] { args := args } = true := (pre_splitW hpre).2
 obtain ⟨d, r, rfl, h1, h2⟩ := hasAllW_cons hsh
 obtain rfl := hasAllW_nil h2
 obtain ⟨xs, rfl, h3⟩ := hasW_list h1
 obtain ⟨ns, rfl⟩ := items_int h3
 have hlen : ns.length <= n := by
  unfold OpenLaw.pre at hc
  have h4 : (WTm.not (.lt (.lit (.int (n : Int))) (.len (.arg 0)))).holds [] { args := [.list (ns.map .int)] } = true := by
   have h4 := (holds_andW hc).1
   rw [hn] at h4
   exact h4
  have h5 := condW_of h4 (w_not (w_lt w_lit (w_len_list (w_arg rfl))))
  rw [zD] at h5
  refine Nat.le_of_not_lt λ q => ?_
  have q' : (n : Int) < ((ns.length : Nat) : Int) := by omega
  first
   | (rw [zyL q'] at h5; exact absurd h5 (by decide))
   | (simp at h5; omega)
 cases hwl with
 | cons w1 w2 =>
  cases w2
  cases w1 with
  | list ho hall => exact ⟨_, _, ns, rfl, rfl, ho, zbu ns _ hall, hlen⟩
theorem zix (l : OpenLaw) (args : List WData) : l.row.toRowW.claim.post args (.bool true) args = true :=
 postW_of (r := l.row.toRowW) (X := (true == true))
  (show WShape.has [] (.bool true) .bool = true by first | rfl | decide | simp [WShape.has, WShape.arms, WShape.armsAll])
  (show (WTm.eq .res (.lit (.bool true))).value [] { args := args, res := some (.bool true), after := args } = some (.bool (true == true)) from w_eq_bool (w_res rfl) w_lit) rfl
theorem zfl {l : OpenLaw} {n : Nat} {q : Program} {loose : List Str} {XP : (Str -> Option Value) -> Heap -> Prop} {YP : World -> Heap -> Prop} {d : DefRec}
 (hn : l.most = some n) (hdf : d.params.defaults = [])
 (call : ∀ (w : World) (s₀ s₁ : Shared) (mg mb : Str -> Option Value) (fa : Addr) (o : Obj) (pm cd doc : Value) (a : Addr) (vs : List Value) (ns : List Int),
  Ground q loose [] XP w s₀ mg mb s₁.heap -> YP w s₁.heap ->
  s₁.heap.get? fa = some o -> o.data = .func (docDef d.name d.params d.body d.scope pm cd doc) -> s₁.heap.CodeRec cd d.name -> mg d.name = some (.ref fa) ->
  s₁.heap.get? a = some { cls := .type "list", data := .seq vs.toArray } -> IntsAre vs ns -> ns.length <= n -> s₁.gens = #[] ->
  codeAny (model l.prog w) callerA (.call (.ref fa) ⟨[.ref a], []⟩) (λ r s' => r = .ok (.ret (.bool true)) /\ OldK s₁.heap s'.heap /\ s'.os = s₁.os /\ AllBare s'.gens) s₁) :
 WalkO q loose XP YP l.row.toRowW d [] (λ f vs => PySem.call f vs) := by
 intro w s₀ s₁ mg mb G Y fa o pm cd doc dV kV ho hd hcd hD hmg hg args vals as hpre hlay hrd hwl hlo
 obtain rfl : dV = .none := Dflts.none hD hdf
 obtain rfl : kV = .none := Dflts.noKw hD
 obtain ⟨a, vs, ns, rfl, rfl, hobj, hints, hlen⟩ := ziy hn hpre hwl
 refine enter_call (codeAny_mono (call w s₀ s₁ mg mb fa o pm cd doc a vs ns G Y ho (fd_plain hd) hcd hmg hobj hints hlen hg) λ r s' hq => ?_)
 obtain ⟨rfl, h2, h3, h4⟩ := hq
 exact ⟨.inl ⟨.bool true, .bool true, [], rfl, λ _ => rfl, .bool true, zix l _, λ _ => ⟨List.Pairwise.nil, λ _ hm => (nomatch hm)⟩⟩, h2, h3, h4⟩
end Att
namespace L2
open PySem PySem.Spec PyProof.Rows
theorem ZW : ∀ {vs : List Value} {ns : List Int}, IntsAre vs ns -> Vals (ns.map V.int) vs
 | _, _, .nil => .nil
 | _, _, .cons n t h => .cons ⟨t, rfl⟩ (ZW h)
def Only (H : Hp) : Prop := ∀ b, H b = none \/ ∃ o xs, H b = some (.frz o (.lst xs))
theorem zkX {P : Program} {w : World} {K : zC} {mg mb : Str -> Option Value} {CX : CXT} {k : Nat} {fa a : Addr} {fd : FuncData} {x : Str} {sp : Sp} {s₁ : Shared} {vs : List Value} {ns : List Int}
 (KX : K.In s₁.heap) (hns : s₁.heap.Ns mainGlobals mg) (hb : s₁.heap.Ns builtinsNs mb) (hbb : ∀ x : Str, x ≠ "__name__" -> mb x = bootBuiltins x) (hlim : s₁.heap.NoLimit) (hg : s₁.gens = #[])
 (ha : s₁.heap.get? a = some { cls := .type "list", data := .seq vs.toArray }) (hi : IntsAre vs ns) (hl : ns.length <= sizeLine) (hr : Room k callerA)
 (F : ∀ base : Heap, K.In base -> base.Ns mainGlobals mg -> FnOk P w K mg base CX k fa fd [x] sp) (hbind : ∀ (s : Shared) (u : Value), BindsTo s fd ⟨[u], []⟩ [(x, u)])
 (hsp : ∀ H : Hp, Only H -> RdL K H a (ns.map V.int) -> sp [.ref a] H (λ v _ => v = .bl true) λ _ _ _ => False)
 (hCX : ∀ H e s', CX [] H s₁ (λ _ _ _ => False) e s' -> False) :
 codeAny (model P w) callerA (.call (.ref fa) ⟨[.ref a], []⟩) (λ r s' => r = .ok (.ret (.bool true)) /\ OldK s₁.heap s'.heap /\ s'.os = s₁.os /\ AllBare s'.gens) s₁ := by
 have rv := ZW hi
 have lenV := hi.length
 have core : ∀ H : Hp, Only H -> RdL K H a (ns.map V.int) -> HOk P w H s₁.heap -> (∀ b, H b ≠ none -> b = a) -> (H a ≠ none -> K.lookup a = none) ->
  codeAny (model P w) callerA (.call (.ref fa) ⟨[.ref a], []⟩) (λ r s' => r = .ok (.ret (.bool true)) /\ OldK s₁.heap s'.heap /\ s'.os = s₁.os /\ AllBare s'.gens) s₁ := by
  intro H hO hS hok hA hK
  have base_of : ∀ {b : Addr} {o : Obj}, s₁.heap.get? b = some o -> H b = none -> (zdM s₁.heap H).get? b = some o := λ e n => zkq e n
  have noA : ∀ {b : Addr} {o : Obj} {es : Array DictEntry} {ep : Nat}, s₁.heap.get? b = some o -> o.data = .dict es ep -> H b = none := λ {b o es ep} e d => by
   cases q : H b with
   | none => rfl
   | some u =>
    have e' : b = a := hA b (by rw [q]; simp)
    subst e'
    rw [ha] at e; cases e
    have d' : Data.seq vs.toArray _ = Data.dict es ep := d
    cases d'
  have nsK : ∀ {b : Addr} {m : Str -> Option Value}, s₁.heap.Ns b m -> (zdM s₁.heap H).Ns b m := λ {b m} ⟨o, es, ep, e, d, r⟩ => ⟨o, es, ep, base_of e (noA e d), d, r⟩
  have hKb : K.In (zdM s₁.heap H) := λ b o e => base_of (KX b o e) (by
   cases q : H b with
   | none => rfl
   | some u =>
    have e' : b = a := hA b (by rw [q]; simp)
    subst e'
    rw [hK (by rw [q]; simp)] at e; cases e)
  have hM : Mod K mg (zdM s₁.heap H) := ⟨hKb, nsK hns, ⟨mb, nsK hb, hbb⟩, let ⟨mc, h1, h2⟩ := hlim; ⟨mc, nsK h1, h2⟩⟩
  have e0 : Env0 P w K mg (zdM s₁.heap H) callerA [] s₁ H := ⟨rfl, hM, λ b o e => zlB e, Nat.le_of_eq (zhT _ _), trivial, λ b hb => absurd (show b ∈ ([] : List Addr) from hb) (by simp), hok, .of_eq hg⟩
  refine codeAny_mono ((F _ hKb (nsK hns)).run callerA [] s₁ H ⟨[.ref a], []⟩ [.ref a] [.ref a] _ _ hr e0 (hbind s₁ (.ref a)) (.cons rfl .nil) (hsp H hO hS)) λ r s' h => ?_
  cases r with
  | error e => exact (hCX H e s' h).elim
  | ok fl =>
   cases fl with
   | next => exact False.elim h
   | brk => exact False.elim h
   | cont => exact False.elim h
   | ret u =>
    obtain ⟨v, H', os, bare, un, hok', r', q⟩ := h
    have q' : v = .bl true := q
    subst q'
    obtain rfl : u = Value.bool true := r'
    refine ⟨rfl, OldK.of_keep λ b o e => ?_, os, bare⟩
    cases q : H b with
    | none => exact un.keep b o e q (by intro z; exact absurd (show b ∈ ([] : List Addr) from z) (by simp)) (by simp)
    | some u =>
     rcases hO b with z | ⟨ob, xs, z⟩
     · rw [q] at z; cases z
     · have z2 := un.frzs b ob _ z
       obtain ⟨e1, _⟩ := hok b _ z
       obtain ⟨e2, _⟩ := hok' b _ z2
       rw [e] at e1; cases e1
       exact e2
 cases hk : K.lookup a with
 | some o =>
  have e := KX a o hk
  rw [ha] at e
  cases e
  refine core (λ _ => none) (λ _ => .inl rfl) (.inr ⟨vs.toArray, _, hk, by rw [zzE, lenV]; exact hl, by simpa using rv⟩) (λ b u z => by have z' : (none : Option HO) = some u := z; cases z') (λ b z => absurd rfl z) λ z => absurd rfl z
 | none =>
  refine core (λ b => if b = a then some (.frz { cls := .type "list", data := .seq vs.toArray } (.lst (ns.map V.int))) else none) (λ b => ?_) (.inl (.inr ⟨{ cls := .type "list", data := .seq vs.toArray }, if_pos rfl⟩)) (λ b u z => ?_) (λ b z => ?_) λ _ => hk
  · by_cases hb : b = a
    · exact .inr ⟨_, _, if_pos hb⟩
    · exact .inl (if_neg hb)
  · by_cases hb : b = a
    · have z' := (if_pos hb).symm.trans z
      cases z'
      subst hb
      exact ⟨ha, by rw [zD]; exact hl, vs, _, rv, ha⟩
    · have z' := (if_neg hb).symm.trans z
      cases z'
  · by_cases hb : b = a
    · exact hb
    · exact absurd (if_neg hb) z
end L2
namespace L2
open PySem PySem.Spec PyProof.Rows
theorem walk_of {l : PySem.W.OpenLaw} {n k : Nat} {q : Program} {loose : List Str} {XP : (Str -> Option Value) -> Heap -> Prop} {YP : World -> Heap -> Prop} {d : DefRec} {K : Params -> zC} {CX : World -> CXT} {sp : World -> Sp} {x : Str}
 (hn : l.most = some n) (hn2 : n <= sizeLine) (hdf : d.params.defaults = []) (hr : Room k callerA)
 (hY : ∀ (w : World) (h : Heap), YP w h -> (K w.params).In h)
 (F : ∀ (w : World) (mg : Str -> Option Value) (fa : Addr) (h : Heap), (K w.params).In h -> h.Ns mainGlobals mg -> mg d.name = some (.ref fa) ->
  ∃ fd : FuncData, (∀ (s : Shared) (u : Value), BindsTo s fd ⟨[u], []⟩ [(x, u)]) /\
   ∀ base : Heap, (K w.params).In base -> base.Ns mainGlobals mg -> FnOk l.prog w (K w.params) mg base (CX w) k fa fd [x] (sp w))
 (hsp : ∀ (w : World) (H : Hp) (a : Addr) (ns : List Int), ns.length <= n -> Only H -> RdL (K w.params) H a (ns.map V.int) -> sp w [.ref a] H (λ v _ => v = .bl true) λ _ _ _ => False)
 (hCX : ∀ (w : World) (H : Hp) (s : Shared) (e : Value) (s' : Shared), CX w [] H s (λ _ _ _ => False) e s' -> False) :
 PySem.W.WalkO q loose XP YP l.row.toRowW d [] (λ f vs => PySem.call f vs) := by
 refine Att.zfl hn hdf λ w s₀ s₁ mg mb fa o pm cd doc a vs ns G Y ho hd hcd hmg hobj hints hlen hg => ?_
 have KX := hY w _ Y
 obtain ⟨fd, hb, hF⟩ := F w mg fa _ KX G.T.g hmg
 exact zkX KX G.T.g G.T.b G.T.builtins G.T.nolimit hg hobj hints (zzL hlen hn2) hr hF hb (λ H hO hS => hsp w H a ns hlen hO hS) λ H e s' => hCX w H s₁ e s'
end L2
namespace L2
open PySem PySem.Spec PyProof.Rows
def zeb (s : Stmt) : Arguments := match s with
 | .FunctionDef _ a _ _ _ _ _ _ _ _ => a
 | _ => { posonlyargs := [], args := [], vararg := none, kwonlyargs := [], kw_defaults := [], kwarg := none, defaults := [] }
def Vv (s : Stmt) : List Stmt := match s with
 | .FunctionDef _ _ b _ _ _ _ _ _ _ => b
 | _ => []
def zF (s : Stmt) : Scope := match s with
 | .FunctionDef _ _ _ _ _ _ sc _ _ _ => sc
 | _ => { kind := .function, names := [], isGenerator := false, isCoroutine := false }
abbrev CX0 : CXT := λ _ _ _ _ _ _ => False
abbrev E0 : XK := λ _ _ _ => False
theorem yK : zar CX0 X E0 := λ _ _ _ _ _ _ _ h => h.elim
structure Fun (K : zC) (x qual : Str) (st : Stmt) (f : Addr) (fd : FuncData) : Prop where
 ex : ∃ (oc : Value) (od : Option Addr) (kV doc pm : Value) (an : Option Addr) (cdv ct : Value) (osl : Array (Option Value)),
  fd = PySem.W.fnOf x qual (zeb st) (Vv st) (zF st) .none kV doc pm an cdv ct /\ K.lookup f = some ⟨oc, od, .func fd, osl⟩ /\ PySem.W.codeIn K cdv qual = true
 kp : PySem.W.keepIn K (.ref f) = true
section
variable {P : Program} {w : World} {K : zC} {mg : Str -> Option Value} {base : Heap}
theorem Fun.ok {x qual : Str} {st : Stmt} {f : Addr} {fd : FuncData} {N ps : List Str} {k : Nat} {sp : Sp} (F : Fun K x qual st f fd) (S : FnScope N ps (zF st)) (len : ∀ vs H Q E, sp vs H Q E -> vs.length = ps.length)
 (hbody : ∀ (cdv : Value) (A : Around) (outer : List Env) (s : Shared) (H : Hp) (vs : List V) (Q : VK) (E : XK), Room k (A.deeper (envOfC qual (zF st) s.heap.objs.size f cdv)) -> sp vs H Q E ->
  ∃ t, PSs (zfK CX0 P w K mg base N qual (zF st) f cdv A outer s H E).nox (Vv st) t /\ t { nx := λ _ H' => Q .non H', rt := Q } (start N vs) H) : FnOk P w K mg base CX0 (k + 1) f fd ps sp := by
 obtain ⟨oc, od, kV, doc, pm, an, cdv, ct, osl, rfl, lk, hcd⟩ := F.ex
 refine zpT lk hcd S len λ A outer s H vs Q E hr hsp => ?_
 obtain ⟨t, h, q⟩ := hbody cdv A outer s H vs Q E hr hsp
 exact ⟨t, h.nox, q⟩
theorem Fun.binds {x qual : Str} {st : Stmt} {f : Addr} {fd : FuncData} {ps : List Str} (F : Fun K x qual st f fd)
 (h : ∀ (kV doc pm : Value) (an : Option Addr) (cdv ct : Value) (us : List Value), us.length = ps.length -> bindArgs (PySem.W.fnOf x qual (zeb st) (Vv st) (zF st) .none kV doc pm an cdv ct) ⟨us, []⟩ = pure (ps.zip us)) : Binds K fd ps [] := by
 obtain ⟨oc, od, kV, doc, pm, an, cdv, ct, osl, rfl, lk, hcd⟩ := F.ex
 exact .all (h kV doc pm an cdv ct)
end
theorem zkt (hr : Room k A) : A.units + 1 < cLine := Nat.lt_of_le_of_lt (Nat.add_le_add_left (by decide : 1 <= 64) _) hr.units
theorem zW (h : n <= 1000) : n < sizeLine := Nat.lt_of_le_of_lt h (by decide)
section
variable {X : Cx}
theorem pv (i : Nat) (hN : X.N[i]? = some x := by rfl) (hv : Vis X.env.scope x := by first | exact Or.inl rfl | exact Or.inr (Or.inl rfl) | exact Or.inr (Or.inr rfl)) (hd : (x == ("__debug__" : Str)) = false := by decide)
 (hcd : (x == ("__classdict__" : Str)) = false := by decide) : PE X (.Name x pos) (Vh i) := zke hN hv hd hcd
end
end L2
end
section
namespace PF
open PySem PySem.Spec PyProof.Rows L2
abbrev St := L2.St
structure KD where
 d : Addr -> List (Key × V) -> Prop
 c : Str -> Addr
instance : CoeFun KD (λ _ => Addr -> List (Key × V) -> Prop) := ⟨KD.d⟩
inductive D where
 | non | bl (b : Bool) | int (i : Int) | str (x : Str) | tup (ds : List D) | lst (ds : List D) | dct (kvs : List (Key × D)) | cl (c : Str) | ob (c : Str) (ns : List Str) (ds : List D)
mutual
inductive Rp (K : zC) (kd : KD) (O : Addr -> Prop) (H : Hp) : V -> D -> Prop
 | non : Rp K kd O H .non .non
 | bl (b : Bool) : Rp K kd O H (.bl b) (.bl b)
 | int (i : Int) : Rp K kd O H (.int i) (.int i)
 | str (x : Str) : Rp K kd O H (.str x) (.str x)
 | tup {a : Addr} {vs : List V} {ds : List D} : ¬ O a -> Rd H a (.tup vs) -> RpL K kd O H vs ds -> Rp K kd O H (.ref a) (.tup ds)
 | tupK {a : Addr} {o : Obj} {its : Array Value} {n : Nat} {vs : List V} {ds : List D} : K.lookup a = some o -> o.cls = .type "tuple" -> o.data = .seq its n -> its.size <= sizeLine -> Vals vs its.toList -> RpL K kd O H vs ds -> Rp K kd O H (.ref a) (.tup ds)
 | lst {a : Addr} {vs : List V} {ds : List D} : ¬ O a -> Rd H a (.lst vs) -> RpL K kd O H vs ds -> Rp K kd O H (.ref a) (.lst ds)
 | lstK {a : Addr} {its : Array Value} {n : Nat} {vs : List V} {ds : List D} : K.lookup a = some { cls := .type "list", data := .seq its n } -> its.size <= sizeLine -> Vals vs its.toList -> RpL K kd O H vs ds -> Rp K kd O H (.ref a) (.lst ds)
 | dct {a : Addr} {kvs : List (Key × V)} {ds : List (Key × D)} : ¬ O a -> Rd H a (.dK kvs) -> RpM K kd O H kvs ds -> Rp K kd O H (.ref a) (.dct ds)
 | dctK {a : Addr} {kvs : List (Key × V)} {ds : List (Key × D)} : kd a kvs -> RpM K kd O H kvs ds -> Rp K kd O H (.ref a) (.dct ds)
 | cl (c : Str) : Rp K kd O H (.ref (kd.c c)) (.cl c)
 | ob {a dx : Addr} {c : Str} {ns : List Str} {vs : List V} {ds : List D} : ¬ O a -> H a = some (.ins (kd.c c) dx (ns.zip vs)) -> ns.length = vs.length -> RpL K kd O H vs ds -> Rp K kd O H (.ref a) (.ob c ns ds)
inductive RpL (K : zC) (kd : KD) (O : Addr -> Prop) (H : Hp) : List V -> List D -> Prop
 | nil : RpL K kd O H [] []
 | cons {v : V} {d : D} {vs : List V} {ds : List D} : Rp K kd O H v d -> RpL K kd O H vs ds -> RpL K kd O H (v :: vs) (d :: ds)
inductive RpM (K : zC) (kd : KD) (O : Addr -> Prop) (H : Hp) : List (Key × V) -> List (Key × D) -> Prop
 | nil : RpM K kd O H [] []
 | cons {k : Key} {v : V} {d : D} {vs : List (Key × V)} {ds : List (Key × D)} : Rp K kd O H v d -> RpM K kd O H vs ds -> RpM K kd O H ((k, v) :: vs) ((k, d) :: ds)
end
structure Grow (W : Addr -> Prop) (H : Hp) (W' : Addr -> Prop) (H' : Hp) : Prop where
 keep : ∀ b o, H b = some o -> ¬ W b -> H' b = some o
 own : ∀ b, W' b -> W b \/ H b = none
theorem Grow.refl {W : Addr -> Prop} {H : Hp} : Grow W H W H := ⟨λ _ _ h _ => h, λ _ h => .inl h⟩
theorem Grow.trans {W W1 W2 : Addr -> Prop} {H H1 H2 : Hp} (a : Grow W H W1 H1) (b : Grow W1 H1 W2 H2) : Grow W H W2 H2 where
 keep := λ x o h n => b.keep x o (a.keep x o h n) λ q => (a.own x q).elim n λ z => by rw [z] at h; cases h
 own := λ x q => by
  rcases b.own x q with h | h
  · exact a.own x h
  · cases e : H x with
    | none => exact .inr rfl
    | some o =>
     refine .inl (Classical.byContradiction λ n => ?_)
     rw [a.keep x o e n] at h
     cases h
theorem Grow.less {W W' : Addr -> Prop} {H : Hp} (h : ∀ a, W' a -> W a) : Grow W H W' H := ⟨λ _ _ q _ => q, λ b q => .inl (h b q)⟩
theorem Grow.wr {W : Addr -> Prop} {H : Hp} {p : Addr} {o : HO} (h : W p) : Grow W H W (upd H p o) :=
 ⟨λ b u q n => by rw [zQ (λ e => n (by rw [e]; exact h))]; exact q, λ _ q => .inl q⟩
abbrev Un2 (F W : Addr -> Prop) : Addr -> Prop := λ a => F a \/ W a
section
variable {K : zC} {kd : KD} {F W W' : Addr -> Prop} {H H' : Hp}
theorem Wu {a : Addr} {u : HO} (g : Grow W H W' H') (n : ¬ W a) (h : Rd H a u) : Rd H' a u := by
 rcases h with h | ⟨o, h⟩
 · exact .inl (g.keep _ _ h n)
 · exact .inr ⟨o, g.keep _ _ h n⟩
theorem zmD {a : Addr} {u : HO} (h : Rd H a u) : H a ≠ none := by
 rcases h with h | ⟨o, h⟩ <;> (rw [h]; simp)
theorem V3 {a : Addr} {u : HO} (g : Grow W H W' H') (n : ¬ Un2 F W a) (h : Rd H a u) : ¬ Un2 F W' a := λ q =>
 q.elim (λ z => n (.inl z)) λ z => (g.own a z).elim (λ y => n (.inr y)) λ y => zmD h y
theorem Rp.grow (g : Grow W H W' H') {v : V} {d : D} (h : Rp K kd (Un2 F W) H v d) : Rp K kd (Un2 F W') H' v d :=
 Rp.rec (motive_1 := λ v d _ => Rp K kd (Un2 F W') H' v d) (motive_2 := λ vs ds _ => RpL K kd (Un2 F W') H' vs ds) (motive_3 := λ vs ds _ => RpM K kd (Un2 F W') H' vs ds) .non .bl .int .str (λ n h _ r => .tup (V3 g n h) (Wu g (λ z => n (.inr z)) h) r) (λ a b c e f _ r => .tupK a b c e f r) (λ n h _ r => .lst (V3 g n h) (Wu g (λ z => n (.inr z)) h) r) (λ a e f _ r => .lstK a e f r) (λ n h _ r => .dct (V3 g n h) (Wu g (λ z => n (.inr z)) h) r) (λ h _ r => .dctK h r) .cl (λ n h l _ r => .ob (V3 g n (.inl h)) (g.keep _ _ h λ z => n (.inr z)) l r) .nil (λ _ _ h r => .cons h r) .nil (λ _ _ h r => .cons h r) h
theorem RpL.ind {O : Addr -> Prop} {P : List V -> List D -> Prop} (h0 : P [] []) (h1 : ∀ {v d vs ds}, Rp K kd O H v d -> RpL K kd O H vs ds -> P vs ds -> P (v :: vs) (d :: ds)) {vs : List V} {ds : List D} (h : RpL K kd O H vs ds) : P vs ds :=
 RpL.rec (motive_1 := λ _ _ _ => True) (motive_2 := λ vs ds _ => P vs ds) (motive_3 := λ _ _ _ => True) ⟨⟩ (λ _ => ⟨⟩) (λ _ => ⟨⟩) (λ _ => ⟨⟩) (λ _ _ _ _ => ⟨⟩) (λ _ _ _ _ _ _ _ => ⟨⟩) (λ _ _ _ _ => ⟨⟩) (λ _ _ _ _ _ => ⟨⟩) (λ _ _ _ _ => ⟨⟩) (λ _ _ _ => ⟨⟩) (λ _ => ⟨⟩) (λ _ _ _ _ _ => ⟨⟩) h0 (λ a r _ ih => h1 a r ih) ⟨⟩ (λ _ _ _ _ => ⟨⟩) h
theorem RpM.ind {O : Addr -> Prop} {P : List (Key × V) -> List (Key × D) -> Prop} (h0 : P [] []) (h1 : ∀ {k v d vs ds}, Rp K kd O H v d -> RpM K kd O H vs ds -> P vs ds -> P ((k, v) :: vs) ((k, d) :: ds)) {vs : List (Key × V)} {ds : List (Key × D)} (h : RpM K kd O H vs ds) : P vs ds :=
 RpM.rec (motive_1 := λ _ _ _ => True) (motive_2 := λ _ _ _ => True) (motive_3 := λ vs ds _ => P vs ds) ⟨⟩ (λ _ => ⟨⟩) (λ _ => ⟨⟩) (λ _ => ⟨⟩) (λ _ _ _ _ => ⟨⟩) (λ _ _ _ _ _ _ _ => ⟨⟩) (λ _ _ _ _ => ⟨⟩) (λ _ _ _ _ _ => ⟨⟩) (λ _ _ _ _ => ⟨⟩) (λ _ _ _ => ⟨⟩) (λ _ => ⟨⟩) (λ _ _ _ _ _ => ⟨⟩) ⟨⟩ (λ _ _ _ _ => ⟨⟩) h0 (λ a r _ ih => h1 a r ih) h
theorem RpL.grow (g : Grow W H W' H') {vs : List V} {ds : List D} (h : RpL K kd (Un2 F W) H vs ds) : RpL K kd (Un2 F W') H' vs ds := RpL.ind .nil (λ a _ r => .cons (Rp.grow g a) r) h
theorem RpM.grow (g : Grow W H W' H') {vs : List (Key × V)} {ds : List (Key × D)} (h : RpM K kd (Un2 F W) H vs ds) : RpM K kd (Un2 F W') H' vs ds := RpM.ind .nil (λ a _ r => .cons (Rp.grow g a) r) h
theorem Rp.less {O O' : Addr -> Prop} (g : ∀ a, O' a -> O a) {v : V} {d : D} (h : Rp K kd O H v d) : Rp K kd O' H v d :=
 Rp.rec (motive_1 := λ v d _ => Rp K kd O' H v d) (motive_2 := λ vs ds _ => RpL K kd O' H vs ds) (motive_3 := λ vs ds _ => RpM K kd O' H vs ds) .non .bl .int .str (λ n h _ r => .tup (λ z => n (g _ z)) h r) (λ a b c e f _ r => .tupK a b c e f r) (λ n h _ r => .lst (λ z => n (g _ z)) h r) (λ a e f _ r => .lstK a e f r) (λ n h _ r => .dct (λ z => n (g _ z)) h r) (λ h _ r => .dctK h r) .cl (λ n h l _ r => .ob (λ z => n (g _ z)) h l r) .nil (λ _ _ h r => .cons h r) .nil (λ _ _ h r => .cons h r) h
theorem RpL.less {O O' : Addr -> Prop} (g : ∀ a, O' a -> O a) {vs : List V} {ds : List D} (h : RpL K kd O H vs ds) : RpL K kd O' H vs ds := RpL.ind .nil (λ a _ r => .cons (Rp.less g a) r) h
theorem RpM.less {O O' : Addr -> Prop} (g : ∀ a, O' a -> O a) {vs : List (Key × V)} {ds : List (Key × D)} (h : RpM K kd O H vs ds) : RpM K kd O' H vs ds := RpM.ind .nil (λ a _ r => .cons (Rp.less g a) r) h
theorem RpL.length {O : Addr -> Prop} {vs : List V} {ds : List D} (h : RpL K kd O H vs ds) : vs.length = ds.length := RpL.ind (P := λ vs ds => vs.length = ds.length) rfl (λ _ _ r => congrArg (· + 1) r) h
theorem RpM.length {O : Addr -> Prop} {vs : List (Key × V)} {ds : List (Key × D)} (h : RpM K kd O H vs ds) : vs.length = ds.length := RpM.ind (P := λ vs ds => vs.length = ds.length) rfl (λ _ _ r => congrArg (· + 1) r) h
theorem RpL.get {O : Addr -> Prop} {vs : List V} {ds : List D} {i : Nat} {d : D} (h : RpL K kd O H vs ds) (e : ds[i]? = some d) : ∃ v, vs[i]? = some v /\ Rp K kd O H v d :=
 RpL.ind (P := λ vs ds => ∀ i, ds[i]? = some d -> ∃ v, vs[i]? = some v /\ Rp K kd O H v d) (λ i e => by rw [List.getElem?_nil] at e; cases e) (λ a _ ih i e => by
  cases i with
  | zero => cases e; exact ⟨_, rfl, a⟩
  | succ i => exact ih i e) h i e
theorem RpL.append {O : Addr -> Prop} {vs ws : List V} {ds es : List D} (h : RpL K kd O H vs ds) (r : RpL K kd O H ws es) : RpL K kd O H (vs ++ ws) (ds ++ es) := RpL.ind (P := λ vs ds => RpL K kd O H (vs ++ ws) (ds ++ es)) r (λ a _ t => .cons a t) h
theorem RpL.take {O : Addr -> Prop} {vs : List V} {ds : List D} (n : Nat) (h : RpL K kd O H vs ds) : RpL K kd O H (vs.take n) (ds.take n) :=
 RpL.ind (P := λ vs ds => ∀ n, RpL K kd O H (vs.take n) (ds.take n)) (λ n => by rw [List.take_nil, List.take_nil]; exact .nil) (λ a _ ih n => by
  cases n with
  | zero => exact .nil
  | succ n => exact .cons a (ih n)) h n
theorem RpL.drop {O : Addr -> Prop} {vs : List V} {ds : List D} (n : Nat) (h : RpL K kd O H vs ds) : RpL K kd O H (vs.drop n) (ds.drop n) :=
 RpL.ind (P := λ vs ds => ∀ n, RpL K kd O H (vs.drop n) (ds.drop n)) (λ n => by rw [List.drop_nil, List.drop_nil]; exact .nil) (λ a b ih n => by
  cases n with
  | zero => exact .cons a b
  | succ n => exact ih n) h n
theorem RpL.rep {O : Addr -> Prop} {vs : List V} {ds : List D} (h : RpL K kd O H vs ds) : ∀ k : Nat, RpL K kd O H (List.replicate k vs).flatten (List.replicate k ds).flatten
 | 0 => .nil
 | k + 1 => by
  rw [List.replicate_succ, List.replicate_succ, List.flatten_cons, List.flatten_cons]
  exact h.append (RpL.rep h k)
end
inductive Vw (K : zC) (kd : KD) (O : Addr -> Prop) (H : Hp) : V -> D -> Prop
 | non : Vw K kd O H .non .non
 | bl (b : Bool) : Vw K kd O H (.bl b) (.bl b)
 | int (i : Int) : Vw K kd O H (.int i) (.int i)
 | str (x : Str) : Vw K kd O H (.str x) (.str x)
 | tup {a : Addr} {vs : List V} {ds : List D} : Rp K kd O H (.ref a) (.tup ds) -> SqT K H a vs -> RpL K kd O H vs ds -> Vw K kd O H (.ref a) (.tup ds)
 | lst {a : Addr} {vs : List V} {ds : List D} : RdL K H a vs -> RpL K kd O H vs ds -> Vw K kd O H (.ref a) (.lst ds)
 | dct {a : Addr} {kvs : List (Key × V)} {ds : List (Key × D)} : (Rd H a (.dK kvs) \/ kd a kvs) -> RpM K kd O H kvs ds -> Vw K kd O H (.ref a) (.dct ds)
 | cl (c : Str) : Vw K kd O H (.ref (kd.c c)) (.cl c)
 | ob {a dx : Addr} {c : Str} {ns : List Str} {vs : List V} {ds : List D} : H a = some (.ins (kd.c c) dx (ns.zip vs)) -> ns.length = vs.length -> RpL K kd O H vs ds -> Vw K kd O H (.ref a) (.ob c ns ds)
theorem Rp.vw {K : zC} {kd : KD} {O : Addr -> Prop} {H : Hp} {v : V} {d : D} (h : Rp K kd O H v d) : Vw K kd O H v d := by
 cases h with
 | non => exact .non
 | bl b => exact .bl b
 | int i => exact .int i
 | str x => exact .str x
 | tup n h r => exact .tup (.tup n h r) (.inl h) r
 | tupK a b c e f r => exact .tup (.tupK a b c e f r) (.inr ⟨_, _, _, a, b, c, e, f⟩) r
 | lst n h r => exact .lst (.inl h) r
 | lstK a e f r => exact .lst (.inr ⟨_, _, a, e, f⟩) r
 | dct n h r => exact .dct (.inl h) r
 | dctK h r => exact .dct (.inr h) r
 | cl c => exact .cl c
 | ob n h l r => exact .ob h l r
theorem _root_.L2.RdL.sq {K : zC} {H : Hp} {a : Addr} {xs : List V} (h : RdL K H a xs) : SqL K H a xs := by
 rcases h with h | ⟨its, n, k, z, r⟩
 · exact .inl h
 · exact .inr ⟨_, its, n, k, rfl, rfl, rfl, z, r⟩
theorem zgh {X : Cx} {pins : List (Addr × Obj)} {σ : St} {H : Hp} {s : Shared} {a : Addr} {xs : List V} (I : Inv X pins σ H s) (h : RdL X.K H a xs) :
 xs.length <= sizeLine /\ ∃ (its : List Value) (n : Nat), Vals xs its /\ s.heap.get? a = some { cls := .type "list", data := .seq its.toArray n } := by
 rcases h with h | ⟨its, n, k, z, r⟩
 · exact h.ok I.hok
 · refine ⟨by rw [r.length]; simpa using z, its.toList, n, r, by simpa using I.kIn _ _ k⟩
theorem Rp.cl_eq {K : zC} {kd : KD} {O : Addr -> Prop} {H : Hp} {C : Addr} {c : Str} (h : Rp K kd O H (.ref C) (.cl c)) : C = kd.c c := by
 cases h; rfl
def zH : D -> Bool
 | .non => true | .bl _ => true | .int _ => true | .str _ => true | _ => false
theorem Rp.flat {K : zC} {kd : KD} {O O' : Addr -> Prop} {H H' : Hp} {v : V} {d : D} (h : Rp K kd O H v d) (e : zH d = true) : Rp K kd O' H' v d := by
 cases h with
 | non => exact .non
 | bl b => exact .bl b
 | int i => exact .int i
 | str x => exact .str x
 | _ => cases e
inductive Kind where
 | ls | tp | dc (ks : List Key) | ob (c : Str) (ns : List Str) | fz (ks : List Key)
inductive O where
 | lf (st : Bool) (d : D) | nd (k : Kind) (os : List O)
abbrev lfs (st : Bool) (d : D) : O := .lf (zH d || st) d
mutual
inductive Ro (L : Bool -> V -> D -> Prop) (N : Addr -> Prop) (H : Hp) : V -> O -> List Addr -> Prop
 | lf {st : Bool} {v : V} {d : D} : L st v d -> Ro L N H v (.lf st d) []
 | ls {a : Addr} {vs : List V} {os : List O} {fp : List Addr} : H a = some (.lst vs) -> RoL L N H vs os fp -> Ro L N H (.ref a) (.nd .ls os) (a :: fp)
 | dc {a : Addr} {ks : List Key} {vs : List V} {os : List O} {fp : List Addr} : H a = some (.dK (ks.zip vs)) -> ks.length = vs.length -> RoL L N H vs os fp -> Ro L N H (.ref a) (.nd (.dc ks) os) (a :: fp)
 | ob {a dx C : Addr} {c : Str} {ns : List Str} {vs : List V} {os : List O} {fp : List Addr} : L true (.ref C) (.cl c) -> H a = some (.ins C dx (ns.zip vs)) -> ns.length = vs.length -> RoL L N H vs os fp -> Ro L N H (.ref a) (.nd (.ob c ns) os) (a :: fp)
 | tp {a : Addr} {vs : List V} {os : List O} {fp : List Addr} : N a -> H a = some (.tup vs) -> RoL L N H vs os fp -> Ro L N H (.ref a) (.nd .tp os) fp
 | fz {a : Addr} {o : Obj} {ks : List Key} {vs : List V} {os : List O} {fp : List Addr} : N a -> H a = some (.frz o (.dK (ks.zip vs))) -> ks.length = vs.length -> RoL L N H vs os fp -> Ro L N H (.ref a) (.nd (.fz ks) os) fp
inductive RoL (L : Bool -> V -> D -> Prop) (N : Addr -> Prop) (H : Hp) : List V -> List O -> List Addr -> Prop
 | nil : RoL L N H [] [] []
 | cons {v : V} {o : O} {vs : List V} {os : List O} {fp fq : List Addr} : Ro L N H v o fp -> RoL L N H vs os fq -> RoL L N H (v :: vs) (o :: os) (fp ++ fq)
end
mutual
def O.toD : O -> D
 | .lf _ d => d
 | .nd .ls os => .lst (O.toDs os)
 | .nd .tp os => .tup (O.toDs os)
 | .nd (.dc ks) os => .dct (ks.zip (O.toDs os))
 | .nd (.fz ks) os => .dct (ks.zip (O.toDs os))
 | .nd (.ob c ns) os => .ob c ns (O.toDs os)
def O.toDs : List O -> List D
 | [] => []
 | o :: r => o.toD :: O.toDs r
end
mutual
def O.str : O -> Bool
 | .lf st _ => st
 | .nd _ os => O.strs os
def O.strs : List O -> Bool
 | [] => true
 | o :: r => o.str && O.strs r
end
section
variable {L L' : Bool -> V -> D -> Prop} {N N' : Addr -> Prop} {H H' : Hp} {K : zC} {kd : KD} {Ob : Addr -> Prop}
theorem Ro.mono (hL : ∀ st v d, L st v d -> L' st v d) (hN : ∀ a u, N a -> H a = some u -> N' a /\ H' a = some u) {v : V} {o : O} {fp : List Addr} (k : ∀ a ∈ fp, ∀ u, H a = some u -> H' a = some u) (h : Ro L N H v o fp) : Ro L' N' H' v o fp :=
 Ro.rec (motive_1 := λ v o fp _ => (∀ a ∈ fp, ∀ u, H a = some u -> H' a = some u) -> Ro L' N' H' v o fp) (motive_2 := λ vs os fp _ => (∀ a ∈ fp, ∀ u, H a = some u -> H' a = some u) -> RoL L' N' H' vs os fp)
  (λ h _ => .lf (hL _ _ _ h)) (λ h _ r k => .ls (k _ zzC _ h) (r λ a m => k a (zzA _ m))) (λ h l _ r k => .dc (k _ zzC _ h) l (r λ a m => k a (zzA _ m))) (λ c h l _ r k => .ob (hL _ _ _ c) (k _ zzC _ h) l (r λ a m => k a (zzA _ m))) (λ n h _ r k => .tp (hN _ _ n h).1 (hN _ _ n h).2 (r k)) (λ n h l _ r k => .fz (hN _ _ n h).1 (hN _ _ n h).2 l (r k))
  (λ _ => .nil) (λ _ _ h r k => .cons (h λ a m => k a (zzM _ m)) (r λ a m => k a (zzI _ m))) h k
theorem RoL.ind {P : List V -> List O -> List Addr -> Prop} (h0 : P [] [] []) (h1 : ∀ {v o vs os fp fq}, Ro L N H v o fp -> RoL L N H vs os fq -> P vs os fq -> P (v :: vs) (o :: os) (fp ++ fq)) {vs : List V} {os : List O} {fp : List Addr} (h : RoL L N H vs os fp) : P vs os fp :=
 RoL.rec (motive_1 := λ _ _ _ _ => True) (motive_2 := λ vs os fp _ => P vs os fp) (λ _ => ⟨⟩) (λ _ _ _ => ⟨⟩) (λ _ _ _ _ => ⟨⟩) (λ _ _ _ _ _ => ⟨⟩) (λ _ _ _ _ => ⟨⟩) (λ _ _ _ _ _ => ⟨⟩) h0 (λ a r _ ih => h1 a r ih) h
theorem RoL.mono (hL : ∀ st v d, L st v d -> L' st v d) (hN : ∀ a u, N a -> H a = some u -> N' a /\ H' a = some u) {vs : List V} {os : List O} {fp : List Addr} (k : ∀ a ∈ fp, ∀ u, H a = some u -> H' a = some u) (h : RoL L N H vs os fp) : RoL L' N' H' vs os fp :=
 RoL.ind (P := λ vs os fp => (∀ a ∈ fp, ∀ u, H a = some u -> H' a = some u) -> RoL L' N' H' vs os fp) (λ _ => .nil) (λ h _ r k => .cons (Ro.mono hL hN (λ a m => k a (zzM _ m)) h) (r λ a m => k a (zzI _ m))) h k
theorem Y0 : ∀ {ks : List Key} {vs : List V} {ds : List D}, RpL K kd Ob H vs ds -> ks.length = vs.length -> RpM K kd Ob H (ks.zip vs) (ks.zip ds)
 | [], _, _, _, _ => .nil
 | _ :: _, _, _, .nil, e => by simp at e
 | _ :: _, _, _, .cons h r, e => .cons h (Y0 r (by simpa using e))
theorem Ro.rp (b : Bool) (hL : ∀ st v d, (b = true -> st = true) -> L st v d -> Rp K kd Ob H v d) (hN : ∀ a, N a -> ¬ Ob a) {v : V} {o : O} {fp : List Addr} (s : b = true -> o.str = true) (k : ∀ a ∈ fp, ¬ Ob a) (h : Ro L N H v o fp) : Rp K kd Ob H v o.toD :=
 Ro.rec (motive_1 := λ v o fp _ => (b = true -> o.str = true) -> (∀ a ∈ fp, ¬ Ob a) -> Rp K kd Ob H v o.toD) (motive_2 := λ vs os fp _ => (b = true -> O.strs os = true) -> (∀ a ∈ fp, ¬ Ob a) -> RpL K kd Ob H vs (O.toDs os))
  (λ h s _ => hL _ _ _ s h) (λ h _ r s k => .lst (k _ zzC) (.inl h) (r s λ a m => k a (zzA _ m))) (λ h l _ r s k => .dct (k _ zzC) (.inl h) (Y0 (r s λ a m => k a (zzA _ m)) l)) (λ c h l _ r s k => by
   have e := (hL _ _ _ (λ _ => rfl) c).cl_eq
   subst e
   exact .ob (k _ zzC) h l (r s λ a m => k a (zzA _ m))) (λ n h _ r s k => .tup (hN _ n) (.inl h) (r s k)) (λ n h l _ r s k => .dct (hN _ n) (.inr ⟨_, h⟩) (Y0 (r s k) l))
  (λ _ _ => .nil) (λ _ _ h r s k => .cons (h (λ z => ((zzZ _ _).mp (s z)).1) λ a m => k a (zzM _ m)) (r (λ z => ((zzZ _ _).mp (s z)).2) λ a m => k a (zzI _ m))) h s k
theorem RoL.rp (b : Bool) (hL : ∀ st v d, (b = true -> st = true) -> L st v d -> Rp K kd Ob H v d) (hN : ∀ a, N a -> ¬ Ob a) {vs : List V} {os : List O} {fp : List Addr} (s : b = true -> O.strs os = true) (k : ∀ a ∈ fp, ¬ Ob a) (h : RoL L N H vs os fp) : RpL K kd Ob H vs (O.toDs os) :=
 RoL.ind (P := λ vs os fp => (b = true -> O.strs os = true) -> (∀ a ∈ fp, ¬ Ob a) -> RpL K kd Ob H vs (O.toDs os)) (λ _ _ => .nil) (λ h _ r s k => .cons (Ro.rp b hL hN (λ z => ((zzZ _ _).mp (s z)).1) (λ a m => k a (zzM _ m)) h) (r (λ z => ((zzZ _ _).mp (s z)).2) λ a m => k a (zzI _ m))) h s k
theorem RoL.length {vs : List V} {os : List O} {fp : List Addr} (h : RoL L N H vs os fp) : vs.length = os.length := RoL.ind (P := λ vs os _ => vs.length = os.length) rfl (λ _ _ r => congrArg (· + 1) r) h
theorem zaM : ∀ os : List O, (O.toDs os).length = os.length
 | [] => rfl
 | _ :: r => congrArg (· + 1) (zaM r)
theorem RoL.append {vs ws : List V} {os ps : List O} {f g : List Addr} (h : RoL L N H vs os f) (r : RoL L N H ws ps g) : RoL L N H (vs ++ ws) (os ++ ps) (f ++ g) := RoL.ind (P := λ vs os f => RoL L N H (vs ++ ws) (os ++ ps) (f ++ g)) r (λ h _ t => by rw [zxA]; exact .cons h t) h
theorem RoL.one {v : V} {o : O} {f : List Addr} (h : Ro L N H v o f) : RoL L N H [v] [o] f := by
 have := RoL.cons h (RoL.nil (L := L) (N := N) (H := H))
 rw [zyB] at this
 exact this
theorem RoL.at_ {k : Nat} {o : O} : ∀ {vs : List V} {os : List O} {fp : List Addr}, RoL L N H vs os fp -> os[k]? = some o -> ∃ v f fo g, vs[k]? = some v /\ fp = f ++ (fo ++ g) /\ Ro L N H v o fo /\ RoL L N H (vs.take k) (os.take k) f /\ RoL L N H (vs.drop (k + 1)) (os.drop (k + 1)) g := by
 induction k with
 | zero =>
  intro vs os fp h e
  cases h with
  | nil => cases e
  | cons h r =>
   rw [List.getElem?_cons_zero] at e
   cases e
   exact ⟨_, [], _, _, rfl, rfl, h, .nil, r⟩
 | succ k ih =>
  intro vs os fp h e
  cases h with
  | nil => cases e
  | cons h r =>
   rw [List.getElem?_cons_succ] at e
   obtain ⟨v, f, fo, g, e1, e2, h1, h2, h3⟩ := ih r e
   subst e2
   exact ⟨v, _, fo, g, by rw [List.getElem?_cons_succ]; exact e1, (zxA _ _ _).symm, h1, .cons h h2, h3⟩
theorem zbm {α : Type} (l : List α) (k : Nat) : l.eraseIdx k = l.take k ++ l.drop (k + 1) := List.eraseIdx_eq_take_drop_succ l k
end
abbrev AS := List (Option O)
abbrev Ad := Nat -> List Addr
def Gw (T : List Addr) (ad : Ad) : Addr -> Prop := λ a => a ∈ T \/ ∃ i, a ∈ ad i
abbrev Lv (F B G : Addr -> Prop) (st : Bool) : Addr -> Prop := Un2 (λ a => (st = true /\ F a) \/ B a) G
abbrev Lf (K : zC) (kd : KD) (F B G : Addr -> Prop) (H : Hp) : Bool -> V -> D -> Prop := λ st v d => Rp K kd (Lv F B G st) H v d
abbrev Nf (F B G : Addr -> Prop) : Addr -> Prop := λ a => ¬ Lv F B G true a
abbrev RoS (K : zC) (kd : KD) (F B G : Addr -> Prop) (H : Hp) : V -> O -> List Addr -> Prop := Ro (Lf K kd F B G H) (Nf F B G) H
abbrev wY (K : zC) (kd : KD) (F B G : Addr -> Prop) (H : Hp) : List V -> List O -> List Addr -> Prop := RoL (Lf K kd F B G H) (Nf F B G) H
def zck (K : zC) (kd : KD) (F B G : Addr -> Prop) (H : Hp) : Option O -> Option (Option V) -> List Addr -> Prop
 | none, _, fp => fp = []
 | some o, s, fp => ∃ v, s = some (some v) /\ RoS K kd F B G H v o fp
structure Rel (K : zC) (kd : KD) (F B : Addr -> Prop) (T : List Addr) (ad : Ad) (as : AS) (σ : St) (H : Hp) : Prop where
 len : as.length = σ.length
 out : ∀ i, as.length <= i -> ad i = []
 nd : ∀ i, (ad i).Nodup
 inj : ∀ i j a, a ∈ ad i -> a ∈ ad j -> i = j
 tnd : T.Nodup
 dis : ∀ i a, a ∈ ad i -> a ∉ T
 ftr : ∀ a, F a -> H a ≠ none
 btr : ∀ a, B a -> H a ≠ none /\ ¬ F a /\ ¬ Gw T ad a
 gtr : ∀ a, Gw T ad a -> H a ≠ none /\ ¬ F a
 sl : ∀ i s, as[i]? = some s -> zck K kd F B (Gw T ad) H s σ[i]? (ad i)
inductive RV where
 | ow (o : O) | bo (i : Nat)
def wU (K : zC) (kd : KD) (F B : Addr -> Prop) (T : List Addr) (ad : Ad) (σ : St) (H : Hp) (v : V) : RV -> Prop
 | .ow o => RoS K kd F B (Gw T ad) H v o T
 | .bo i => T = [] /\ σ[i]? = some (some v)
def O.frz (o : O) : O := .lf o.str o.toD
def RV.frz : RV -> RV
 | .ow o => .ow o.frz
 | .bo i => .bo i
def O.isLf : O -> Bool
 | .lf _ _ => true
 | _ => false
def O.kl : O -> Option Bool
 | .lf st _ => some st
 | .nd _ os => if os.all O.isLf = true then some (O.strs os) else none
def RV.view (as : AS) : RV -> Option (D × Option Bool)
 | .ow o => some (o.toD, some o.str)
 | .bo i => match as[i]? with
  | some (some o) => some (o.toD, o.kl)
  | _ => none
def Obl (F B G : Addr -> Prop) : Option Bool -> Addr -> Prop
 | some st => Lv F B G st
 | none => λ _ => False
section
variable {K : zC} {kd : KD} {F B F' B' : Addr -> Prop} {G G' : Addr -> Prop} {T T' : List Addr} {ad ad1 : Ad} {as as1 : AS} {σ : St} {H H1 H' : Hp} {v : V} {r : RV} {o : O} {fp : List Addr} {vs : List V} {os : List O}
theorem RoS.grow (g : Grow G H G' H') (k : ∀ a ∈ fp, ∀ u, H a = some u -> H' a = some u) (h : RoS K kd F B G H v o fp) : RoS K kd F B G' H' v o fp :=
 Ro.mono (λ st v d r => Rp.grow g r) (λ a vs n e => ⟨λ z => z.elim (λ y => n (.inl y)) λ y => (g.own a y).elim (λ w => n (.inr w)) λ w => (by rw [w] at e; cases e), g.keep a _ e (λ w => n (.inr w))⟩) k h
theorem wY.grow (g : Grow G H G' H') (k : ∀ a ∈ fp, ∀ u, H a = some u -> H' a = some u) (h : wY K kd F B G H vs os fp) : wY K kd F B G' H' vs os fp :=
 RoL.mono (λ st v d r => Rp.grow g r) (λ a vs n e => ⟨λ z => z.elim (λ y => n (.inl y)) λ y => (g.own a y).elim (λ w => n (.inr w)) λ w => (by rw [w] at e; cases e), g.keep a _ e (λ w => n (.inr w))⟩) k h
theorem RoS.lv (g : ∀ st a, Lv F' B' G' st a -> Lv F B G st a) (h : RoS K kd F B G H v o fp) : RoS K kd F' B' G' H v o fp :=
 Ro.mono (λ st v d r => r.less (g st)) (λ a vs n e => ⟨λ z => n (g true a z), e⟩) (λ _ _ _ e => e) h
theorem wY.lv (g : ∀ st a, Lv F' B' G' st a -> Lv F B G st a) (h : wY K kd F B G H vs os fp) : wY K kd F' B' G' H vs os fp :=
 RoL.mono (λ st v d r => r.less (g st)) (λ a vs n e => ⟨λ z => n (g true a z), e⟩) (λ _ _ _ e => e) h
theorem RoS.less (g : ∀ a, G' a -> G a) (h : RoS K kd F B G H v o fp) : RoS K kd F B G' H v o fp := RoS.lv (λ _ a z => z.elim .inl λ y => .inr (g a y)) h
theorem wY.less (g : ∀ a, G' a -> G a) (h : wY K kd F B G H vs os fp) : wY K kd F B G' H vs os fp := wY.lv (λ _ a z => z.elim .inl λ y => .inr (g a y)) h
theorem Gw.drop : ∀ a, Gw [] ad a -> Gw T ad a := λ _ h => h.elim (λ z => nomatch z) .inr
theorem Rel.trk (R : Rel K kd F B T ad as σ H) (st : Bool) : ∀ a, Lv F B (Gw T ad) st a -> H a ≠ none := λ a h => by
 rcases h with (h | h) | h
 · exact R.ftr a h.2
 · exact (R.btr a h).1
 · exact (R.gtr a h).1
theorem Rel.tr (R : Rel K kd F B T ad as σ H) (lv : Option Bool) : ∀ a, Obl F B (Gw T ad) lv a -> H a ≠ none := λ a h => by
 cases lv with
 | none => exact h.elim
 | some st => exact R.trk st a h
theorem zck.lv {s : Option O} {x : Option (Option V)} (g : ∀ st a, Lv F' B' G' st a -> Lv F B G st a) (h : zck K kd F B G H s x fp) : zck K kd F' B' G' H s x fp := by
 cases s with
 | none => exact h
 | some o => obtain ⟨v, e, r⟩ := h; exact ⟨v, e, RoS.lv g r⟩
theorem zck.less {s : Option O} {x : Option (Option V)} (g : ∀ a, G' a -> G a) (h : zck K kd F B G H s x fp) : zck K kd F B G' H s x fp := h.lv (λ _ a z => z.elim .inl λ y => .inr (g a y))
theorem zck.grow {s : Option O} {x : Option (Option V)} (g : Grow G H G' H') (k : ∀ a ∈ fp, ∀ u, H a = some u -> H' a = some u) (h : zck K kd F B G H s x fp) : zck K kd F B G' H' s x fp := by
 cases s with
 | none => exact h
 | some o => obtain ⟨v, e, r⟩ := h; exact ⟨v, e, RoS.grow g k r⟩
theorem Rel.drop (R : Rel K kd F B T ad as σ H) : Rel K kd F B [] ad as σ H where
 len := R.len
 out := R.out
 nd := R.nd
 inj := R.inj
 tnd := zyG
 dis := λ _ _ _ z => nomatch z
 ftr := R.ftr
 btr := λ a h => let ⟨h1, h2, h3⟩ := R.btr a h; ⟨h1, h2, λ z => h3 (Gw.drop a z)⟩
 gtr := λ a h => R.gtr a (Gw.drop a h)
 sl := λ i s e => (R.sl i s e).less Gw.drop
theorem zgk (R : Rel K kd F B T ad as σ H) (h : RoS K kd F B (Gw T ad) H v o T) : Rp K kd (Lv F B (Gw [] ad) o.str) H v o.toD :=
 Ro.rp o.str (λ st v d hs r => r.less λ a z => z.elim (λ y => .inl (y.elim (λ x => .inl ⟨hs x.1, x.2⟩) .inr)) λ y => .inr (Gw.drop a y))
  (λ a n z => n (z.elim (λ y => .inl (y.elim (λ x => .inl ⟨rfl, x.2⟩) .inr)) λ y => .inr (Gw.drop a y))) id
  (λ a m z => by
   rcases z with (z | z) | z | ⟨i, z⟩
   · exact (R.gtr a (.inl m)).2 z.2
   · exact (R.btr a z).2.2 (.inl m)
   · cases z
   · exact R.dis i a z m) h
theorem wU.drop (R : Rel K kd F B T ad as σ H) (h : wU K kd F B T ad σ H v r) : wU K kd F B [] ad σ H v r.frz := by
 cases r with
 | ow o => exact .lf (zgk R h)
 | bo i => exact ⟨rfl, h.2⟩
theorem wU.grow (g : Grow (Gw [] ad) H (Gw [] ad1) H1) (h : wU K kd F B [] ad σ H v r) : wU K kd F B [] ad1 σ H1 v r := by
 cases r with
 | ow o => exact RoS.grow g (λ _ m => nomatch m) h
 | bo i => exact h
theorem zeh {vs : List V} {os : List O} {fp : List Addr} (h : wY K kd F B G H vs os fp) : os.all O.isLf = true -> fp = [] :=
 RoL.ind (P := λ _ os fp => os.all O.isLf = true -> fp = []) (λ _ => rfl) (λ h _ ih e => by
  rw [List.all_cons, zzZ] at e
  rw [ih e.2, zyB]
  cases h with
  | lf => rfl
  | ls => cases e.1
  | dc => cases e.1
  | ob => cases e.1
  | tp => cases e.1
  | fz => cases e.1) h
theorem zcc {st : Bool} {b : Bool} (hs : b = true -> st = true) : ∀ a, Lv F B G b a -> Lv F B G st a := λ a z => z.elim (λ y => .inl (y.elim (λ x => .inl ⟨hs x.1, x.2⟩) .inr)) .inr
theorem zaA (h : wY K kd F B G H vs os fp) (e : os.all O.isLf = true) : RpL K kd (Lv F B G (O.strs os)) H vs (O.toDs os) := by
 have := zeh h e
 subst this
 exact RoL.rp (O.strs os) (λ st v d hs r => r.less (zcc hs)) (λ a n z => n (zcc (λ _ => rfl) a z)) id (by intro a m; cases m) h
theorem Ws (h : wY K kd F B G H vs os fp) : RpL K kd (λ _ => False) H vs (O.toDs os) := RoL.rp false (λ st v d _ r => r.less λ _ z => z.elim) (λ _ _ z => z) (λ z => Bool.noConfusion z) (λ _ _ z => z) h
theorem zdP (h : RoS K kd F B G H v o fp) : Rp K kd (λ _ => False) H v o.toD := Ro.rp false (λ st v d _ r => r.less λ _ z => z.elim) (λ _ _ z => z) (λ z => Bool.noConfusion z) (λ _ _ z => z) h
theorem zcA (h : RoS K kd F B G H v o []) : Rp K kd (Lv F B G o.str) H v o.toD :=
 Ro.rp o.str (λ st v d hs r => r.less (zcc hs)) (λ a n z => n (zcc (λ _ => rfl) a z)) id (by intro a m; cases m) h
theorem RoS.vw (h : RoS K kd F B G H v o fp) : Vw K kd (Obl F B G o.kl) H v o.toD := by
 cases h with
 | lf h => exact h.vw
 | ls hH r =>
  rename_i a vs' os' fp'
  show Vw K kd (Obl F B G (if os'.all O.isLf = true then some (O.strs os') else none)) H _ (.lst (O.toDs os'))
  by_cases e : os'.all O.isLf = true
  · rw [if_pos e]; exact .lst (.inl (.inl hH)) (zaA r e)
  · rw [if_neg e]; exact .lst (.inl (.inl hH)) (Ws r)
 | dc hH l r =>
  rename_i a ks vs' os' fp'
  show Vw K kd (Obl F B G (if os'.all O.isLf = true then some (O.strs os') else none)) H _ (.dct (ks.zip (O.toDs os')))
  by_cases e : os'.all O.isLf = true
  · rw [if_pos e]; exact .dct (.inl (.inl hH)) (Y0 (zaA r e) l)
  · rw [if_neg e]; exact .dct (.inl (.inl hH)) (Y0 (Ws r) l)
 | ob hc hH l r =>
  rename_i a dx C c ns vs' os' fp'
  have ec : C = kd.c c := hc.cl_eq
  subst ec
  show Vw K kd (Obl F B G (if os'.all O.isLf = true then some (O.strs os') else none)) H _ (.ob c ns (O.toDs os'))
  by_cases e : os'.all O.isLf = true
  · rw [if_pos e]; exact .ob hH l (zaA r e)
  · rw [if_neg e]; exact .ob hH l (Ws r)
 | tp n hH r =>
  rename_i a vs' os'
  show Vw K kd (Obl F B G (if os'.all O.isLf = true then some (O.strs os') else none)) H _ (.tup (O.toDs os'))
  by_cases e : os'.all O.isLf = true
  · rw [if_pos e]
    have rl := zaA r e
    exact .tup (.tup (λ z => n (zcc (λ _ => rfl) _ z)) (.inl hH) rl) (.inl (.inl hH)) rl
  · rw [if_neg e]; exact .tup (.tup (λ z => z) (.inl hH) (Ws r)) (.inl (.inl hH)) (Ws r)
 | fz n hH l r =>
  rename_i a _ ks vs' os'
  show Vw K kd (Obl F B G (if os'.all O.isLf = true then some (O.strs os') else none)) H _ (.dct (ks.zip (O.toDs os')))
  by_cases e : os'.all O.isLf = true
  · rw [if_pos e]; exact .dct (.inl (.inr ⟨_, hH⟩)) (Y0 (zaA r e) l)
  · rw [if_neg e]; exact .dct (.inl (.inr ⟨_, hH⟩)) (Y0 (Ws r) l)
theorem wU.vw (R : Rel K kd F B [] ad as σ H) (h : wU K kd F B [] ad σ H v r) {d : D} {lv : Option Bool} (e : r.view as = some (d, lv)) : Vw K kd (Obl F B (Gw [] ad) lv) H v d := by
 cases r with
 | ow o =>
  cases e
  exact (zcA h).vw
 | bo i =>
  have e : (match as[i]? with | some (some o) => some (o.toD, o.kl) | _ => none) = some (d, lv) := e
  cases k : as[i]? with
  | none => rw [k] at e; cases e
  | some s =>
   cases s with
   | none => rw [k] at e; cases e
   | some o =>
    rw [k] at e
    cases e
    obtain ⟨w, hw, ro⟩ := R.sl i _ k
    rw [h.2] at hw
    cases hw
    exact ro.vw
theorem Rel.add {N : List Addr} (R : Rel K kd F B T ad as σ H) (hn : N.Nodup) (hl : ∀ a ∈ N, H a = none) (k : ∀ b u, H b = some u -> H' b = some u) (h1 : ∀ a ∈ N, H' a ≠ none) : Rel K kd F B (N ++ T) ad as σ H' /\ Grow (Gw T ad) H (Gw (N ++ T) ad) H' := by
 have g : Grow (Gw T ad) H (Gw (N ++ T) ad) H' := ⟨λ b u h _ => k b u h, λ b h => by
  rcases h with h | h
  · rcases zzJ.mp h with h | h
    · exact .inr (hl b h)
    · exact .inl (.inl h)
  · exact .inl (.inr h)⟩
 have kn : ∀ a, H a ≠ none -> H' a ≠ none := λ a z => by
  cases e : H a with
  | none => exact absurd e z
  | some u => rw [k a u e]; simp
 refine ⟨⟨R.len, R.out, R.nd, R.inj, ?_, λ i a m z => ?_, λ a z => kn a (R.ftr a z), λ a z => ?_, λ a z => ?_, λ i s e => (R.sl i s e).grow g λ a _ u h => k a u h⟩, g⟩
 · refine zxC.mpr ⟨hn, R.tnd, λ a m b m' e => ?_⟩
   subst e
   exact (R.gtr a (.inl m')).1 (hl a m)
 · rcases zzJ.mp z with z | z
   · exact (R.gtr a (.inr ⟨i, m⟩)).1 (hl a z)
   · exact R.dis i a m z
 · obtain ⟨b1, b2, b3⟩ := R.btr a z
   refine ⟨kn a b1, b2, λ y => ?_⟩
   rcases y with y | y
   · rcases zzJ.mp y with y | y
     · exact b1 (hl a y)
     · exact b3 (.inl y)
   · exact b3 (.inr y)
 · rcases z with z | z
   · rcases zzJ.mp z with z | z
     · exact ⟨h1 a z, λ f => R.ftr a f (hl a z)⟩
     · exact ⟨kn a (R.gtr a (.inl z)).1, (R.gtr a (.inl z)).2⟩
   · exact ⟨kn a (R.gtr a (.inr z)).1, (R.gtr a (.inr z)).2⟩
theorem Rel.more (R : Rel K kd F B T ad as σ H) (k : ∀ b u, H b = some u -> H' b = some u) : Rel K kd F B T ad as σ H' /\ Grow (Gw T ad) H (Gw T ad) H' :=
 R.add (N := []) zyG (λ _ m => nomatch m) k (λ _ m => nomatch m)
theorem Rel.news (R : Rel K kd F B [] ad as σ H) (hn : T'.Nodup) (hl : ∀ a ∈ T', H a = none) (k : ∀ b u, H b = some u -> H' b = some u) (h1 : ∀ a ∈ T', H' a ≠ none) : Rel K kd F B T' ad as σ H' /\ Grow (Gw [] ad) H (Gw T' ad) H' := by
 have := R.add hn hl k h1
 rw [zyB] at this
 exact this
end
inductive R0 where
 | im (d : D) | fl (ds : List D) | fd (kvs : List (Key × D))
def RQ (K : zC) (kd : KD) (O : Addr -> Prop) (H : Hp) (Q : VK) : R0 -> Prop
 | .im d => ∀ v H', (∀ b o, H b = some o -> H' b = some o) -> Rp K kd O H' v d -> Q v H'
 | .fl ds => ∀ l vs H', H l = none -> (∀ b o, H b = some o -> H' b = some o) -> H' l = some (.lst vs) -> RpL K kd (Un2 O (· = l)) H' vs ds -> Q (.ref l) H'
 | .fd ds => ∀ l vs H', H l = none -> (∀ b o, H b = some o -> H' b = some o) -> H' l = some (.dK vs) -> RpM K kd (Un2 O (· = l)) H' vs ds -> Q (.ref l) H'
def wrap (lv : Option Bool) : R0 -> Option RV
 | .im d => if (zH d || lv.isSome) = true then some (.ow (lfs (lv.getD false) d)) else none
 | .fl ds => if (ds.all zH || lv.isSome) = true then some (.ow (.nd .ls (ds.map (lfs (lv.getD false))))) else none
 | .fd kvs => if ((kvs.map (·.2)).all zH || lv.isSome) = true then some (.ow (.nd (.dc (kvs.map (·.1))) ((kvs.map (·.2)).map (lfs (lv.getD false))))) else none
theorem bS_ {α β : Type} {o : Option α} {f : α -> Option β} {b : β} (h : o.bind f = some b) : ∃ a, o = some a /\ f a = some b := by
 cases o with
 | none => cases h
 | some a => exact ⟨a, rfl, h⟩
theorem ite_some' {α : Type} {c : Prop} [Decidable c] {a : Option α} {b : α} (h : (if c then a else none) = some b) : c /\ a = some b := by
 by_cases hc : c
 · rw [if_pos hc] at h; exact ⟨hc, h⟩
 · rw [if_neg hc] at h; cases h
theorem zP {α : Type} {c : Prop} [Decidable c] {a b : α} (h : (if c then some a else none) = some b) : c /\ a = b := by
 by_cases hc : c
 · rw [if_pos hc] at h; cases h; exact ⟨hc, rfl⟩
 · rw [if_neg hc] at h; cases h
section
variable {K : zC} {kd : KD} {F B : Addr -> Prop} {G : Addr -> Prop} {ad : Ad} {as : AS} {σ : St} {H H' : Hp} {v : V} {r : R0} {rv : RV} {Q : VK} {lv : Option Bool}
theorem zmS {Ob : Addr -> Prop} {d : D} (h : zH d = true \/ lv.isSome = true) (hO : ∀ st, lv = some st -> ∀ a, Lv F B G st a -> Ob a) (rp : Rp K kd Ob H v d) : Lf K kd F B G H (zH d || lv.getD false) v d := by
 cases e : zH d with
 | true => exact rp.flat e
 | false =>
  rw [e] at h
  cases lv with
  | none => rcases h with h | h <;> cases h
  | some st => exact rp.less (hO st rfl)
theorem zjC {Ob : Addr -> Prop} {N : Addr -> Prop} (hO : ∀ st, lv = some st -> ∀ a, Lv F B G st a -> Ob a) {vs : List V} {ds : List D} (e : (ds.all zH || lv.isSome) = true) (h : RpL K kd Ob H vs ds) : RoL (Lf K kd F B G H) N H vs (ds.map (lfs (lv.getD false))) [] :=
 RpL.ind (P := λ vs ds => (ds.all zH || lv.isSome) = true -> RoL (Lf K kd F B G H) N H vs (ds.map (lfs (lv.getD false))) []) (λ _ => .nil) (λ {v d vs ds} h _ ih e => by
  rw [List.all_cons] at e
  have e1 : zH d = true \/ lv.isSome = true := by
   cases h1 : lv.isSome <;> cases h2 : zH d <;> simp [h1, h2] at e ⊢
  have e2 : (ds.all zH || lv.isSome) = true := by
   cases h1 : lv.isSome with
   | true => simp
   | false =>
    rw [h1, Bool.or_false, zzZ] at e
    rw [Bool.or_false]; exact e.2
  exact RoL.cons (.lf (zmS e1 hO h)) (ih e2)) h e
theorem ziE {O : Addr -> Prop} {vs : List (Key × V)} {ds : List (Key × D)} (h : RpM K kd O H vs ds) : vs = (ds.map (·.1)).zip (vs.map (·.2)) /\ RpL K kd O H (vs.map (·.2)) (ds.map (·.2)) :=
 RpM.ind (P := λ vs ds => vs = (ds.map (·.1)).zip (vs.map (·.2)) /\ RpL K kd O H (vs.map (·.2)) (ds.map (·.2))) ⟨rfl, .nil⟩ (λ h _ ih => by
  obtain ⟨h1, h2⟩ := ih
  refine ⟨?_, .cons h h2⟩
  conv => lhs; rw [h1]
  rfl) h
theorem Wo (R : Rel K kd F B [] ad as σ H) (e : wrap lv r = some rv) (q : ∀ v T' H', Rel K kd F B T' ad as σ H' -> wU K kd F B T' ad σ H' v rv -> Grow (Gw [] ad) H (Gw T' ad) H' -> Q v H') : RQ K kd (Obl F B (Gw [] ad) lv) H Q r := by
 have hO : ∀ (l : List Addr) st, lv = some st -> ∀ a, Lv F B (Gw l ad) st a -> Un2 (Obl F B (Gw [] ad) lv) (· ∈ l) a := by
  intro l st e a z
  subst e
  rcases z with z | z | z
  · exact .inl (.inl z)
  · exact .inr z
  · exact .inl (.inr (.inr z))
 cases r with
 | im d =>
  obtain ⟨c, rfl⟩ := zP e
  intro v H' k rp
  obtain ⟨R', g⟩ := R.more k
  refine q v [] H' R' (.lf (zmS ((Bool.or_eq_true _ _).mp c) (λ st e a z => ?_) rp)) g
  exact (hO [] st e a z).elim id λ m => nomatch m
 | fl ds =>
  obtain ⟨c, rfl⟩ := zP e
  intro l vs H' hl k hl' rp
  obtain ⟨R', g⟩ := R.news (T' := [l]) (by simp) (λ a m => by rw [zzO.mp m]; exact hl) k (λ a m => by rw [zzO.mp m, hl']; simp)
  exact q _ [l] H' R' (.ls hl' (zjC (λ st e a z => (hO [l] st e a z).elim .inl λ m => .inr (zzO.mp m)) c rp)) g
 | fd ds =>
  obtain ⟨c, rfl⟩ := zP e
  intro l vs H' hl k hl' rp
  obtain ⟨R', g⟩ := R.news (T' := [l]) (by simp) (λ a m => by rw [zzO.mp m]; exact hl) k (λ a m => by rw [zzO.mp m, hl']; simp)
  obtain ⟨e1, r1⟩ := ziE rp
  refine q _ [l] H' R' (.dc (vs := vs.map (·.2)) (by rw [hl', <- e1]) (by rw [zD, zD, rp.length]) (zjC (λ st e a z => (hO [l] st e a z).elim .inl λ m => .inr (zzO.mp m)) c r1)) g
end
abbrev EF := AS -> Option (RV × AS)
def al (K : zC) (kd : KD) (f : EF) : TE := λ σ H Q => ∃ F B ad as r as', Rel K kd F B [] ad as σ H /\ f as = some (r, as') /\
 ∀ v T' ad' H', Rel K kd F B T' ad' as' σ H' -> wU K kd F B T' ad' σ H' v r -> Grow (Gw [] ad) H (Gw T' ad') H' -> Q v H'
@[irreducible] def AE (X : Cx) (kd : KD) (e : Expr) (f : EF) : Prop := PE X e (al X.K kd f)
theorem yF {X : Cx} {e : Expr} {t t' : TE} (h : PE X e t) (k : ∀ σ H Q, t' σ H Q -> t σ H Q) : PE X e t' := λ pins s σ H Q I q => h pins s σ H Q I (k σ H Q q)
section
variable {K : zC} {kd : KD} {F B : Addr -> Prop} {ad : Ad} {as as1 : AS} {σ : St} {H : Hp} {r : RV} {f : EF} {P : VK}
theorem Xe (R : Rel K kd F B [] ad as σ H) (e : f as = some (r, as1)) (k : ∀ v ad1 H1, Rel K kd F B [] ad1 as1 σ H1 -> wU K kd F B [] ad1 σ H1 v r.frz -> Grow (Gw [] ad) H (Gw [] ad1) H1 -> P v H1) : al K kd f σ H P :=
 ⟨F, B, ad, as, r, as1, R, e, λ v T' ad' H' R' rv g => k v ad' H' R'.drop (wU.drop R' rv) (g.trans (Grow.less Gw.drop))⟩
end
def OpD (X : Cx) (kd : KD) (f : Value -> Value -> Sem Value) (g : D -> D -> Option R0) : Prop :=
 OpR X f (λ x y H Q => ∃ O d e r, (∀ a, O a -> H a ≠ none) /\ Vw X.K kd O H x d /\ Vw X.K kd O H y e /\ g d e = some r /\ RQ X.K kd O H Q r)
inductive VwL (K : zC) (kd : KD) (O : Addr -> Prop) (H : Hp) : List V -> List D -> Prop
 | nil : VwL K kd O H [] []
 | cons {v : V} {d : D} {vs : List V} {ds : List D} : Vw K kd O H v d -> VwL K kd O H vs ds -> VwL K kd O H (v :: vs) (d :: ds)
def CallD (X : Cx) (kd : KD) (f : Value) (g : List D -> Option R0) : Prop :=
 WM X f (λ xs H Q => ∃ O ds r, (∀ a, O a -> H a ≠ none) /\ VwL X.K kd O H xs ds /\ g ds = some r /\ RQ X.K kd O H Q r)
def IxD (X : Cx) (kd : KD) (g : D -> D -> Option R0) : Prop :=
 IxR X (λ x y H Q => ∃ O d e r, (∀ a, O a -> H a ≠ none) /\ Vw X.K kd O H x d /\ Vw X.K kd O H y e /\ g d e = some r /\ RQ X.K kd O H Q r)
def meet : Option Bool -> Option Bool -> Option Bool
 | some a, some b => some (a && b)
 | _, _ => none
theorem Obl.meet1 {F B G : Addr -> Prop} {a b : Option Bool} : ∀ x, Obl F B G (meet a b) x -> Obl F B G a x := λ x h => by
 cases a with
 | none => cases b <;> exact h.elim
 | some p =>
  cases b with
  | none => exact h.elim
  | some q => exact zcc (λ z => ((zzZ _ _).mp z).1) x h
theorem Obl.meet2 {F B G : Addr -> Prop} {a b : Option Bool} : ∀ x, Obl F B G (meet a b) x -> Obl F B G b x := λ x h => by
 cases a with
 | none => cases b <;> exact h.elim
 | some p =>
  cases b with
  | none => exact h.elim
  | some q => exact zcc (λ z => ((zzZ _ _).mp z).2) x h
theorem Vw.less {K : zC} {kd : KD} {O O' : Addr -> Prop} {H : Hp} {v : V} {d : D} (g : ∀ a, O' a -> O a) (h : Vw K kd O H v d) : Vw K kd O' H v d := by
 cases h with
 | non => exact .non
 | bl b => exact .bl b
 | int i => exact .int i
 | str x => exact .str x
 | tup r s l => exact .tup (r.less g) s (l.less g)
 | lst h l => exact .lst h (l.less g)
 | dct h l => exact .dct h (l.less g)
 | cl c => exact .cl c
 | ob h k l => exact .ob h k (l.less g)
def f2 (fa fb : EF) (g : D -> D -> Option R0) : EF := λ as => (fa as).bind λ p => (fb p.2).bind λ q => (p.1.frz.view q.2).bind λ x => (q.1.frz.view q.2).bind λ y => (g x.1 y.1).bind λ r => (wrap (meet x.2 y.2) r).bind λ z => some (z, q.2)
theorem zhG {fa fb : EF} {g : D -> D -> Option R0} {as as' : AS} {rv : RV} (h : f2 fa fb g as = some (rv, as')) :
 ∃ p as1 q x y lx ly r, fa as = some (p, as1) /\ fb as1 = some (q, as') /\ p.frz.view as' = some (x, lx) /\ q.frz.view as' = some (y, ly) /\ g x y = some r /\ wrap (meet lx ly) r = some rv := by
 unfold f2 at h
 obtain ⟨⟨p, as1⟩, h1, h⟩ := bS_ h
 obtain ⟨⟨q, as2⟩, h2, h⟩ := bS_ h
 obtain ⟨⟨x, lx⟩, h3, h⟩ := bS_ h
 obtain ⟨⟨y, ly⟩, h4, h⟩ := bS_ h
 obtain ⟨r, h5, h⟩ := bS_ h
 obtain ⟨z, h6, h⟩ := bS_ h
 cases h
 exact ⟨p, as1, q, x, y, lx, ly, r, h1, h2, h3, h4, h5, h6⟩
section
variable {X : Cx} {kd : KD} {a b c : Expr} {fa fb fc : EF} {pos : Pos}
theorem al2 {g : D -> D -> Option R0} {R2' : R2} (hr : ∀ x y H Q, (∃ O d e r, (∀ a, O a -> H a ≠ none) /\ Vw X.K kd O H x d /\ Vw X.K kd O H y e /\ g d e = some r /\ RQ X.K kd O H Q r) -> R2' x y H Q)
 {σ : St} {H : Hp} {Q : VK} (h : al X.K kd (f2 fa fb g) σ H Q) : tOp R2' (al X.K kd fa) (al X.K kd fb) σ H Q := by
 obtain ⟨F, B, ad, as, r, as', R, e, q⟩ := h
 obtain ⟨p, as1, z, x, y, lx, ly, r0, h1, h2, h3, h4, h5, h6⟩ := zhG e
 refine Xe R h1 λ v ad1 H1 R1 rv1 g1 => Xe R1 h2 λ u ad2 H2 R2 rv2 g2 => hr _ _ _ _ ?_
 exact ⟨_, x, y, r0, R2.tr _, (wU.vw R2 (rv1.grow g2) h3).less Obl.meet1, (wU.vw R2 rv2 h4).less Obl.meet2, h5, Wo R2 h6 λ w T' H' R' rv' g' => q w T' ad2 H' R' rv' ((g1.trans g2).trans g')⟩
theorem zg {op : Operator} {g : D -> D -> Option R0} (ho : OpD X kd (binaryOp op) g) (ha : AE X kd a fa) (hb' : AE X kd b fb) : AE X kd (.BinOp a op b pos) (f2 fa fb g) := by with_unfolding_all exact (yF (zqG ho ha hb') λ σ H Q h => al2 (λ _ _ _ _ z => z) h)
theorem Ys {op : CmpOp} {g : D -> D -> Option R0} (ho : OpD X kd (compareOp op) g) (ha : AE X kd a fa) (hb' : AE X kd b fb) (hm : behindInMarks op b = false) : AE X kd (.Compare a [op] [b] pos) (f2 fa fb g) := by with_unfolding_all exact (yF (zmd ho ha hb' hm) λ σ H Q h => al2 (λ _ _ _ _ z => z) h)
theorem zpB {g : D -> D -> Option R0} (ho : IxD X kd g) (ha : AE X kd a fa) (hb' : AE X kd b fb) (hm : V8 b) : AE X kd (.Subscript a b pos) (f2 fa fb g) := by with_unfolding_all exact (yF (zjn ho ha hb' hm) λ σ H Q h => al2 (λ _ _ _ _ z => z) h)
def fC (d : D) : EF := λ as => some (.ow (.lf true d), as)
def fV (i : Nat) : EF := λ as => match as[i]? with
 | some (some (.lf st d)) => some (.ow (.lf st d), as)
 | some (some (.nd _ _)) => some (.bo i, as)
 | _ => none
theorem zew {v : V} {d : D} (h : PE X a (tC v)) (hr : ∀ O H, Rp X.K kd O H v d) : AE X kd a (fC d) := by with_unfolding_all exact (yF h λ σ H Q h => by
 obtain ⟨F, B, ad, as, r, as', R, e, q⟩ := h
 cases e
 exact q v [] ad H R (.lf (hr _ _)) Grow.refl)
theorem zom {i : Nat} (h : PE X a (Vh i)) : AE X kd a (fV i) := by with_unfolding_all exact (yF h λ σ H Q h => by
 obtain ⟨F, B, ad, as, r, as', R, e, q⟩ := h
 unfold fV at e
 cases k : as[i]? with
 | none => rw [k] at e; cases e
 | some s =>
  rw [k] at e
  cases s with
  | none => cases e
  | some o =>
   obtain ⟨v, h1, h2⟩ := R.sl i _ k
   cases o with
   | lf st d =>
    cases e
    have e0 : ad i = [] := by
     generalize hfp : ad i = fp at h2
     cases h2
     rfl
    rw [e0] at h2
    exact ⟨v, h1, q v [] ad H R h2 Grow.refl⟩
   | nd kk os =>
    cases e
    exact ⟨_, h1, q _ [] ad H R ⟨rfl, h1⟩ Grow.refl⟩)
end
def xj (ad : Ad) (i : Nat) (x : List Addr) : Ad := λ j => if j = i then x else ad j
section
variable {K : zC} {kd : KD} {F B : Addr -> Prop} {T T1 T2 : List Addr} {ad ad1 : Ad} {as as1 : AS} {σ : St} {H H1 : Hp} {v : V} {r : RV} {o : O} {i : Nat}
theorem zM {x : List Addr} : xj ad i x i = x := if_pos rfl
theorem zT {j : Nat} {x : List Addr} (h : j ≠ i) : xj ad i x j = ad j := if_neg h
theorem yV : ∀ a, Gw T (xj ad i []) a -> Gw T ad a := λ a h => by
 rcases h with h | ⟨j, h⟩
 · exact .inl h
 · by_cases e : j = i
   · subst e; rw [zM] at h; cases h
   · rw [zT e] at h; exact .inr ⟨j, h⟩
theorem YJ : ∀ a, Gw [] (xj ad i T) a -> Gw T ad a := λ a h => by
 rcases h with h | ⟨j, h⟩
 · cases h
 · by_cases e : j = i
   · subst e; rw [zM] at h; exact .inl h
   · rw [zT e] at h; exact .inr ⟨j, h⟩
theorem zhd : ∀ st a, Lv F (λ a => B a \/ a ∈ T) (Gw [] ad) st a -> Lv F B (Gw T ad) st a := λ st a z => by
 rcases z with (z | z | z) | z
 · exact .inl (.inl z)
 · exact .inl (.inr z)
 · exact .inr (.inl z)
 · exact .inr (Gw.drop a z)
theorem zaz : ∀ st a, Lv F B (Gw (T1 ++ T2) ad) st a -> Lv F (λ a => B a \/ a ∈ T1) (Gw T2 ad) st a := λ st a z => by
 rcases z with (z | z) | z | z
 · exact .inl (.inl z)
 · exact .inl (.inr (.inl z))
 · rcases zzJ.mp z with z | z
   · exact .inl (.inr (.inr z))
   · exact .inr (.inl z)
 · exact .inr (.inr z)
theorem Rel.hide (R : Rel K kd F B T ad as σ H) : Rel K kd F (λ a => B a \/ a ∈ T) [] ad as σ H where
 len := R.len
 out := R.out
 nd := R.nd
 inj := R.inj
 tnd := zyG
 dis := λ _ _ _ z => nomatch z
 ftr := R.ftr
 btr := λ a h => by
  rcases h with h | h
  · obtain ⟨h1, h2, h3⟩ := R.btr a h
    exact ⟨h1, h2, λ z => h3 (Gw.drop a z)⟩
  · exact ⟨(R.gtr a (.inl h)).1, (R.gtr a (.inl h)).2, λ z => z.elim (λ m => nomatch m) λ ⟨j, y⟩ => R.dis j a y h⟩
 gtr := λ a h => R.gtr a (Gw.drop a h)
 sl := λ i s e => (R.sl i s e).lv zhd
theorem Rel.unhide (hn : T1.Nodup) (hb : ∀ a ∈ T1, ¬ B a) (R : Rel K kd F (λ a => B a \/ a ∈ T1) T2 ad as σ H) : Rel K kd F B (T1 ++ T2) ad as σ H where
 len := R.len
 out := R.out
 nd := R.nd
 inj := R.inj
 tnd := zxC.mpr ⟨hn, R.tnd, λ a m b m' e => by subst e; exact (R.btr a (.inr m)).2.2 (.inl m')⟩
 dis := λ i a m z => by
  rcases zzJ.mp z with z | z
  · exact (R.btr a (.inr z)).2.2 (.inr ⟨i, m⟩)
  · exact R.dis i a m z
 ftr := R.ftr
 btr := λ a h => by
  obtain ⟨h1, h2, h3⟩ := R.btr a (.inl h)
  refine ⟨h1, h2, λ z => ?_⟩
  rcases z with z | z
  · rcases zzJ.mp z with z | z
    · exact hb a z h
    · exact h3 (.inl z)
  · exact h3 (.inr z)
 gtr := λ a h => by
  rcases h with h | h
  · rcases zzJ.mp h with h | h
    · exact ⟨(R.btr a (.inr h)).1, (R.btr a (.inr h)).2.1⟩
    · exact R.gtr a (.inl h)
  · exact R.gtr a (.inr h)
 sl := λ i s e => (R.sl i s e).lv zaz
theorem Rel.frz (R : Rel K kd F B T ad as σ H) (h : as[i]? = some (some o)) :
 Rel K kd F B T (xj ad i []) (as.set i (some o.frz)) σ H /\ ∃ v, σ[i]? = some (some v) /\ Rp K kd (Lv F B (Gw T (xj ad i [])) o.str) H v o.toD := by
 obtain ⟨v, hv, ro⟩ := R.sl i _ h
 have rp : Rp K kd (Lv F B (Gw T (xj ad i [])) o.str) H v o.toD :=
  Ro.rp o.str (λ st v d hs r => r.less λ a z => z.elim (λ y => .inl (y.elim (λ x => .inl ⟨hs x.1, x.2⟩) .inr)) λ y => .inr (yV a y))
   (λ a n z => n (z.elim (λ y => .inl (y.elim (λ x => .inl ⟨rfl, x.2⟩) .inr)) λ y => .inr (yV a y))) id
   (λ a m z => by
    rcases z with (z | z) | z | ⟨j, z⟩
    · exact (R.gtr a (.inr ⟨i, m⟩)).2 z.2
    · exact (R.btr a z).2.2 (.inr ⟨i, m⟩)
    · exact R.dis i a m z
    · by_cases e : j = i
      · subst e; rw [zM] at z; cases z
      · rw [zT e] at z; exact e (R.inj j i a z m)) ro
 have hi : i < as.length := (zzD.mp h).1
 refine ⟨⟨by rw [zzR]; exact R.len, λ j hj => ?_, λ j => ?_, λ j k a h1 h2 => ?_, R.tnd, λ j a h1 => ?_, R.ftr, λ a h1 => ?_, λ a h1 => R.gtr a (yV a h1), λ j s e => ?_⟩, v, hv, rp⟩
 · rw [zzR] at hj
   rw [zT (by omega)]; exact R.out j hj
 · by_cases e : j = i
   · subst e; rw [zM]; exact zyG
   · rw [zT e]; exact R.nd j
 · by_cases e : j = i
   · subst e; rw [zM] at h1; cases h1
   · by_cases e' : k = i
     · subst e'; rw [zM] at h2; cases h2
     · rw [zT e] at h1; rw [zT e'] at h2; exact R.inj j k a h1 h2
 · by_cases e : j = i
   · subst e; rw [zM] at h1; cases h1
   · rw [zT e] at h1; exact R.dis j a h1
 · obtain ⟨b1, b2, b3⟩ := R.btr a h1
   exact ⟨b1, b2, λ z => b3 (yV a z)⟩
 · by_cases q : j = i
   · subst q
     rw [zyH hi] at e
     cases e
     rw [zM]
     exact ⟨v, hv, .lf rp⟩
   · rw [zzV (Ne.symm q)] at e
     rw [zT q]
     exact (R.sl j s e).less yV
theorem Rel.put (R : Rel K kd F B T ad as σ H) (hi : i < as.length) (h : RoS K kd F B (Gw T ad) H v o T) : Rel K kd F B [] (xj ad i T) (as.set i (some o)) (σ.set i (some v)) H := by
 have hi' : i < σ.length := by rw [<- R.len]; exact hi
 refine ⟨by rw [zzR, zzR]; exact R.len, λ j hj => ?_, λ j => ?_, λ j k a h1 h2 => ?_, zyG, (λ _ _ _ z => nomatch z), R.ftr, λ a h1 => ?_, λ a h1 => R.gtr a (YJ a h1), λ j s e => ?_⟩
 · rw [zzR] at hj
   rw [zT (by omega)]; exact R.out j hj
 · by_cases e : j = i
   · subst e; rw [zM]; exact R.tnd
   · rw [zT e]; exact R.nd j
 · by_cases e : j = i
   · subst e
     rw [zM] at h1
     by_cases e' : k = j
     · exact e'.symm
     · rw [zT e'] at h2
       exact (R.dis k a h2 h1).elim
   · rw [zT e] at h1
     by_cases e' : k = i
     · subst e'
       rw [zM] at h2
       exact (R.dis j a h1 h2).elim
     · rw [zT e'] at h2
       exact R.inj j k a h1 h2
 · obtain ⟨b1, b2, b3⟩ := R.btr a h1
   exact ⟨b1, b2, λ z => b3 (YJ a z)⟩
 · by_cases q : j = i
   · subst q
     rw [zyH hi] at e
     cases e
     rw [zM, zyH hi']
     exact ⟨v, rfl, h.less YJ⟩
   · rw [zzV (Ne.symm q)] at e
     rw [zT q, zzV (Ne.symm q)]
     exact (R.sl j s e).less YJ
def toO (as : AS) : RV -> Option (O × AS)
 | .ow o => some (o, as)
 | .bo i => match as[i]? with
  | some (some o) => some (o.frz, as.set i (some o.frz))
  | _ => none
theorem zcd {as' : AS} (R : Rel K kd F B T ad as σ H) (h : wU K kd F B T ad σ H v r) (e : toO as r = some (o, as')) : ∃ ad', Rel K kd F B T ad' as' σ H /\ RoS K kd F B (Gw T ad') H v o T /\ ∀ a, Gw T ad' a -> Gw T ad a := by
 cases r with
 | ow o' => cases e; exact ⟨ad, R, h, λ _ z => z⟩
 | bo i =>
  have e : (match as[i]? with | some (some o) => some (o.frz, as.set i (some o.frz)) | _ => none) = some (o, as') := e
  cases k : as[i]? with
  | none => rw [k] at e; cases e
  | some s =>
   cases s with
   | none => rw [k] at e; cases e
   | some o1 =>
    rw [k] at e
    cases e
    obtain ⟨hT, hs⟩ := h
    subst hT
    obtain ⟨R', w, hw, rp⟩ := R.frz k
    rw [hs] at hw
    cases hw
    exact ⟨_, R', .lf rp, yV⟩
end
abbrev TF := AS -> Option (Bool × AS)
def alT (K : zC) (kd : KD) (f : TF) : TT := λ σ H Q => ∃ F B ad as b as', Rel K kd F B [] ad as σ H /\ f as = some (b, as') /\
 ∀ ad' H', Rel K kd F B [] ad' as' σ H' -> Grow (Gw [] ad) H (Gw [] ad') H' -> Q b H'
@[irreducible] def AT (X : Cx) (kd : KD) (e : Expr) (f : TF) : Prop := PT X e (alT X.K kd f)
@[irreducible] def AW (X : Cx) (kd : KD) (e : Expr) (f : TF) : Prop := PW X e (alT X.K kd f)
def truth : D -> Option Bool
 | .non => some false
 | .bl b => some b
 | .int i => some (i != 0)
 | .str x => if x.length <= sizeLine then some ((x.length : Int) != 0) else none
 | .tup ds => some (!ds.isEmpty)
 | .lst ds => some (!ds.isEmpty)
 | _ => none
def fT (f : EF) : TF := λ as => (f as).bind λ p => (p.1.frz.view p.2).bind λ x => (truth x.1).bind λ b => some (b, p.2)
def zic (f g : TF) : TF := λ as => (f as).bind λ p => if p.1 = true then some (true, p.2) else g p.2
def zbn (f : TF) : TF := λ as => (f as).bind λ p => some (!p.1, p.2)
def asI : D -> Option Int
 | .int i => some i
 | _ => none
def asS : D -> Option Str
 | .str i => some i
 | _ => none
def asL : D -> Option (List D)
 | .lst i => some i
 | _ => none
def asT : D -> Option (List D)
 | .tup i => some i
 | _ => none
theorem Xk {d : D} {i : List D} (e : asL d = some i) : d = .lst i := by
 cases d with
 | lst j => cases e; rfl
 | _ => cases e
theorem zjr {d : D} {i : List D} (e : asT d = some i) : d = .tup i := by
 cases d with
 | tup j => cases e; rfl
 | _ => cases e
theorem zdN {d : D} {c : Int} (h : asI d = some c) : d = .int c := by
 cases d with
 | int i => cases h; rfl
 | _ => cases h
def asB : D -> Option Bool
 | .bl i => some i
 | _ => none
theorem znW {d : D} {c : Bool} (h : asB d = some c) : d = .bl c := by
 cases d with
 | bl i => cases h; rfl
 | _ => cases h
def rvD : RV -> Option D
 | .ow (.lf _ d) => some d
 | _ => none
theorem zjv {r : RV} {d : D} (h : rvD r = some d) : ∃ st, r = .ow (.lf st d) := by
 cases r with
 | bo i => cases h
 | ow o =>
  cases o with
  | nd k os => cases h
  | lf st d => cases h; exact ⟨st, rfl⟩
def rvB (r : RV) : Option Bool := (rvD r).bind asB
theorem zjm {r : RV} {c : Bool} (h : rvB r = some c) : ∃ st, r = .ow (.lf st (.bl c)) := by
 obtain ⟨d, h1, h⟩ := bS_ h
 cases znW h
 exact zjv h1
def rvI (r : RV) : Option Int := (rvD r).bind asI
theorem znl {r : RV} {c : Int} (h : rvI r = some c) : ∃ st, r = .ow (.lf st (.int c)) := by
 obtain ⟨d, h1, h⟩ := bS_ h
 cases zdN h
 exact zjv h1
def zot {α : Type} : List α -> Option (α × α)
 | [a, b] => some (a, b)
 | _ => none
theorem zhx {α : Type} {os : List α} {p : α × α} (h : zot os = some p) : os = [p.1, p.2] := by
 cases os with
 | nil => cases h
 | cons x r =>
  cases r with
  | nil => cases h
  | cons y r =>
   cases r with
   | nil => cases h; rfl
   | cons _ _ => cases h
def zib (f g : EF) : EF := λ as => (f as).bind λ p => (rvB p.1).bind λ c => if c = true then g p.2 else some (.ow (.lf true (.bl false)), p.2)
def zqz (f : EF) : EF := λ as => (f as).bind λ p => (rvB p.1).bind λ c => some (.ow (.lf true (.bl (!c))), p.2)
section
variable {X : Cx} {kd : KD} {a b c : Expr} {fa fb : EF} {ta tb : TF} {pos : Pos} {es rest : List Expr}
theorem zgs {e : Expr} {t t' : TT} (h : PT X e t) (k : ∀ σ H Q, t' σ H Q -> t σ H Q) : PT X e t' := λ pins s σ H Q I q => h pins s σ H Q I (k σ H Q q)
theorem zoC {e : Expr} {t t' : TT} (h : PW X e t) (k : ∀ σ H Q, t' σ H Q -> t σ H Q) : PW X e t' := λ w pins s σ H Q I q => h w pins s σ H Q I (k σ H Q q)
theorem znJ {O : Addr -> Prop} {H : Hp} {v : V} {d : D} {k : Bool} (h : Vw X.K kd O H v d) (e : truth d = some k) : zol X.K v H k := by
 cases h with
 | non => cases e; rfl
 | bl b => cases e; rfl
 | int i => cases e; rfl
 | str x =>
  have e : (if x.length <= sizeLine then some ((x.length : Int) != 0) else none) = some k := e
  by_cases hl : x.length <= sizeLine
  · rw [if_pos hl] at e; cases e; exact ⟨hl, rfl⟩
  · rw [if_neg hl] at e; cases e
 | tup r hs hr =>
  cases e
  refine .inr (.inl ⟨_, hs, ?_⟩)
  cases hr <;> rfl
 | lst hs hr =>
  cases e
  refine .inl ⟨_, hs.sq, ?_⟩
  cases hr <;> rfl
 | dct => cases e
 | cl => cases e
 | ob => cases e
theorem zgH (ha : AE X kd a fa) (he : ∀ whole, isTrue a X.env whole = (do let v <- whole; standAt a.pos; holding [v] (truthy v))) : AT X kd a (fT fa) := by with_unfolding_all exact (zgs (zja ha he) λ σ H Q h => by
 obtain ⟨F, B, ad, as, bb, as', R, e, q⟩ := h
 obtain ⟨⟨p, as1⟩, h1, e⟩ := bS_ (show (fa as).bind _ = _ from e)
 obtain ⟨⟨d, lv⟩, h2, e⟩ := bS_ e
 obtain ⟨k, h3, e⟩ := bS_ e
 cases e
 exact Xe R h1 λ v ad1 H1 R1 rv1 g1 => ⟨_, znJ (wU.vw R1 rv1 h2) h3, q ad1 H1 R1 g1⟩)
theorem yG {op : CmpOp} {g : D -> D -> Option R0} (ho : OpD X kd (compareOp op) g) (hg : ∀ x y r, g x y = some r -> ∃ k, r = .im (.bl k)) (ha : AE X kd a fa) (hb : AE X kd b fb) (hm : behindInMarks op b = false) :
 AT X kd (.Compare a [op] [b] pos) (fT (f2 fa fb g)) := by with_unfolding_all exact (zgs (zlx ho ha hb hm) λ σ H Q h => by
 obtain ⟨F, B, ad, as, bb, as', R, e, q⟩ := h
 obtain ⟨⟨p, as1⟩, h1, e⟩ := bS_ (show (f2 fa fb g as).bind _ = _ from e)
 obtain ⟨⟨d, lv⟩, h2, e⟩ := bS_ e
 obtain ⟨k, h3, e⟩ := bS_ e
 cases e
 obtain ⟨_, _, _, x, y, _, _, r0, _, _, _, _, hp, hw⟩ := zhG h1
 obtain ⟨k', rfl⟩ := hg _ _ _ hp
 cases hw
 cases h2
 cases h3
 refine al2 (λ _ _ _ _ z => z) ⟨F, B, ad, as, _, _, R, h1, λ v T' ad' H' R' rv g' => ?_⟩
 generalize hT : T' = T2 at rv R' g'
 cases rv with
 | lf rp =>
  cases rp
  exact ⟨_, rfl, q ad' H' R' g'⟩)
theorem zfJ (ha : AT X kd a ta) : AT X kd (.UnaryOp .Not a pos) (zbn ta) := by with_unfolding_all exact (zgs (zpj ha) λ σ H Q h => by
 obtain ⟨F, B, ad, as, bb, as', R, e, q⟩ := h
 obtain ⟨⟨p, as1⟩, h1, e⟩ := bS_ (show (ta as).bind _ = _ from e)
 cases e
 exact ⟨F, B, ad, as, p, _, R, h1, λ ad' H' R' g => q ad' H' R' g⟩)
theorem zcV (ha : AT X kd a ta) : AW X kd (.BoolOp .Or [a] pos) ta := by with_unfolding_all exact (zoZ ha)
theorem zjw (ha : AT X kd a ta) (hb : AW X kd (.BoolOp .Or (b :: rest) pos) tb) : AW X kd (.BoolOp .Or (a :: b :: rest) pos) (zic ta tb) := by with_unfolding_all exact (zoC (zqb ha hb) λ σ H Q h => by
 obtain ⟨F, B, ad, as, bb, as', R, e, q⟩ := h
 obtain ⟨⟨p, as1⟩, h1, e⟩ := bS_ (show (ta as).bind _ = _ from e)
 refine ⟨F, B, ad, as, p, as1, R, h1, λ ad' H' R' g => ?_⟩
 cases p with
 | false => exact ⟨F, B, ad', as1, bb, as', R', e, λ ad2 H2 R2 g2 => q ad2 H2 R2 (g.trans g2)⟩
 | true => cases e; exact q ad' H' R' g)
theorem AW.at_ {e : Expr} (h : AW X kd e ta) : AT X kd e ta := by with_unfolding_all exact (PW.pt h)
theorem znb {K : zC} {F B : Addr -> Prop} {T : List Addr} {ad : Ad} {σ : St} {H : Hp} {v : V} {st c : Bool} (h : wU K kd F B T ad σ H v (.ow (.lf st (.bl c)))) : T = [] /\ v = .bl c := by
 have h : RoS K kd F B (Gw T ad) H v (.lf st (.bl c)) T := h
 generalize hT : Gw T ad = G at h
 cases h with
 | lf rp => cases rp; exact ⟨rfl, rfl⟩
theorem zgl {op} (ha : AE X kd a fa) : AE X kd (.BoolOp op [a] pos) fa := by with_unfolding_all exact (zoO ha)
theorem zgu (ha : AE X kd a fa) (hb : AE X kd (.BoolOp .And (b :: rest) pos) fb) : AE X kd (.BoolOp .And (a :: b :: rest) pos) (zib fa fb) := by with_unfolding_all exact (yF (zoJ ha hb) λ σ H Q h => by
 obtain ⟨F, B, ad, as, r, as', R, e, q⟩ := h
 obtain ⟨⟨p, as1⟩, h1, e⟩ := bS_ (show (fa as).bind _ = _ from e)
 refine ⟨F, B, ad, as, p, as1, R, h1, λ v T' ad' H' R' rv g => ?_⟩
 obtain ⟨k, e1, e⟩ := bS_ e
 obtain ⟨st, rfl⟩ := zjm e1
 obtain ⟨rfl, rfl⟩ := znb rv
 cases k with
 | true => exact ⟨true, rfl, ⟨F, B, ad', as1, r, as', R', e, λ v T2 ad2 H2 R2 rv g2 => q v T2 ad2 H2 R2 rv (g.trans g2)⟩⟩
 | false =>
  cases e
  exact ⟨false, rfl, q _ [] ad' H' R' (.lf (.bl false)) g⟩)
theorem znN (ha : AE X kd a fa) : AE X kd (.UnaryOp .Not a pos) (zqz fa) := by with_unfolding_all exact (yF (zns ha) λ σ H Q h => by
 obtain ⟨F, B, ad, as, r, as', R, e, q⟩ := h
 obtain ⟨⟨p, as1⟩, h1, e⟩ := bS_ (show (fa as).bind _ = _ from e)
 refine ⟨F, B, ad, as, p, as1, R, h1, λ v T' ad' H' R' rv g => ?_⟩
 obtain ⟨k, e1, e⟩ := bS_ e
 obtain ⟨st, rfl⟩ := zjm e1
 obtain ⟨rfl, rfl⟩ := znb rv
 cases e
 exact ⟨k, rfl, q _ [] ad' H' R' (.lf (.bl _)) g⟩)
end
abbrev AF := AS -> Option (List RV × AS)
inductive RVs (K : zC) (kd : KD) (F B : Addr -> Prop) (ad : Ad) (σ : St) (H : Hp) : List V -> List RV -> Prop
 | nil : RVs K kd F B ad σ H [] []
 | cons {v : V} {r : RV} {vs : List V} {rs : List RV} : wU K kd F B [] ad σ H v r -> RVs K kd F B ad σ H vs rs -> RVs K kd F B ad σ H (v :: vs) (r :: rs)
def alA (K : zC) (kd : KD) (f : AF) : TA := λ σ H Q => ∃ F B ad as rs as', Rel K kd F B [] ad as σ H /\ f as = some (rs, as') /\
 ∀ vs ad' H', Rel K kd F B [] ad' as' σ H' -> RVs K kd F B ad' σ H' vs rs -> Grow (Gw [] ad) H (Gw [] ad') H' -> Q vs H'
@[irreducible] def AA (X : Cx) (kd : KD) (es : List Expr) (f : AF) : Prop := PA X es (alA X.K kd f)
def aN : AF := λ as => some ([], as)
def aC (fa : EF) (fr : AF) : AF := λ as => (fa as).bind λ p => (fr p.2).bind λ q => some (p.1.frz :: q.1, q.2)
theorem zef {X : Cx} {e : List Expr} {t t' : TA} (h : PA X e t) (k : ∀ σ H Q, t' σ H Q -> t σ H Q) : PA X e t' := λ pos pins s σ H Q I q => h pos pins s σ H Q I (k σ H Q q)
abbrev DF := AS -> Option (List O × AS)
def alD (K : zC) (kd : KD) (f : DF) : TA := λ σ H Q => ∃ F B ad as os as', Rel K kd F B [] ad as σ H /\ f as = some (os, as') /\
 ∀ vs T' ad' H', Rel K kd F B T' ad' as' σ H' -> wY K kd F B (Gw T' ad') H' vs os T' -> Grow (Gw [] ad) H (Gw T' ad') H' -> Q vs H'
@[irreducible] def AD (X : Cx) (kd : KD) (es : List Expr) (f : DF) : Prop := PA X es (alD X.K kd f)
def dN : DF := λ as => some ([], as)
def dC (fa : EF) (fr : DF) : DF := λ as => (fa as).bind λ p => (toO p.2 p.1).bind λ x => (fr x.2).bind λ q => some (x.1 :: q.1, q.2)
def views (as : AS) : List RV -> Option (List D × Option Bool)
 | [] => some ([], some true)
 | r :: rs => (r.view as).bind λ x => (views as rs).bind λ y => some (x.1 :: y.1, meet x.2 y.2)
def fP (fr : AF) (g : List D -> Option R0) : EF := λ as => (fr as).bind λ p => (views p.2 p.1).bind λ x => (g x.1).bind λ r => (wrap x.2 r).bind λ z => some (z, p.2)
def zjN (as : AS) : RV -> Option (Bool × D)
 | .ow o => some (zH o.toD || o.str, o.toD)
 | .bo i => match as[i]? with
  | some (some o) => some (false, o.toD)
  | _ => none
def Xa (as : AS) : List RV -> Option (List (Bool × D))
 | [] => some []
 | r :: rs => (zjN as r).bind λ x => (Xa as rs).bind λ y => some (x :: y)
def zO (fr : AF) (g : List (Bool × D) -> Option O) : EF := λ as => (fr as).bind λ p => (Xa p.2 p.1).bind λ x => (g x).bind λ o => some (.ow o, p.2)
def RQO (K : zC) (kd : KD) (F : Addr -> Prop) (H : Hp) (Q : VK) (o : O) : Prop :=
 ∀ v T H', T.Nodup -> (∀ a ∈ T, H a = none) -> (∀ b u, H b = some u -> H' b = some u) -> (∀ a ∈ T, H' a ≠ none) -> Ro (λ _ v d => Rp K kd (Un2 F (· ∈ T)) H' v d) (λ a => ¬ Un2 F (· ∈ T) a) H' v o T -> Q v H'
inductive RpA (K : zC) (kd : KD) (F : Addr -> Prop) (H : Hp) : List V -> List (Bool × D) -> Prop
 | nil : RpA K kd F H [] []
 | cons {v : V} {st : Bool} {d : D} {vs : List V} {ds : List (Bool × D)} : Rp K kd (λ a => st = true /\ F a) H v d -> RpA K kd F H vs ds -> RpA K kd F H (v :: vs) ((st, d) :: ds)
def spD (K : zC) (kd : KD) (g : List (Bool × D) -> Option O) : Sp := λ vs H Q _ => ∃ F ds o, (∀ a, F a -> H a ≠ none) /\ RpA K kd F H vs ds /\ g ds = some o /\ RQO K kd F H Q o
def Z0 (os : List O) : O := if os.all O.isLf = true then .lf (O.strs os) (.tup (O.toDs os)) else .nd .tp os
def Zo (fr : DF) : EF := λ as => (fr as).bind λ p => if p.1.length <= sizeLine then some (.ow (Z0 p.1), p.2) else none
def xg (fr : DF) : EF := λ as => (fr as).bind λ p => if p.1.length <= sizeLine then some (.ow (.nd .ls p.1), p.2) else none
section
variable {X : Cx} {kd : KD} {a b c : Expr} {fa fb : EF} {ta tb : TF} {pos : Pos} {es rest : List Expr} {fr : AF} {fd : DF}
theorem RpA.length {K : zC} {F : Addr -> Prop} {H : Hp} {vs : List V} {ds : List (Bool × D)} (h : RpA K kd F H vs ds) : vs.length = ds.length := by
 induction h with
 | nil => rfl
 | cons _ _ ih => exact congrArg (· + 1) ih
theorem zy : AA X kd [] aN := by with_unfolding_all exact (zef zel λ σ H Q h => by
 obtain ⟨F, B, ad, as, rs, as', R, e, q⟩ := h
 cases e
 exact q [] ad H R .nil Grow.refl)
theorem zc (ha : AE X kd a fa) (hr : AA X kd es fr) (hs : starEach (a :: es) X.env = (false, eval a X.env) :: starEach es X.env) : AA X kd (a :: es) (aC fa fr) := by with_unfolding_all exact (zef (Vq ha hr hs) λ σ H Q h => by
 obtain ⟨F, B, ad, as, rs, as', R, e, q⟩ := h
 obtain ⟨⟨p, as1⟩, h1, e⟩ := bS_ (show (fa as).bind _ = _ from e)
 obtain ⟨⟨z, as2⟩, h2, e⟩ := bS_ e
 cases e
 refine Xe R h1 λ v ad1 H1 R1 rv1 g1 => ⟨F, B, ad1, as1, z, _, R1, h2, λ vs ad2 H2 R2 rv2 g2 => ?_⟩
 exact q _ ad2 H2 R2 (.cons (rv1.grow g2) rv2) (g1.trans g2))
theorem zV : AD X kd [] dN := by with_unfolding_all exact (zef zel λ σ H Q h => by
 obtain ⟨F, B, ad, as, rs, as', R, e, q⟩ := h
 cases e
 exact q [] [] ad H R .nil Grow.refl)
theorem zu (ha : AE X kd a fa) (hr : AD X kd es fd) (hs : starEach (a :: es) X.env = (false, eval a X.env) :: starEach es X.env) : AD X kd (a :: es) (dC fa fd) := by with_unfolding_all exact (zef (Vq ha hr hs) λ σ H Q h => by
 obtain ⟨F, B, ad, as, rs, as', R, e, q⟩ := h
 obtain ⟨⟨p, as1⟩, h1, e⟩ := bS_ (show (fa as).bind _ = _ from e)
 obtain ⟨⟨o, as2⟩, h2, e⟩ := bS_ e
 obtain ⟨⟨os, as3⟩, h3, e⟩ := bS_ e
 cases e
 refine ⟨F, B, ad, as, p, as1, R, h1, λ v T1 ad1 H1 R1 rv1 g1 => ?_⟩
 obtain ⟨ad2, R2, ro2, le2⟩ := zcd R1 rv1 h2
 refine ⟨F, _, ad2, as2, os, _, R2.hide, h3, λ vs T3 ad3 H3 R3 ro3 g3 => ?_⟩
 have kT : ∀ a ∈ T1, ∀ u, H1 a = some u -> H3 a = some u := λ a m u e => g3.keep a u e λ z => z.elim (λ y => nomatch y) λ ⟨i, y⟩ => R2.dis i a y m
 have r1 : RoS X.K kd F B (Gw (T1 ++ T3) ad3) H3 v o T1 := RoS.lv zaz (RoS.grow g3 kT (RoS.lv zhd ro2))
 have r3 : wY X.K kd F B (Gw (T1 ++ T3) ad3) H3 vs os T3 := wY.lv zaz ro3
 refine q _ (T1 ++ T3) ad3 H3 (R3.unhide R2.tnd λ a m z => (R2.btr a z).2.2 (.inl m)) (.cons r1 r3) ((g1.trans (Grow.less le2)).trans ⟨λ b u e n => g3.keep b u e λ z => n (Gw.drop b z), λ b z => ?_⟩)
 rcases z with z | z
 · rcases zzJ.mp z with z | z
   · exact .inl (.inl z)
   · exact (g3.own b (.inl z)).elim (λ y => .inl (Gw.drop b y)) .inr
 · exact (g3.own b (.inr z)).elim (λ y => .inl (Gw.drop b y)) .inr)
theorem Yv {x1} (h : AD X kd es fd) : AE X kd (.Tuple es x1 pos) (Zo fd) := by with_unfolding_all exact (yF (zoq h) λ σ H Q h => by
 obtain ⟨F, B, ad, as, r, as', R, e, q⟩ := h
 obtain ⟨⟨os, as1⟩, h1, e⟩ := bS_ (show (fd as).bind _ = _ from e)
 obtain ⟨hz, e⟩ := zP e
 cases e
 refine ⟨F, B, ad, as, os, _, R, h1, λ vs T1 ad1 H1 R1 ro1 g1 => ⟨by rw [ro1.length]; exact hz, λ p hp => ?_⟩⟩
 have k : ∀ b o, H1 b = some o -> upd H1 p (.tup vs) b = some o := λ b o hb => by rw [zQ (yH hb hp)]; exact hb
 obtain ⟨R2, g2⟩ := R1.more k
 have ro2 := wY.grow g2 (λ a _ u h => k a u h) ro1
 have np : ∀ st, ¬ Lv F B (Gw T1 ad1) st p := λ st z => R1.trk st p z hp
 refine q _ T1 ad1 _ R2 ?_ (g1.trans g2)
 show RoS X.K kd F B (Gw T1 ad1) _ _ (Z0 os) T1
 unfold Z0
 by_cases hl : os.all O.isLf = true
 · rw [if_pos hl]
   have := zeh ro2 hl
   subst this
   exact .lf (.tup (np _) (.inl yc) (zaA ro2 hl))
 · rw [if_neg hl]
   exact .tp (np _) yc ro2)
theorem yP (h : AD X kd es fd) : AE X kd (.List es pos) (xg fd) := by with_unfolding_all exact (yF (zpf h) λ σ H Q h => by
 obtain ⟨F, B, ad, as, r, as', R, e, q⟩ := h
 obtain ⟨⟨os, as1⟩, h1, e⟩ := bS_ (show (fd as).bind _ = _ from e)
 obtain ⟨hz, e⟩ := zP e
 cases e
 refine ⟨F, B, ad, as, os, _, R, h1, λ vs T1 ad1 H1 R1 ro1 g1 => ⟨by rw [ro1.length]; exact hz, λ p hp => ?_⟩⟩
 have k : ∀ b o, H1 b = some o -> upd H1 p (.lst vs) b = some o := λ b o hb => by rw [zQ (yH hb hp)]; exact hb
 obtain ⟨R2, g2⟩ := R1.add (N := [p]) (by simp) (λ a m => by rw [zzO.mp m]; exact hp) k (λ a m => by rw [zzO.mp m, yc]; simp)
 exact q _ _ ad1 _ R2 (.ls yc (wY.grow g2 (λ a _ u h => k a u h) ro1)) (g1.trans g2))
theorem VwL.less {K : zC} {O O' : Addr -> Prop} {H : Hp} (g : ∀ a, O' a -> O a) {vs : List V} {ds : List D} (h : VwL K kd O H vs ds) : VwL K kd O' H vs ds := by
 induction h with
 | nil => exact .nil
 | cons h _ ih => exact .cons (h.less g) ih
theorem Xg {K : zC} {F B : Addr -> Prop} {ad : Ad} {as : AS} {σ : St} {H : Hp} (R : Rel K kd F B [] ad as σ H) {vs : List V} {rs : List RV} {ds : List D} {lv : Option Bool} (h : RVs K kd F B ad σ H vs rs) (e : views as rs = some (ds, lv)) : VwL K kd (Obl F B (Gw [] ad) lv) H vs ds := by
 induction h generalizing ds lv with
 | nil => cases e; exact .nil
 | cons h t ih =>
  obtain ⟨⟨d, l⟩, h1, e⟩ := bS_ (show (RV.view as _).bind _ = _ from e)
  obtain ⟨⟨ds, l2⟩, h2, e⟩ := bS_ e
  cases e
  exact .cons ((wU.vw R h h1).less Obl.meet1) ((ih h2).less Obl.meet2)
theorem alP {g : List D -> Option R0} {σ : St} {H : Hp} {Q : VK} {R' : List V -> Hp -> VK -> Prop} (hr : ∀ vs H Q, (∃ O ds r, (∀ a, O a -> H a ≠ none) /\ VwL X.K kd O H vs ds /\ g ds = some r /\ RQ X.K kd O H Q r) -> R' vs H Q)
 (h : al X.K kd (fP fr g) σ H Q) : alA X.K kd fr σ H λ vs H1 => R' vs H1 Q := by
 obtain ⟨F, B, ad, as, r, as', R, e, q⟩ := h
 obtain ⟨⟨p, as1⟩, h1, e⟩ := bS_ (show (fr as).bind _ = _ from e)
 obtain ⟨⟨ds, lv⟩, h2, e⟩ := bS_ e
 obtain ⟨z, h3, e⟩ := bS_ e
 obtain ⟨y, h4, e⟩ := bS_ e
 cases e
 exact ⟨F, B, ad, as, p, _, R, h1, λ vs ad1 H1 R1 rv1 g1 => hr _ _ _ ⟨_, ds, z, R1.tr _, Xg R1 rv1 h2, h3, Wo R1 h4 λ w T' H' R' rv' g' => q w T' ad1 H' R' rv' (g1.trans g')⟩⟩
theorem zhy {K : zC} {F B : Addr -> Prop} {ad : Ad} {as : AS} {σ : St} {H : Hp} (R : Rel K kd F B [] ad as σ H) {vs : List V} {rs : List RV} {ds : List (Bool × D)} (h : RVs K kd F B ad σ H vs rs) (e : Xa as rs = some ds) : RpA K kd (Lv F B (Gw [] ad) true) H vs ds := by
 induction h generalizing ds with
 | nil => cases e; exact .nil
 | cons h t ih =>
  rename_i v r vs rs
  obtain ⟨⟨st, d⟩, h1, e⟩ := bS_ (show (zjN as r).bind _ = _ from e)
  obtain ⟨ds, h2, e⟩ := bS_ e
  cases e
  refine .cons ?_ (ih h2)
  cases r with
  | ow o =>
   cases h1
   cases hf : zH o.toD with
   | true => exact (zdP h).flat hf
   | false =>
    refine (zcA h).less λ a z => ?_
    have zs : o.str = true := z.1
    rw [zs]
    exact z.2
  | bo i =>
   have e : (match as[i]? with | some (some o) => some (false, o.toD) | _ => none) = some (st, d) := h1
   cases k : as[i]? with
   | none => rw [k] at e; cases e
   | some s =>
    cases s with
    | none => rw [k] at e; cases e
    | some o =>
     rw [k] at e
     cases e
     obtain ⟨w, hw, ro⟩ := R.sl i _ k
     rw [h.2] at hw
     cases hw
     exact (zdP ro).less λ a z => nomatch z.1
theorem zoH {K : zC} {F B : Addr -> Prop} {ad : Ad} {as : AS} {σ : St} {H : Hp} {Q : VK} {o : O} (R : Rel K kd F B [] ad as σ H) (q : ∀ v T' H', Rel K kd F B T' ad as σ H' -> wU K kd F B T' ad σ H' v (.ow o) -> Grow (Gw [] ad) H (Gw T' ad) H' -> Q v H') :
 RQO K kd (Lv F B (Gw [] ad) true) H Q o := λ v T H' hn hl k h1 ro => by
 obtain ⟨R', g⟩ := R.news hn hl k h1
 have le : ∀ st a, Lv F B (Gw T ad) st a -> Un2 (Lv F B (Gw [] ad) true) (· ∈ T) a := λ st a z => by
  rcases z with (z | z) | z | z
  · exact .inl (.inl (.inl ⟨rfl, z.2⟩))
  · exact .inl (.inl (.inr z))
  · exact .inr z
  · exact .inl (.inr (.inr z))
 exact q v T H' R' (Ro.mono (λ st v d r => r.less (le st)) (λ a vs n e => ⟨λ z => n (le true a z), e⟩) (λ _ _ _ e => e) ro) g
theorem zpe {g : List (Bool × D) -> Option O} {σ : St} {H : Hp} {Q : VK} {E : XK} (h : al X.K kd (zO fr g) σ H Q) : zmZ (spD X.K kd g) [] E (alA X.K kd fr) σ H Q := by
 obtain ⟨F, B, ad, as, r, as', R, e, q⟩ := h
 obtain ⟨⟨p, as1⟩, h1, e⟩ := bS_ (show (fr as).bind _ = _ from e)
 obtain ⟨ds, h2, e⟩ := bS_ e
 obtain ⟨o, h3, e⟩ := bS_ e
 cases e
 refine ⟨F, B, ad, as, p, _, R, h1, λ vs ad1 H1 R1 rv1 g1 => ?_⟩
 show spD X.K kd g (vs ++ []) H1 Q E
 rw [zyB]
 exact ⟨_, ds, o, R1.trk true, zhy R1 rv1 h2, h3, zoH R1 λ w T' H' R' rv' g' => q w T' ad1 H' R' rv' (g1.trans g')⟩
end
inductive Out where
 | nx (as : AS) | rt (o : O) | bk (as : AS) | ct (as : AS)
abbrev SF := AS -> Option Out
structure RetOk (K : zC) (kd : KD) (F : Addr -> Prop) (T : List Addr) (H : Hp) (v : V) (o : O) : Prop where
 nd : T.Nodup
 tr : ∀ a ∈ T, H a ≠ none
 ro : Ro (λ _ v d => Rp K kd (Un2 F (· ∈ T)) H v d) (λ a => ¬ Un2 F (· ∈ T) a) H v o T
def zda (K : zC) (kd : KD) (F B : Addr -> Prop) (ad : Ad) (H : Hp) (D : Ends) : Out -> Prop
 | .nx as' => ∀ σ' ad' H', Rel K kd F B [] ad' as' σ' H' -> Grow (Gw [] ad) H (Gw [] ad') H' -> D.nx σ' H'
 | .bk as' => ∀ σ' ad' H', Rel K kd F B [] ad' as' σ' H' -> Grow (Gw [] ad) H (Gw [] ad') H' -> D.bk σ' H'
 | .ct as' => ∀ σ' ad' H', Rel K kd F B [] ad' as' σ' H' -> Grow (Gw [] ad) H (Gw [] ad') H' -> D.ct σ' H'
 | .rt o => ∀ v T H', RetOk K kd F T H' v o -> Grow (Gw [] ad) H (· ∈ T) H' -> D.rt v H'
def be (K : zC) (kd : KD) (f : SF) : TS := λ D σ H => ∃ F B ad as o, Rel K kd F B [] ad as σ H /\ f as = some o /\ zda K kd F B ad H D o
@[irreducible] def ASt (X : Cx) (kd : KD) (st : Stmt) (f : SF) : Prop := PS X st (be X.K kd f)
@[irreducible] def ASs (X : Cx) (kd : KD) (st : List Stmt) (f : SF) : Prop := PSs X st (be X.K kd f)
theorem Zm {X : Cx} {e : Stmt} {t t' : TS} (h : PS X e t) (k : ∀ D σ H, t' D σ H -> t D σ H) : PS X e t' := λ pins s σ H D I q => h pins s σ H D I (k D σ H q)
theorem zey {X : Cx} {e : List Stmt} {t t' : TS} (h : PSs X e t) (k : ∀ D σ H, t' D σ H -> t D σ H) : PSs X e t' := λ pins s σ H D I q => h pins s σ H D I (k D σ H q)
theorem zda.pre {K : zC} {kd : KD} {F B : Addr -> Prop} {ad ad1 : Ad} {H H1 : Hp} {D : Ends} {o : Out} (g : Grow (Gw [] ad) H (Gw [] ad1) H1) (h : zda K kd F B ad H D o) : zda K kd F B ad1 H1 D o := by
 cases o with
 | nx as => exact λ σ' ad' H' R g' => h σ' ad' H' R (g.trans g')
 | bk as => exact λ σ' ad' H' R g' => h σ' ad' H' R (g.trans g')
 | ct as => exact λ σ' ad' H' R g' => h σ' ad' H' R (g.trans g')
 | rt r => exact λ v T H' R g' => h v T H' R (g.trans g')
def sNx : SF := λ as => some (.nx as)
def zE (f g : SF) : SF := λ as => (f as).bind λ o => match o with | .nx as' => g as' | o => some o
def sIf (c : TF) (f g : SF) : SF := λ as => (c as).bind λ p => if p.1 = true then f p.2 else g p.2
def ww (f : EF) : SF := λ as => (f as).bind λ p => some (.nx p.2)
def zkQ (as : AS) : RV -> Option O
 | .ow o => if o.str = true then some o else none
 | .bo i => match as[i]? with
  | some (some o) => if o.str = true then some o else none
  | _ => none
def yZ (f : EF) : SF := λ as => (f as).bind λ p => (zkQ p.2 p.1).bind λ o => some (.rt o)
def zJ (z : Bool) (i : Nat) (f : EF) : SF := λ as => (f as).bind λ p => (toO p.2 (if z = true then p.1.frz else p.1)).bind λ x => if i < x.2.length then some (.nx (x.2.set i (some x.1))) else none
theorem Ro.strong {L : Bool -> V -> D -> Prop} {N : Addr -> Prop} {H : Hp} {v : V} {o : O} {fp : List Addr} (h : Ro L N H v o fp) (e : o.str = true) : Ro (λ st v d => st = true /\ L st v d) N H v o fp :=
 Ro.rec (motive_1 := λ v o fp _ => o.str = true -> Ro (λ st v d => st = true /\ L st v d) N H v o fp) (motive_2 := λ vs os fp _ => O.strs os = true -> RoL (λ st v d => st = true /\ L st v d) N H vs os fp)
  (λ h e => .lf ⟨e, h⟩) (λ h _ r e => .ls h (r e)) (λ h l _ r e => .dc h l (r e)) (λ c h l _ r e => .ob ⟨rfl, c⟩ h l (r e)) (λ n h _ r e => .tp n h (r e)) (λ n h l _ r e => .fz n h l (r e)) (λ _ => .nil) (λ _ _ h r e => .cons (h ((zzZ _ _).mp e).1) (r ((zzZ _ _).mp e).2)) h e
section
variable {K : zC} {kd : KD} {F B : Addr -> Prop} {T : List Addr} {ad ad1 : Ad} {as as1 : AS} {σ : St} {H H1 : Hp} {v : V} {r : RV} {o : O}
theorem zfD {T' : List Addr} (R : Rel K kd F B T ad as σ H) (hn : T'.Nodup) (hs : ∀ a ∈ T', Gw T ad a) (h : RoS K kd F B (Gw T ad) H v o T') (e : o.str = true) : RetOk K kd F T' H v o := by
 have le : ∀ a, Un2 F (· ∈ T') a -> Lv F B (Gw T ad) true a := λ a z => z.elim (λ y => .inl (.inl ⟨rfl, y⟩)) λ y => .inr (hs a y)
 exact ⟨hn, λ a m => (R.gtr a (hs a m)).1, Ro.mono (λ st v d r => by obtain ⟨rfl, r⟩ := r; exact r.less le) (λ a vs n e => ⟨λ z => n (le a z), e⟩) (λ _ _ _ e => e) (Ro.strong h e)⟩
theorem Rel.ret (R : Rel K kd F B T ad as σ H) (hr : wU K kd F B T ad σ H v r) (e : zkQ as r = some o) : ∃ T', RetOk K kd F T' H v o /\ ∀ b ∈ T', Gw T ad b := by
 cases r with
 | ow o' =>
  obtain ⟨hs, rfl⟩ := zP e
  exact ⟨T, zfD R R.tnd (λ a m => .inl m) hr hs, λ a m => .inl m⟩
 | bo i =>
  have e : (match as[i]? with | some (some o) => if o.str = true then some o else none | _ => none) = some o := e
  cases k : as[i]? with
  | none => rw [k] at e; cases e
  | some s =>
   cases s with
   | none => rw [k] at e; cases e
   | some o1 =>
    rw [k] at e
    obtain ⟨hs, rfl⟩ := zP e
    obtain ⟨w, hw, ro⟩ := R.sl i _ k
    rw [hr.2] at hw
    cases hw
    exact ⟨ad i, zfD R (R.nd i) (λ a m => .inr ⟨i, m⟩) ro hs, λ a m => .inr ⟨i, m⟩⟩
end
section
variable {X : Cx} {kd : KD} {st : Stmt} {sts rest : List Stmt} {a b c e : Expr} {fa fb : EF} {ta : TF} {pos : Pos} {f g : SF}
theorem xu : ASs X kd [] sNx := by with_unfolding_all exact (zey zmn λ D σ H h => by
 obtain ⟨F, B, ad, as, o, R, e, q⟩ := h
 cases e
 exact q σ ad H R Grow.refl)
theorem zf (h1 : ASt X kd st f) (h2 : ASs X kd rest g) : ASs X kd (st :: rest) (zE f g) := by with_unfolding_all exact (zey (zjp h1 h2) λ D σ H h => by
 obtain ⟨F, B, ad, as, o, R, e, q⟩ := h
 obtain ⟨o1, e1, e⟩ := bS_ (show (f as).bind _ = _ from e)
 refine ⟨F, B, ad, as, o1, R, e1, ?_⟩
 cases o1 with
 | nx as1 => exact λ σ' ad' H' R' g' => ⟨F, B, ad', as1, o, R', e, q.pre g'⟩
 | bk as1 => cases e; exact q
 | ct as1 => cases e; exact q
 | rt r => cases e; exact q)
theorem zA (h1 : ASt X kd st f) : ASs X kd [st] f := by with_unfolding_all exact (zmr h1)
theorem vO (hc : AT X kd c ta) (ha : ASs X kd sts f) (hb : ASs X kd rest g) : ASt X kd (.If c sts rest pos) (sIf ta f g) := by with_unfolding_all exact (Zm (zqF hc ha hb) λ D σ H h => by
 obtain ⟨F, B, ad, as, o, R, e, q⟩ := h
 obtain ⟨⟨p, as1⟩, h1, e⟩ := bS_ (show (ta as).bind _ = _ from e)
 refine ⟨F, B, ad, as, p, as1, R, h1, λ ad' H' R' g => ?_⟩
 cases p with
 | true => exact ⟨F, B, ad', as1, o, R', e, q.pre g⟩
 | false => exact ⟨F, B, ad', as1, o, R', e, q.pre g⟩)
theorem v6 (he : AE X kd e fa) (hs : swapsWith e none pos.line X.env = pure false) : ASt X kd (.Expr e pos) (ww fa) := by with_unfolding_all exact (Zm (zmb he hs) λ D σ H h => by
 obtain ⟨F, B, ad, as, o, R, e, q⟩ := h
 obtain ⟨⟨p, as1⟩, h1, e⟩ := bS_ (show (fa as).bind _ = _ from e)
 cases e
 exact ⟨F, B, ad, as, p, as1, R, h1, λ v T' ad' H' R' rv g => q σ ad' H' R'.drop (g.trans (Grow.less Gw.drop))⟩)
theorem yq (he : AE X kd e fa) : ASt X kd (.Return (some e) pos) (yZ fa) := by with_unfolding_all exact (Zm (znx he) λ D σ H h => by
 obtain ⟨F, B, ad, as, o, R, e, q⟩ := h
 obtain ⟨⟨p, as1⟩, h1, e⟩ := bS_ (show (fa as).bind _ = _ from e)
 obtain ⟨r, h2, e⟩ := bS_ e
 cases e
 refine ⟨F, B, ad, as, p, as1, R, h1, λ v T' ad' H' R' rv g => ?_⟩
 obtain ⟨T2, ro, le⟩ := R'.ret rv h2
 exact q v T2 H' ro (g.trans (Grow.less le)))
theorem zge {K : zC} {F B : Addr -> Prop} {T : List Addr} {ad : Ad} {as as2 : AS} {σ : St} {H : Hp} {v : V} {r : RV} {z : Bool} {o : O} {i : Nat} (R : Rel K kd F B T ad as σ H) (rv : wU K kd F B T ad σ H v r)
 (h2 : toO as (if z = true then r.frz else r) = some (o, as2)) (hl : i < as2.length) : ∃ ad', Rel K kd F B [] ad' (as2.set i (some o)) (σ.set i (some v)) H /\ ∀ a, Gw [] ad' a -> Gw T ad a := by
 cases z with
 | true =>
  obtain ⟨ad1, R1, ro, le⟩ := zcd R.drop (wU.drop R rv) h2
  exact ⟨_, R1.put hl ro, λ a y => Gw.drop a (le a (YJ a y))⟩
 | false =>
  obtain ⟨ad1, R1, ro, le⟩ := zcd R rv h2
  exact ⟨_, R1.put hl ro, λ a y => le a (YJ a y)⟩
theorem zoX {z : Bool} {i : Nat} {x : Str} {pos' : Pos} (hN : X.N.Nodup) (hi : X.N[i]? = some x) (hx : Loc X.env.scope x) (he : AE X kd e fa) (hs : swapsWith e (some (.Name x pos')) pos.line X.env = pure false) (hf : X.fn x = true \/ X.env.scope.names.lookup x = some .local) :
 ASt X kd (.Assign [.Name x pos'] e pos) (zJ z i fa) := by with_unfolding_all exact (Zm (zpl hN hi hx he hs hf) λ D σ H h => by
 obtain ⟨F, B, ad, as, o, R, e, q⟩ := h
 obtain ⟨⟨p, as1⟩, h1, e⟩ := bS_ (show (fa as).bind _ = _ from e)
 obtain ⟨⟨y, as2⟩, h2, e⟩ := bS_ e
 obtain ⟨hl, e⟩ := zP e
 cases e
 refine ⟨F, B, ad, as, p, as1, R, h1, λ v T' ad' H' R' rv g => ?_⟩
 obtain ⟨ad2, R2, le⟩ := zge R' rv h2 hl
 exact q _ ad2 H' R2 (g.trans (Grow.less le)))
end
def vG (n : Nat) (ds : List (Bool × D)) : AS := ds.map (λ x => some (.lf x.1 x.2)) ++ List.replicate (n - ds.length) none
def zrx : Out -> Option O
 | .nx _ => some (.lf true .non)
 | .rt o => some o
 | _ => none
def fnR (n m : Nat) (f : SF) (ds : List (Bool × D)) : Option O := if ds.length = m then (f (vG n ds)).bind zrx else none
theorem RpA.get {K : zC} {kd : KD} {F : Addr -> Prop} {H : Hp} : ∀ {vs : List V} {ds : List (Bool × D)} {i : Nat} {x : Bool × D}, RpA K kd F H vs ds -> ds[i]? = some x -> ∃ v, vs[i]? = some v /\ Rp K kd (λ a => x.1 = true /\ F a) H v x.2
 | _, _, _, _, .nil, e => by simp at e
 | _, _, 0, _, .cons h _, e => by simp at e; subst e; exact ⟨_, rfl, h⟩
 | _, _, i + 1, _, .cons _ r, e => by
  obtain ⟨v, h1, h2⟩ := RpA.get (i := i) r (by simpa using e)
  exact ⟨v, by simpa using h1, h2⟩
theorem ziz {K : zC} {kd : KD} {F : Addr -> Prop} {H : Hp} {N : List Str} {vs : List V} {ds : List (Bool × D)} (ht : ∀ a, F a -> H a ≠ none) (rp : RpA K kd F H vs ds) :
 Rel K kd F (λ _ => False) [] (λ _ => []) (vG N.length ds) (L2.start N vs) H := by
 have hl := rp.length
 have no : ∀ a, ¬ Gw [] (λ _ => []) a := λ a z => z.elim (λ y => nomatch y) λ ⟨_, y⟩ => nomatch y
 refine ⟨by unfold vG L2.start; simp [hl], λ _ _ => rfl, λ _ => zyG, (λ _ _ _ z => nomatch z), zyG, (λ _ _ _ z => nomatch z), ht, (λ _ z => z.elim), λ a z => (no a z).elim, λ i s e => ?_⟩
 unfold vG at e
 unfold L2.start
 by_cases hi : i < ds.length
 · rw [zyM (by rw [zD]; exact hi), zzF] at e
   obtain ⟨d, hd, ea⟩ := Option.map_eq_some_iff.mp e
   subst ea
   obtain ⟨v, hv, rv⟩ := rp.get hd
   rw [zyM (by rw [zD, hl]; exact hi), zzF, hv]
   refine ⟨v, rfl, .lf (rv.less λ a z => ?_)⟩
   rcases z with (z | z) | z
   · exact z
   · exact z.elim
   · exact (no a z).elim
 · rw [zyO (by rw [zD]; omega)] at e
   have := zzX e
   have ea : s = none := (List.mem_replicate.mp this).2
   subst ea
   rfl
section
variable {P : Program} {w : World} {K : zC} {mg : Str -> Option Value} {base : Heap}
theorem zjI {kd : KD} {F : Addr -> Prop} {H H' : Hp} {Q : VK} {o : O} {v : V} {T : List Addr} (q : RQO K kd F H Q o) (ro : RetOk K kd F T H' v o) (g : Grow (Gw [] λ _ => []) H (· ∈ T) H') : Q v H' := by
 have no : ∀ a, ¬ Gw [] (λ _ => []) a := λ a z => z.elim (λ y => nomatch y) λ ⟨_, y⟩ => nomatch y
 exact q v T H' ro.nd (λ a m => (g.own a m).resolve_left (no a)) (λ b u h => g.keep b u h (no b)) ro.tr ro.ro
theorem vU {kd : KD} {x qual : Str} {st : Stmt} {f : Addr} {fd : FuncData} {N ps : List Str} {k : Nat} {c : SF} (Fn : Fun K x qual st f fd) (S : FnScope N ps (zF st))
 (hb : ∀ (cdv : Value) (A : Around) (outer : List Env) (s : Shared) (H : Hp) (E : XK), Room k (A.deeper (envOfC qual (zF st) s.heap.objs.size f cdv)) -> ASs (zfK CX0 P w K mg base N qual (zF st) f cdv A outer s H E).nox kd (Vv st) c) :
 FnOk P w K mg base CX0 (k + 1) f fd ps (spD K kd (fnR N.length ps.length c)) := by
 with_unfolding_all (
 refine Fn.ok S (λ vs H Q E h => ?_) (λ cdv A outer s H vs Q E hr h => ⟨_, hb cdv A outer s H E hr, ?_⟩)
 · obtain ⟨F, ds, r, _, rp, e, _⟩ := h
   unfold fnR at e
   by_cases hl : ds.length = ps.length
   · rw [rp.length, hl]
   · rw [if_neg hl] at e; cases e
 · obtain ⟨F, ds, r, ht, rp, e, q⟩ := h
   unfold fnR at e
   by_cases hl : ds.length = ps.length
   · rw [if_pos hl] at e
     obtain ⟨o, e1, e⟩ := bS_ e
     refine ⟨F, λ _ => False, λ _ => [], vG N.length ds, o, ziz ht rp, e1, ?_⟩
     cases o with
     | nx as => cases e; exact λ σ' ad' H' R g => zjI q (T := []) ⟨zyG, (λ _ m => nomatch m), .lf .non⟩ (g.trans (Grow.less (λ _ z => nomatch z)))
     | rt o => cases e; exact λ v T H' ro g => zjI q ro g
     | bk => cases e
     | ct => cases e
   · rw [if_neg hl] at e; cases e)
end
abbrev It1 := Bool × D
abbrev GF := It1 -> AS -> Option AS
abbrev GFs := List It1 -> AS -> Option AS
def kids (st : Bool) (ds : List D) : List It1 := ds.map λ d => (zH d || st, d)
inductive RpI (K : zC) (kd : KD) (F B G : Addr -> Prop) (H : Hp) : List V -> List It1 -> Prop
 | nil : RpI K kd F B G H [] []
 | cons {v : V} {x : It1} {vs : List V} {ds : List It1} : Rp K kd (Lv F B G x.1) H v x.2 -> RpI K kd F B G H vs ds -> RpI K kd F B G H (v :: vs) (x :: ds)
def alG (K : zC) (kd : KD) (S : List Nat) (g : GF) : TG := λ v σ H Q => ∃ F B ad as x as', Rel K kd F B [] ad as σ H /\ Rp K kd (Lv F B (Gw [] ad) x.1) H v x.2 /\ g x as = some as' /\
 ∀ σ' ad' H', Rel K kd F B [] ad' as' σ' H' -> Grow (Gw [] ad) H (Gw [] ad') H' -> (∀ j, j ∉ S -> σ'[j]? = σ[j]?) -> Q σ' H'
def zqZ (K : zC) (kd : KD) (S : List Nat) (g : GFs) : TGs := λ vs σ H Q => ∃ F B ad as ds as', Rel K kd F B [] ad as σ H /\ RpI K kd F B (Gw [] ad) H vs ds /\ g ds as = some as' /\
 ∀ σ' ad' H', Rel K kd F B [] ad' as' σ' H' -> Grow (Gw [] ad) H (Gw [] ad') H' -> (∀ j, j ∉ S -> σ'[j]? = σ[j]?) -> Q σ' H'
@[irreducible] def AG (X : Cx) (kd : KD) (tg : Expr) (S : List Nat) (g : GF) : Prop := PG X tg (alG X.K kd S g)
@[irreducible] def AGs (X : Cx) (kd : KD) (tg : List Expr) (S : List Nat) (g : GFs) : Prop := PGs X tg (zqZ X.K kd S g)
theorem znP {X : Cx} {e : Expr} {t t' : TG} (h : PG X e t) (k : ∀ v σ H Q, t' v σ H Q -> t v σ H Q) : PG X e t' := λ pins s σ H v u Q I r q => h pins s σ H v u Q I r (k v σ H Q q)
theorem zgQ {X : Cx} {e : List Expr} {t t' : TGs} (h : PGs X e t) (k : ∀ v σ H Q, t' v σ H Q -> t v σ H Q) : PGs X e t' := λ pins s σ H v u Q I r q => h pins s σ H v u Q I r (k v σ H Q q)
def gN (i : Nat) : GF := λ x as => if i < as.length then some (as.set i (some (.lf x.1 x.2))) else none
def gsN : GFs := λ ds as => match ds with | [] => some as | _ :: _ => none
def gsC (g : GF) (gs : GFs) : GFs := λ ds as => match ds with | [] => none | d :: r => (g d as).bind λ as1 => gs r as1
def gT (n : Nat) (gs : GFs) : GF := λ x as => match x.2 with
 | .tup ds => if ds.length = n then gs (kids x.1 ds) as else none
 | .lst ds => if ds.length = n then gs (kids x.1 ds) as else none
 | _ => none
section
variable {K : zC} {kd : KD} {F B G G' : Addr -> Prop} {H H' : Hp}
theorem RpI.length {vs : List V} {ds : List It1} (h : RpI K kd F B G H vs ds) : vs.length = ds.length := by
 induction h with
 | nil => rfl
 | cons _ _ ih => exact congrArg (· + 1) ih
theorem RpI.grow (g : Grow G H G' H') {vs : List V} {ds : List It1} (h : RpI K kd F B G H vs ds) : RpI K kd F B G' H' vs ds := by
 induction h with
 | nil => exact .nil
 | cons h _ ih => exact .cons (Rp.grow g h) ih
theorem RpI.get {vs : List V} {ds : List It1} {i : Nat} {x : It1} (h : RpI K kd F B G H vs ds) (e : ds[i]? = some x) : ∃ v, vs[i]? = some v /\ Rp K kd (Lv F B G x.1) H v x.2 := by
 induction h generalizing i with
 | nil => simp at e
 | cons h r ih =>
  cases i with
  | zero => simp at e; subst e; exact ⟨_, rfl, h⟩
  | succ i =>
   obtain ⟨v, h1, h2⟩ := ih (i := i) (by simpa using e)
   exact ⟨v, by simpa using h1, h2⟩
theorem Wv {st : Bool} {vs : List V} {ds : List D} (h : RpL K kd (Lv F B G st) H vs ds) : RpI K kd F B G H vs (kids st ds) :=
 RpL.ind (P := λ vs ds => RpI K kd F B G H vs (kids st ds)) .nil (λ {v d vs ds} h _ ih => by
  refine .cons (x := (zH d || st, d)) ?_ ih
  cases e : zH d with
  | true => exact h.flat e
  | false => exact h) h
end
section
variable {prog : Program} {w : World} {A : Around} {E : Value -> Shared -> Prop} {s : Shared}
theorem zdo {it l : Addr} {items : Array Value} (hne : l ≠ it) : ∀ (n i : Nat) (s : Shared) (Q : List Value -> Shared -> Prop), s.heap.IsListIter it l i -> s.heap.IsList l items -> i + n <= items.size ->
 (∀ h', h'.IsListIter it l (i + n) -> Heap.SameBut it s.heap h' -> Q ((items.toList.drop i).take n) { s with heap := h' }) -> wpAny (model prog w) A (draw (.ref it) n) Q E s
 | 0, i, s, Q, hit, _, _, hQ => by
  show wpAny _ _ (pure []) Q E s
  exact zxE (by simpa using hQ s.heap hit (Heap.SameBut.refl ..))
 | n + 1, i, s, Q, hit, ht, hle, hQ => by
  have hlt : i < items.size := by omega
  show wpAny _ _ (pyNext (.ref it) >>= _) Q E s
  refine zxD (wpAny_pyNext_list_item hit ht (x := items[i]) (by simp [hlt]) λ h₁ hit₁ hs₁ => ?_)
  refine zxD (zxK (zdo hne n (i + 1) _ _ hit₁ (ht.extBut hs₁.extBut hne) (by omega) λ h₂ hit₂ hs₂ => zxE ?_))
  have hd : items.toList.drop i = items[i] :: items.toList.drop (i + 1) := by simp [zyN, hlt]
  have := hQ h₂ (by rw [show i + (n + 1) = i + 1 + n by omega]; exact hit₂) (hs₁.trans hs₂)
  rw [hd, List.take_succ_cons] at this
  exact this
theorem zeC {l : Addr} {items : Array Value} {targets : List (Bool × (Value -> Sem Unit))} {Q : Unit -> Shared -> Prop} (hh : A.handled = none) (ht : s.heap.IsList l items)
 (hn : targets.length = items.size) (hstar : targets.findIdx? (·.1) = none)
 (h : ∀ h', Heap.ExtBut s.heap.objs.size s.heap h' -> wpAny (model prog w) A (assignInOrder (targets.map (·.2)) items.toList) Q E { s with heap := h' }) :
 wpAny (model prog w) A (unpack (.ref l) targets) Q E s := by
 unfold unpack
 rw [hn, hstar]
 refine zxD (zxK ?_)
 have hlt : l ≠ s.heap.objs.size := by obtain ⟨o, ho, _⟩ := ht; exact zzN (zxG ho)
 unfold unpackItems
 refine zxD ?_
 unfold notIterableAtAll
 refine zxD (wpAny_specialOf ht.typeIs PySem.F.slot_list_iter.lookup ?_)
 refine zxE ?_
 simp only [Bool.false_eq_true, if_false]
 refine zxD (zxK (wpAny_pyIter_list ht ?_))
 refine zxD (zxK (zdo hlt items.size 0 _ _ ⟨_, zxH _ rfl, rfl, rfl⟩ (ht.push _) (by omega) λ h₁ hit₁ hs₁ => ?_))
 have hall : List.take items.size (List.drop 0 items.toList) = items.toList := by
  rw [List.drop_zero]; exact List.take_of_length_le (by simp)
 rw [hall]
 rw [if_neg (by simp)]
 have ht₁ : h₁.IsList l items := (ht.push _).extBut hs₁.extBut hlt
 refine zxD (zxK (wpAny_pyNext_list_end hh hit₁ ht₁ (by simp) λ h₂ he₂ => ?_))
 simp only [Option.isSome_none, Bool.false_eq_true, if_false]
 exact zxE (h h₂ λ b o hb e => he₂ b o hb (hs₁.extBut b o hb (zxF _ e)))
end
section
variable {X : Cx} {kd : KD} {a b c e tg iter : Expr} {es : List Expr} {body : List Stmt} {fa fb : EF} {pos : Pos} {g : GF} {gs : GFs} {f : SF} {ta : TF} {S S1 S2 : List Nat}
def zqS (K : zC) (n : Nat) (t : TGs) : TG := λ v σ H Q => ∃ a xs, v = .ref a /\ SqL K H a xs /\ xs.length = n /\ t xs σ H Q
theorem zkU {es : List Expr} {k : Nat} {t : TGs} {n : Nat} (hc : X.calm = true) (h : PGs X es t) (hn : (assignEach es X.env).length = n) (hst : (assignEach es X.env).findIdx? (·.1) = none) : PG X (.Tuple es k pos) (zqS X.K n t) := by
 intro pins s σ H v u Q I r hw
 obtain ⟨a, xs, e1, hq, hl, hw⟩ := hw
 subst e1
 cases r
 obtain ⟨its, rv, ht, hz⟩ := I.list hq
 rw [assign_Tuple]
 refine zxD (wpAny_standAt (zeC (I.ok.hd hc) ht.isList (by simp [hn, <- hl, rv.length]) hst λ h' hx => ?_))
 have I1 : Inv X pins σ H { s with heap := h' } := I.kept (t' := s.toks) λ b o e => hx b o (zzN (zxG e)) e
 exact h pins _ σ H xs _ Q I1 (by simpa using rv) hw
theorem zmu {i : Nat} {x : Str} (hN : X.N.Nodup) (hi : X.N[i]? = some x) (hx : Loc X.env.scope x) (hf : X.fn x = true \/ X.env.scope.names.lookup x = some .local) : AG X kd (.Name x pos) [i] (gN i) := by with_unfolding_all exact (znP (zle hN hi hx hf) λ v σ H Q h => by
 obtain ⟨F, B, ad, as, y, as', R, rp, e, q⟩ := h
 obtain ⟨hl, e⟩ := zP e
 cases e
 exact q _ _ H (R.put hl (o := .lf y.1 y.2) (.lf rp)) (Grow.less YJ) λ j hj => zzV (λ z => hj (by rw [z]; simp)))
theorem Wt : AGs X kd [] [] gsN := by with_unfolding_all exact (zgQ zmc λ vs σ H Q h => by
 obtain ⟨F, B, ad, as, ds, as', R, rp, e, q⟩ := h
 cases rp with
 | nil => cases e; exact ⟨rfl, q σ ad H R Grow.refl λ _ _ => rfl⟩
 | cons => cases e)
theorem yp (h1 : AG X kd a S1 g) (h2 : AGs X kd es S2 gs) (hs : (assignEach (a :: es) X.env).map (·.2) = assign a X.env :: (assignEach es X.env).map (·.2)) : AGs X kd (a :: es) (S1 ++ S2) (gsC g gs) := by with_unfolding_all exact (zgQ (zkK h1 h2 hs) λ vs σ H Q h => by
 obtain ⟨F, B, ad, as, ds, as', R, rp, e, q⟩ := h
 cases rp with
 | nil => cases e
 | cons r rr =>
  obtain ⟨as1, e1, e⟩ := bS_ (show (g _ as).bind _ = _ from e)
  refine ⟨_, _, rfl, F, B, ad, as, _, as1, R, r, e1, λ σ' ad' H' R' g' k' => ?_⟩
  exact ⟨F, B, ad', as1, _, as', R', rr.grow g', e, λ σ2 ad2 H2 R2 g2 k2 => q σ2 ad2 H2 R2 (g'.trans g2) λ j hj => (k2 j λ z => hj (zzI _ z)).trans (k' j λ z => hj (zzM _ z))⟩)
theorem zav {k n : Nat} (hc : X.calm = true) (h : AGs X kd es S gs) (hn : (assignEach es X.env).length = n) (hst : (assignEach es X.env).findIdx? (·.1) = none) : AG X kd (.Tuple es k pos) S (gT n gs) := by
 with_unfolding_all (
 intro pins s σ H v u Q I r hw
 obtain ⟨F, B, ad, as, ⟨st, d⟩, as', R, rp, e, q⟩ := hw
 cases d with
 | tup ds =>
  have e : (if ds.length = n then gs (kids st ds) as else none) = some as' := e
  by_cases hl : ds.length = n
  · rw [if_pos hl] at e
    have go : ∃ a xs, v = .ref a /\ SqT X.K H a xs /\ RpL X.K kd (Lv F B (Gw [] ad) st) H xs ds := by
     cases rp with
     | tup n h r => exact ⟨_, _, rfl, .inl h, r⟩
     | tupK a b c e f r => exact ⟨_, _, rfl, .inr ⟨_, _, _, a, b, c, e, f⟩, r⟩
    obtain ⟨a, xs, rfl, hs, rl⟩ := go
    exact zpm hc h hn hst pins s σ H _ u Q I r ⟨a, xs, rfl, hs, by rw [rl.length, hl], F, B, ad, as, _, as', R, Wv rl, e, q⟩
  · rw [if_neg hl] at e; cases e
 | lst ds =>
  have e : (if ds.length = n then gs (kids st ds) as else none) = some as' := e
  by_cases hl : ds.length = n
  · rw [if_pos hl] at e
    cases rp with
    | lstK a b c r' => exact zkU hc h hn hst pins s σ H _ u Q I r ⟨_, _, rfl, .inr ⟨_, _, _, a, rfl, rfl, rfl, b, c⟩, by rw [r'.length, hl], F, B, ad, as, _, as', R, Wv r', e, q⟩
    | lst n h' r' => exact zkU hc h hn hst pins s σ H _ u Q I r ⟨_, _, rfl, .inl h', by rw [r'.length, hl], F, B, ad, as, _, as', R, Wv r', e, q⟩
  · rw [if_neg hl] at e; cases e
 | _ => cases e)
def zax (as : AS) (r : RV) : Option (It1 × AS) := (toO as r.frz).bind λ x => match x.1 with | .lf st d => some ((st, d), x.2) | _ => none
theorem Wq {K : zC} {F B : Addr -> Prop} {T : List Addr} {ad : Ad} {as as' : AS} {σ : St} {H : Hp} {v : V} {r : RV} {x : It1} (R : Rel K kd F B T ad as σ H) (h : wU K kd F B T ad σ H v r) (e : zax as r = some (x, as')) :
 ∃ ad', Rel K kd F B [] ad' as' σ H /\ Rp K kd (Lv F B (Gw [] ad') x.1) H v x.2 /\ ∀ a, Gw [] ad' a -> Gw T ad a := by
 obtain ⟨⟨o, as1⟩, h1, e⟩ := bS_ e
 obtain ⟨ad1, R1, ro, le⟩ := zcd R.drop (wU.drop R h) h1
 cases o with
 | lf st d =>
  cases e
  refine ⟨ad1, R1, ?_, λ a y => Gw.drop a (le a y)⟩
  have := zcA ro
  exact this
 | nd k os => cases e
def zcI (f : EF) (g : GF) : SF := λ as => (f as).bind λ p => (zax p.2 p.1).bind λ q => (g q.1 q.2).bind λ as' => some (.nx as')
theorem zgb (he : AE X kd e fa) (hg : AG X kd tg S g) (hs : swapsWithSole [tg] e pos.line X.env = pure false) (hw : swappedStores [tg] e X.env = pure none) (h1 : (assignEach [tg] X.env).map (·.2) = [assign tg X.env]) :
 ASt X kd (.Assign [tg] e pos) (zcI fa g) := by with_unfolding_all exact (Zm (ziS he hg hs hw h1) λ D σ H h => by
 obtain ⟨F, B, ad, as, o, R, e, q⟩ := h
 obtain ⟨⟨p, as1⟩, h1, e⟩ := bS_ (show (fa as).bind _ = _ from e)
 obtain ⟨⟨x, as2⟩, h2, e⟩ := bS_ e
 obtain ⟨as3, h3, e⟩ := bS_ e
 cases e
 refine ⟨F, B, ad, as, p, as1, R, h1, λ v T' ad' H' R' rv g1 => ?_⟩
 obtain ⟨ad2, R2, rp, le⟩ := Wq R' rv h2
 exact ⟨F, B, ad2, as2, _, as3, R2, rp, h3, λ σ' ad' H' R' g' _ => q σ' ad' H' R' ((g1.trans (Grow.less le)).trans g')⟩)
structure ItOk (K : zC) (kd : KD) (F B : Addr -> Prop) (ad : Ad) (H : Hp) (J : It) (ds : List It1) : Prop where
 all : ∀ (ad2 : Ad) (H2 : Hp), Grow (Gw [] ad) H (Gw [] ad2) H2 -> (∀ st a, Lv F B (Gw [] ad2) st a -> H2 a ≠ none) -> ∀ i, (i < ds.length -> J.go i H2) /\ (ds.length <= i -> J.stop i H2) /\
  ∀ v H3, J.yld i H2 v H3 -> (∀ b o, H2 b = some o -> H3 b = some o) /\ ∀ x, ds[i]? = some x -> Rp K kd (Lv F B (Gw [] ad2) x.1) H3 v x.2
abbrev IF := AS -> Option (List It1 × AS)
def alI (K : zC) (kd : KD) (f : IF) : TI := λ σ H R => ∃ F B ad as ds as', Rel K kd F B [] ad as σ H /\ f as = some (ds, as') /\
 ∀ J ad' H', Rel K kd F B [] ad' as' σ H' -> Grow (Gw [] ad) H (Gw [] ad') H' -> ItOk K kd F B ad' H' J ds -> R J H'
@[irreducible] def AI (X : Cx) (kd : KD) (tg iter : Expr) (f : IF) : Prop := PI X tg iter (alI X.K kd f)
def forL (g : GF) (f : SF) : List It1 -> AS -> Option Out
 | [], as => some (.nx as)
 | d :: r, as => (g d as).bind λ as1 => (f as1).bind λ o => match o with
  | .nx as' => forL g f r as'
  | .ct as' => forL g f r as'
  | .bk as' => some (.nx as')
  | .rt r => some (.rt r)
def wH (fi : IF) (g : GF) (f : SF) : SF := λ as => (fi as).bind λ p => forL g f p.1 p.2
theorem wD {fi : IF} (hp : PassesOwn (model X.prog X.w) X.A X.env X.xe) (hc : X.calm = true) (hi : AI X kd tg iter fi) (hg : AG X kd tg S g) (hb : ASs X kd body f) (hs : ∀ x, foldedSetIterable iter X.env x = pure x) :
 ASt X kd (.For tg iter body [] pos) (wH fi g f) := by with_unfolding_all exact (Zm (zoR hp hc hi hg hb hs) λ D σ H h => by
 obtain ⟨F, B, ad, as, o, R, e, q⟩ := h
 obtain ⟨⟨ds, as1⟩, h1, e⟩ := bS_ (show (fi as).bind _ = _ from e)
 refine ⟨F, B, ad, as, ds, as1, R, h1, λ J ad1 H1 R1 g1 it => ?_⟩
 refine ⟨λ i m σ2 H2 => m + i = ds.length /\ ∃ ad2 as2, Rel X.K kd F B [] ad2 as2 σ2 H2 /\ Grow (Gw [] ad1) H1 (Gw [] ad2) H2 /\ forL g f (ds.drop i) as2 = some o, ⟨ds.length, rfl, ad1, as1, R1, Grow.refl, e⟩, ?_⟩
 rintro i m σ2 H2 ⟨hm, ad2, as2, R2, g2, e2⟩
 obtain ⟨k1, k2, k3⟩ := it.all ad2 H2 g2 R2.trk i
 by_cases hi : i < ds.length
 · refine .inr ⟨k1 hi, λ σ3 H3 => ∃ ad3 as3, Rel X.K kd F B [] ad3 as3 σ3 H3 /\ Grow (Gw [] ad1) H1 (Gw [] ad3) H3 /\ forL g f (ds.drop (i + 1)) as3 = some o, λ σ3 H3 ⟨ad3, as3, R3, g3, e3⟩ => ⟨m - 1, by omega, by omega, ad3, as3, R3, g3, e3⟩, λ v H3 hy => ?_⟩
   obtain ⟨kp, rp⟩ := k3 v H3 hy
   rw [zyN hi] at e2
   obtain ⟨as3, e3, e2⟩ := bS_ (show (g _ as2).bind _ = _ from e2)
   obtain ⟨o3, e4, e2⟩ := bS_ e2
   obtain ⟨R3, g3⟩ := R2.more kp
   refine ⟨F, B, ad2, as2, _, as3, R3, rp _ (zzB hi), e3, λ σ4 ad4 H4 R4 g4 _ => ?_⟩
   refine ⟨F, B, ad4, as3, o3, R4, e4, ?_⟩
   have gg := (g2.trans g3).trans g4
   cases o3 with
   | nx as5 => exact λ σ5 ad5 H5 R5 g5 => ⟨ad5, as5, R5, gg.trans g5, e2⟩
   | ct as5 => exact λ σ5 ad5 H5 R5 g5 => ⟨ad5, as5, R5, gg.trans g5, e2⟩
   | bk as5 =>
    cases e2
    exact λ σ5 ad5 H5 R5 g5 => q σ5 ad5 H5 R5 (g1.trans (gg.trans g5))
   | rt r =>
    cases e2
    exact λ v T H5 ro g5 => q v T H5 ro (g1.trans (gg.trans g5))
 · refine .inl ⟨k2 (by omega), ?_⟩
   rw [List.drop_eq_nil_of_le (by omega)] at e2
   cases e2
   exact q σ2 ad2 H2 R2 (g1.trans g2))
def whL (c : TF) (f : SF) : Nat -> AS -> Option Out
 | 0, _ => none
 | n + 1, as => (c as).bind λ p => if p.1 = true then (f p.2).bind λ o => match o with
  | .nx as' => whL c f n as'
  | .ct as' => whL c f n as'
  | .bk as' => some (.nx as')
  | .rt r => some (.rt r) else some (.nx p.2)
theorem zeZ {n : Nat} (hp : PassesOwn (model X.prog X.w) X.A X.env X.xe) (hc : AT X kd c ta) (hb : ASs X kd body f) : ASt X kd (.While c body [] pos) (whL ta f n) := by with_unfolding_all exact (Zm (zkW hp hc hb) λ D σ H h => by
 obtain ⟨F, B, ad, as, o, R, e, q⟩ := h
 refine ⟨λ m σ2 H2 => ∃ ad2 as2, Rel X.K kd F B [] ad2 as2 σ2 H2 /\ Grow (Gw [] ad) H (Gw [] ad2) H2 /\ whL ta f m as2 = some o, ⟨n, ad, as, R, Grow.refl, e⟩, ?_⟩
 rintro m σ2 H2 ⟨ad2, as2, R2, g2, e2⟩
 cases m with
 | zero => cases e2
 | succ m =>
  obtain ⟨⟨p, as3⟩, e3, e2⟩ := bS_ (show (ta as2).bind _ = _ from e2)
  refine ⟨F, B, ad2, as2, p, as3, R2, e3, λ ad3 H3 R3 g3 => ?_⟩
  cases p with
  | true =>
   rw [if_pos rfl] at e2 ⊢
   obtain ⟨o3, e4, e2⟩ := bS_ e2
   refine ⟨λ σ3 H3 => ∃ ad3 as3, Rel X.K kd F B [] ad3 as3 σ3 H3 /\ Grow (Gw [] ad) H (Gw [] ad3) H3 /\ whL ta f m as3 = some o, λ σ3 H3 h => ⟨m, by omega, h⟩, F, B, ad3, as3, o3, R3, e4, ?_⟩
   have gg := g2.trans g3
   cases o3 with
   | nx as5 => exact λ σ5 ad5 H5 R5 g5 => ⟨ad5, as5, R5, gg.trans g5, e2⟩
   | ct as5 => exact λ σ5 ad5 H5 R5 g5 => ⟨ad5, as5, R5, gg.trans g5, e2⟩
   | bk as5 =>
    cases e2
    exact λ σ5 ad5 H5 R5 g5 => q σ5 ad5 H5 R5 (gg.trans g5)
   | rt r =>
    cases e2
    exact λ v T H5 ro g5 => q v T H5 ro (gg.trans g5)
  | false =>
   rw [if_neg zyT] at e2 ⊢
   cases e2
   exact q σ2 ad3 H3 R3 (g2.trans g3))
def zhu : It1 -> Option (List It1)
 | (st, .lst ds) => some (kids st ds)
 | (st, .tup ds) => some (kids st ds)
 | _ => none
def Vk (f : EF) : IF := λ as => (f as).bind λ p => (zax p.2 p.1).bind λ q => (zhu q.1).bind λ ds => some (ds, q.2)
theorem zgS {K : zC} {F B : Addr -> Prop} {ad : Ad} {H : Hp} {a : Addr} {vs : List V} {ds : List It1} (hs : ∀ (ad3 : Ad) (H3 : Hp), Grow (Gw [] ad) H (Gw [] ad3) H3 -> SqL K H3 a vs) (r : RpI K kd F B (Gw [] ad) H vs ds) : ItOk K kd F B ad H (Itl K a) ds := ⟨λ ad3 H3 g3 _ i => by
 have hr3 := hs ad3 H3 g3
 have rl3 := r.grow g3
 refine ⟨λ hi => ?_, λ hi => ⟨_, hr3, by rw [r.length]; exact hi⟩, λ v H4 hy => ?_⟩
 · obtain ⟨u, hu, _⟩ := r.get (zzB hi)
   exact ⟨_, u, hr3, hu⟩
 · obtain ⟨rfl, hv⟩ := hy
   refine ⟨λ _ _ z => z, λ d hd => ?_⟩
   obtain ⟨u, hu, ru⟩ := rl3.get hd
   have := hv _ hr3
   rw [hu] at this
   cases this
   exact ru⟩
theorem znp {K : zC} {F B : Addr -> Prop} {ad : Ad} {H : Hp} {a : Addr} {vs : List V} {ds : List It1} (hs : ∀ (ad3 : Ad) (H3 : Hp), Grow (Gw [] ad) H (Gw [] ad3) H3 -> SqT K H3 a vs) (r : RpI K kd F B (Gw [] ad) H vs ds) : ItOk K kd F B ad H (Itt K a) ds := ⟨λ ad3 H3 g3 _ i => by
 have hr3 := hs ad3 H3 g3
 have rl3 := r.grow g3
 refine ⟨λ hi => ?_, λ hi => ⟨_, hr3, by rw [r.length]; exact hi⟩, λ v H4 hy => ?_⟩
 · obtain ⟨u, hu, _⟩ := r.get (zzB hi)
   exact ⟨_, u, hr3, hu⟩
 · obtain ⟨rfl, hv⟩ := hy
   refine ⟨λ _ _ z => z, λ d hd => ?_⟩
   obtain ⟨u, hu, ru⟩ := rl3.get hd
   have := hv _ hr3
   rw [hu] at this
   cases this
   exact ru⟩
theorem zea (he : AE X kd e fa) : AI X kd tg e (Vk fa) := by
 with_unfolding_all (
 intro pins s σ H R I h
 obtain ⟨F, B, ad, as, ds, as', Rl, e, q⟩ := h
 obtain ⟨⟨p, as1⟩, h1, e⟩ := bS_ (show (fa as).bind _ = _ from e)
 obtain ⟨⟨⟨st, x⟩, as2⟩, h2, e⟩ := bS_ e
 obtain ⟨ys, h3, e⟩ := bS_ e
 cases e
 cases x with
 | lst xs =>
  cases h3
  refine zdX he pins s σ H R I ⟨F, B, ad, as, p, as1, Rl, h1, λ v T1 ad1 H1 R1 rv1 g1 => ?_⟩
  obtain ⟨ad2, R2, rp, le⟩ := Wq R1 rv1 h2
  cases rp with
  | lst hn hr rl => exact ⟨_, rfl, ⟨_, .inl hr⟩, q _ ad2 H1 R2 (g1.trans (Grow.less le)) (zgS (λ ad3 H3 g3 => .inl (Wu g3 (λ z => hn (.inr z)) hr)) (Wv rl))⟩
  | lstK a b c rl => exact ⟨_, rfl, ⟨_, .inr ⟨_, _, _, a, rfl, rfl, rfl, b, c⟩⟩, q _ ad2 H1 R2 (g1.trans (Grow.less le)) (zgS (λ ad3 H3 g3 => .inr ⟨_, _, _, a, rfl, rfl, rfl, b, c⟩) (Wv rl))⟩
 | tup xs =>
  cases h3
  refine zfx he pins s σ H R I ⟨F, B, ad, as, p, as1, Rl, h1, λ v T1 ad1 H1 R1 rv1 g1 => ?_⟩
  obtain ⟨ad2, R2, rp, le⟩ := Wq R1 rv1 h2
  have go : ∃ a ys, v = .ref a /\ (∀ (ad3 : Ad) (H3 : Hp), Grow (Gw [] ad2) H1 (Gw [] ad3) H3 -> SqT X.K H3 a ys) /\ RpL X.K kd (Lv F B (Gw [] ad2) st) H1 ys xs := by
   cases rp with
   | tup n h r => exact ⟨_, _, rfl, λ ad3 H3 g3 => .inl (Wu g3 (λ z => n (.inr z)) h), r⟩
   | tupK a b c e f r => exact ⟨_, _, rfl, λ ad3 H3 g3 => .inr ⟨_, _, _, a, b, c, e, f⟩, r⟩
  obtain ⟨a, ys, rfl, hs, rl⟩ := go
  exact ⟨_, rfl, ⟨_, hs ad2 H1 Grow.refl⟩, q _ ad2 H1 R2 (g1.trans (Grow.less le)) (znp hs (Wv rl))⟩
 | _ => cases h3)
def wI (lo : Int) (n : Nat) : List It1 := (List.range n).map λ (i : Nat) => (true, D.int (lo + (i : Int)))
theorem zkc {K : zC} {F B : Addr -> Prop} {ad : Ad} {H : Hp} (lo : Int) (n : Nat) : ItOk K kd F B ad H (Itr lo n) (wI lo n) := ⟨λ ad2 H2 g _ i => by
 have hl : (wI lo n).length = n := by unfold wI; simp
 refine ⟨λ hi => by rw [hl] at hi; exact hi, λ hi => by rw [hl] at hi; exact hi, λ v H3 hy => ?_⟩
 obtain ⟨rfl, rfl⟩ := hy
 refine ⟨λ _ _ z => z, λ d hd => ?_⟩
 have hi : i < n := by rw [<- hl]; exact (zzD.mp hd).1
 unfold wI at hd
 rw [zzF, List.getElem?_range hi] at hd
 cases hd
 exact .int _⟩
def zqP : List D -> Option D
 | [x] => some x
 | _ => none
theorem zme {ds : List D} {d : D} (h : zqP ds = some d) : ds = [d] := by
 cases ds with
 | nil => cases h
 | cons x r =>
  cases r with
  | nil => cases h; rfl
  | cons _ _ => cases h
def xq (ds : List D) : Option (List It1) := ((zqP ds).bind asI).bind λ j => if -(2 ^ 62) <= j /\ j < 2 ^ 62 then some (wI 0 j.toNat) else none
theorem zgZ {ds : List D} {xs : List It1} (h : xq ds = some xs) : ∃ j, ds = [.int j] /\ (if -(2 ^ 62) <= j /\ j < 2 ^ 62 then some (wI 0 j.toNat) else none) = some xs := by
 obtain ⟨j, h1, h⟩ := bS_ h
 obtain ⟨d, h2, h1⟩ := bS_ h1
 cases zdN h1
 exact ⟨j, zme h2, h⟩
def zpy : List D -> Option (List It1)
 | [.int i, .int j] => if -(2 ^ 62) <= i /\ i < 2 ^ 62 /\ -(2 ^ 62) <= j /\ j < 2 ^ 62 then some (wI i (j - i).toNat) else none
 | _ => none
def yX (fr : AF) (h : List D -> Option (List It1)) : IF := λ as => (fr as).bind λ p => (views p.2 p.1).bind λ ds => (h ds.1).bind λ xs => some (xs, p.2)
theorem xr {fr : AF} {p : Pos} (hg : Gl X "range") (hm : X.mg "range" = none) (ha : AA X kd [a] fr) (hs : starEach [a] X.env = [(false, eval a X.env)]) : AI X kd tg (.Call (.Name "range" p) [a] [] pos) (yX fr xq) := by
 with_unfolding_all (
 intro pins s σ H R I h
 obtain ⟨F, B, ad, as, ds, as', Rl, e, q⟩ := h
 obtain ⟨⟨ps, as1⟩, h1, e⟩ := bS_ (show (fr as).bind _ = _ from e)
 obtain ⟨⟨xs, lv⟩, h2, e⟩ := bS_ e
 obtain ⟨ys, h3, e⟩ := bS_ e
 cases e
 obtain ⟨j, rfl, h3⟩ := zgZ h3
 · obtain ⟨hj, e3⟩ := zP h3
   cases e3
   refine zdk hg hm ha hs pins s σ H R I ⟨F, B, ad, as, ps, _, Rl, h1, λ vs ad1 H1 R1 rv1 g1 => ?_⟩
   have vl := Xg R1 rv1 h2
   cases vl with
   | cons v1 v2 =>
    cases v2
    cases v1
    exact ⟨j, rfl, hj.1, hj.2, q _ ad1 H1 R1 g1 (zkc 0 _)⟩)
theorem zih {fr : AF} {p : Pos} (hg : Gl X "range") (hm : X.mg "range" = none) (ha : AA X kd [a, b] fr) (hs : starEach [a, b] X.env = [(false, eval a X.env), (false, eval b X.env)]) (hs2 : starEach [b] X.env = [(false, eval b X.env)]) : AI X kd tg (.Call (.Name "range" p) [a, b] [] pos) (yX fr zpy) := by
 with_unfolding_all (
 intro pins s σ H R I h
 obtain ⟨F, B, ad, as, ds, as', Rl, e, q⟩ := h
 obtain ⟨⟨ps, as1⟩, h1, e⟩ := bS_ (show (fr as).bind _ = _ from e)
 obtain ⟨⟨xs, lv⟩, h2, e⟩ := bS_ e
 obtain ⟨ys, h3, e⟩ := bS_ e
 cases e
 match xs, h3, h2 with
 | [.int i, .int j], h3, h2 =>
  obtain ⟨hj, e3⟩ := zP (show (if -(2 ^ 62) <= i /\ i < 2 ^ 62 /\ -(2 ^ 62) <= j /\ j < 2 ^ 62 then some (wI i (j - i).toNat) else none) = some ds from h3)
  cases e3
  refine ziq hg hm ha hs hs2 pins s σ H R I ⟨F, B, ad, as, ps, _, Rl, h1, λ vs ad1 H1 R1 rv1 g1 => ?_⟩
  have vl := Xg R1 rv1 h2
  cases vl with
  | cons v1 v2 =>
   cases v2 with
   | cons v2 v3 =>
    cases v3
    cases v1
    cases v2
    exact ⟨i, j, rfl, hj, q _ ad1 H1 R1 g1 (zkc i _)⟩)
theorem Rel.mut {K : zC} {F B : Addr -> Prop} {T fo : List Addr} {ad : Ad} {as : AS} {σ : St} {H : Hp} {i : Nat} {l : Addr} {fp fp' : List Addr} {n : O} {u : HO} (R : Rel K kd F B T ad as σ H) (hi : i < as.length) (hl : ad i = l :: fp) (hs : σ[i]? = some (some (.ref l)))
 (hsub : ∀ a ∈ fp' ++ fo, a ∈ fp ++ T) (hnd : (fp' ++ fo).Nodup) (hu : H l ≠ none)
 (ro : ∀ (H' : Hp) (G' : Addr -> Prop), H' l = some u -> Grow (Gw T ad) H G' H' -> (∀ a ∈ fp', ∀ w, H a = some w -> H' a = some w) -> RoS K kd F B G' H' (.ref l) n (l :: fp')) :
 Rel K kd F B fo (xj ad i (l :: fp')) (as.set i (some n)) σ (upd H l u) /\ Grow (Gw T ad) H (Gw fo (xj ad i (l :: fp'))) (upd H l u) := by
 have hli : l ∈ ad i := by rw [hl]; exact zzC
 have lT : l ∉ T := R.dis i l hli
 have lfp : l ∉ fp := by have := R.nd i; rw [hl] at this; exact (zzT.mp this).1
 have lsub : ∀ a ∈ fp' ++ fo, a ≠ l := λ a m e => by
  subst e
  rcases zzJ.mp (hsub _ m) with z | z
  · exact lfp z
  · exact lT z
 have sub : ∀ a ∈ fp' ++ fo, Gw T ad a := λ a m => by
  rcases zzJ.mp (hsub a m) with z | z
  · exact .inr ⟨i, by rw [hl]; exact zzA _ z⟩
  · exact .inl z
 have gsub : ∀ a, Gw fo (xj ad i (l :: fp')) a -> Gw T ad a := λ a z => by
  rcases z with z | ⟨j, z⟩
  · exact sub a (zzI _ z)
  · by_cases e : j = i
    · subst e
      rw [zM] at z
      rcases zS.mp z with z | z
      · subst z; exact .inr ⟨j, hli⟩
      · exact sub a (zzM _ z)
    · rw [zT e] at z; exact .inr ⟨j, z⟩
 have g : Grow (Gw T ad) H (Gw fo (xj ad i (l :: fp'))) (upd H l u) := ⟨λ b w h n => by rw [zQ (λ e => n (by subst e; exact .inr ⟨i, hli⟩))]; exact h, λ b z => .inl (gsub b z)⟩
 have kn : ∀ a, H a ≠ none -> upd H l u a ≠ none := λ a z => by
  by_cases e : a = l
  · subst e; rw [yc]; simp
  · rw [zQ e]; exact z
 obtain ⟨hnd1, hnd2, hnd3⟩ := zxC.mp hnd
 have inT : ∀ j a, j ≠ i -> a ∈ ad j -> a ∈ fp' ++ fo -> False := λ j a hj m m' => by
  rcases zzJ.mp (hsub a m') with z | z
  · exact hj (R.inj j i a m (by rw [hl]; exact zzA _ z))
  · exact R.dis j a m z
 refine ⟨⟨by rw [zzR]; exact R.len, λ j hj => ?_, λ j => ?_, λ j k a h1 h2 => ?_, hnd2, λ j a h1 h2 => ?_, λ a z => kn a (R.ftr a z), λ a z => ?_, λ a z => ⟨kn a (R.gtr a (gsub a z)).1, (R.gtr a (gsub a z)).2⟩, λ j s e => ?_⟩, g⟩
 · rw [zzR] at hj
   rw [zT (by omega)]; exact R.out j hj
 · by_cases e : j = i
   · subst e; rw [zM]
     exact zzT.mpr ⟨λ m => lsub l (zzM _ m) rfl, hnd1⟩
   · rw [zT e]; exact R.nd j
 · by_cases e : j = i
   · subst e
     by_cases e' : k = j
     · exact e'.symm
     · rw [zM] at h1
       rw [zT e'] at h2
       rcases zS.mp h1 with z | z
       · subst z; exact R.inj j k a hli h2
       · exact (inT k a e' h2 (zzM _ z)).elim
   · rw [zT e] at h1
     by_cases e' : k = i
     · subst e'
       rw [zM] at h2
       rcases zS.mp h2 with z | z
       · subst z; exact R.inj j k a h1 hli
       · exact (inT j a e h1 (zzM _ z)).elim
     · rw [zT e'] at h2
       exact R.inj j k a h1 h2
 · by_cases e : j = i
   · subst e
     rw [zM] at h1
     rcases zS.mp h1 with z | z
     · subst z; exact lsub a (zzI _ h2) rfl
     · exact hnd3 a z a h2 rfl
   · rw [zT e] at h1
     exact inT j a e h1 (zzI _ h2)
 · obtain ⟨b1, b2, b3⟩ := R.btr a z
   exact ⟨kn a b1, b2, λ y => b3 (gsub a y)⟩
 · by_cases q : j = i
   · subst q
     rw [zyH hi] at e
     cases e
     rw [zM]
     refine ⟨_, hs, ro _ _ yc g λ a m w h => ?_⟩
     rw [zQ (lsub a (zzM _ m))]; exact h
   · rw [zzV (Ne.symm q)] at e
     rw [zT q]
     refine (R.sl j s e).grow g λ a m w h => ?_
     rw [zQ (λ z => q (R.inj j i l (by rw [<- z]; exact m) hli))]; exact h
abbrev MG := List O -> List O -> Option (List O × O)
def vg (i : Nat) (fr : DF) (g : MG) : EF := λ as => match as[i]? with
 | some (some (.nd .ls _)) => (fr as).bind λ p => match p.2[i]? with
  | some (some (.nd .ls os)) => (g os p.1).bind λ z => some (.ow z.2, p.2.set i (some (.nd .ls z.1)))
  | _ => none
 | _ => none
def MuD (X : Cx) (kd : KD) (r : V -> List V -> Hp -> VK -> Prop) (g : MG) : Prop :=
 ∀ (F B G : Addr -> Prop) (l : Addr) (vs ws : List V) (os es os' : List O) (o : O) (fp fq : List Addr) (H : Hp) (Q : VK), H l = some (.lst vs) -> wY X.K kd F B G H vs os fp -> wY X.K kd F B G H ws es fq -> (fp ++ fq).Nodup -> g os es = some (os', o) ->
  (∀ v vs' fp' fo, wY X.K kd F B G H vs' os' fp' -> RoS X.K kd F B G H v o fo -> (∀ a ∈ fp' ++ fo, a ∈ fp ++ fq) -> (fp' ++ fo).Nodup -> Q v (upd H l (.lst vs'))) -> r (.ref l) ws H Q
theorem zpw {i : Nat} {fr : DF} {g : MG} {r : V -> List V -> Hp -> VK -> Prop} (hr : MuD X kd r g)
 {σ : St} {H : Hp} {Q : VK} (h : al X.K kd (vg i fr g) σ H Q) : tBM X.K "list" r (Vh i) (alD X.K kd fr) σ H Q := by
 obtain ⟨F, B, ad, as, z, as', R, e, q⟩ := h
 unfold vg at e
 cases k : as[i]? with
 | none => rw [k] at e; cases e
 | some a0 =>
  rw [k] at e
  match a0, e, k with
  | some (.nd .ls os0), e, k =>
   obtain ⟨⟨es, as1⟩, h1, e⟩ := bS_ (show (fr as).bind _ = _ from e)
   obtain ⟨v0, hs0, ro0⟩ := R.sl i _ k
   generalize hfp0 : ad i = fp0 at ro0
   cases ro0 with
   | ls hH0 rl0 =>
   rename_i l vs0 fp00
   refine ⟨_, hs0, .inl ⟨rfl, _, .inl (.inl hH0)⟩, F, B, ad, as, es, as1, R, h1, λ ws T1 ad1 H1 R1 ro1 g1 => ?_⟩
   cases k2 : as1[i]? with
   | none => rw [k2] at e; cases e
   | some a2 =>
    rw [k2] at e
    match a2, e, k2 with
    | some (.nd .ls os), e, k2 =>
     obtain ⟨⟨os', o⟩, h3, e⟩ := bS_ (show (g os es).bind _ = _ from e)
     cases e
     obtain ⟨v1, hs1, ro2⟩ := R1.sl i _ k2
     rw [hs0] at hs1
     cases hs1
     generalize hfp : ad1 i = fp1 at ro2
     cases ro2 with
     | ls hH rl =>
     rename_i vs fp
     have hnd : (fp ++ T1).Nodup := zxC.mpr ⟨by have := R1.nd i; rw [hfp] at this; exact (zzT.mp this).2, R1.tnd, λ a m b m' e => by
          subst e; exact R1.dis i a (by rw [hfp]; exact zzA _ m) m'⟩
     refine hr F B (Gw T1 ad1) _ vs ws os es os' o fp T1 H1 Q hH rl ro1 hnd h3 λ v vs' fp' fo rl' ro' hsub hnd' => ?_
     obtain ⟨R3, g3⟩ := R1.mut (n := .nd .ls os') (u := .lst vs') (zzD.mp k2).1 hfp hs0 hsub hnd' (by rw [hH]; simp) λ H' G' hl' gr kp => .ls hl' (wY.grow gr kp rl')
     have lno : ∀ a ∈ fo, ∀ w, H1 a = some w -> upd H1 l (.lst vs') a = some w := λ a m w h => by
          rw [zQ (λ e => ?_)]
          · exact h
          · subst e
            rcases zzJ.mp (hsub _ (zzI _ m)) with z | z
            · have := R1.nd i; rw [hfp] at this; exact (zzT.mp this).1 z
            · exact R1.dis i _ (by rw [hfp]; exact zzC) z
     exact q v fo _ _ R3 (RoS.grow g3 lno ro') (g1.trans g3)
end
end PF
end
section
set_option exponentiation.threshold 5000
namespace PF
open PySem PySem.Spec PyProof.Rows L2
section
variable {K : zC} {kd : KD} {O : Addr -> Prop} {H : Hp} {Q : VK}
theorem yo {d : D} {v : V} (q : RQ K kd O H Q (.im d)) (r : Rp K kd O H v d) : Q v H := q v H (λ _ _ z => z) r
theorem zhE {vs : List V} {ds : List D} {p : Addr} {o : HO} (hp : H p = none) (r : RpL K kd O H vs ds) : RpL K kd (Un2 O (· = p)) (upd H p o) vs ds :=
 RpL.grow (F := O) (W := λ _ => False) ⟨λ b u q _ => by rw [zQ (yH q hp)]; exact q, λ b z => .inr (by rw [z]; exact hp)⟩ (r.less λ a z => z.elim id False.elim)
theorem zlp {vs : List (Key × V)} {ds : List (Key × D)} {p : Addr} {o : HO} (hp : H p = none) (r : RpM K kd O H vs ds) : RpM K kd (Un2 O (· = p)) (upd H p o) vs ds :=
 RpM.grow (F := O) (W := λ _ => False) ⟨λ b u q _ => by rw [zQ (yH q hp)]; exact q, λ b z => .inr (by rw [z]; exact hp)⟩ (r.less λ a z => z.elim id False.elim)
theorem Wg {p : Addr} {o : HO} (hp : H p = none) : ∀ b u, H b = some u -> upd H p o b = some u := λ b u q => by rw [zQ (yH q hp)]; exact q
theorem Vf {vs : List V} {ds : List D} (q : RQ K kd O H Q (.fl ds)) (r : RpL K kd O H vs ds) : ∀ p, H p = none -> Q (.ref p) (upd H p (.lst vs)) := λ p hp =>
 q p vs _ hp (Wg hp) yc (zhE hp r)
theorem zjY {vs : List (Key × V)} {ds : List (Key × D)} (q : RQ K kd O H Q (.fd ds)) (r : RpM K kd O H vs ds) : ∀ p, H p = none -> Q (.ref p) (upd H p (.dK vs)) := λ p hp =>
 q p vs _ hp (Wg hp) yc (zlp hp r)
theorem zfQ {vs : List V} {ds : List D} (ht : ∀ a, O a -> H a ≠ none) (q : RQ K kd O H Q (.im (.tup ds))) (r : RpL K kd O H vs ds) : ∀ p, H p = none -> Q (.ref p) (upd H p (.tup vs)) := λ p hp =>
 q _ _ (Wg hp) (.tup (λ z => ht p z hp) (.inl yc) ((zhE hp r).less λ a z => .inl z))
end
def big : Nat := 2 ^ 4000
theorem zfc {i : Int} (h : i.natAbs < big) : Builtin.Int.intBits i <= 2 ^ 20 := by
 unfold Builtin.Int.intBits
 split
 · exact Nat.zero_le _
 · have : i.natAbs.log2 < 4000 := by
    rcases Nat.eq_zero_or_pos i.natAbs with h0 | hp
    · rw [h0]; decide
    · exact (Nat.log2_lt (Nat.ne_of_gt hp)).mpr h
   have e : (2 : Nat) ^ 20 = 1048576 := by decide
   omega
def onI (f : Int -> Int -> Option R0) (x y : D) : Option R0 := (asI x).bind λ i => (asI y).bind λ j => f i j
def zrk (x y : D) : Option R0 := match x with
 | .int i => (asI y).bind λ j => some (.im (.int (i + j)))
 | .str x => (asS y).bind λ y => if x.length + y.length <= sizeLine then some (.im (.str (x ++ y))) else none
 | .lst xs => (asL y).bind λ ys => if xs.length + ys.length <= sizeLine then some (.fl (xs ++ ys)) else none
 | .tup xs => (asT y).bind λ ys => if xs.length + ys.length <= sizeLine then some (.im (.tup (xs ++ ys))) else none
 | _ => none
def zrz (x y : D) : Option R0 := match x with
 | .int i => (asI y).bind λ j => if i.natAbs < big /\ j.natAbs < big then some (.im (.int (i * j))) else none
 | .lst xs => (asI y).bind λ k => if -(2 ^ 63) <= k /\ k < 2 ^ 63 /\ xs.length * k.toNat <= sizeLine then some (.fl (List.replicate k.toNat xs).flatten) else none
 | .tup xs => (asI y).bind λ k => if 1 <= k /\ k < 2 ^ 63 /\ xs.length ≠ 0 /\ xs.length * k.toNat <= sizeLine then some (.im (.tup (List.replicate k.toNat xs).flatten)) else none
 | _ => none
def zak (o : Operator) (x y : D) : Option R0 := match o with
 | .Add => zrk x y
 | .Sub => onI (λ i j => some (.im (.int (i - j)))) x y
 | .Mult => zrz x y
 | .FloorDiv => onI (λ i j => if 0 < j /\ j.natAbs < big then some (.im (.int (i / j))) else none) x y
 | .Mod => onI (λ i j => if 0 < j then some (.im (.int (i % j))) else none) x y
 | .Pow => onI (λ i j => if 0 <= j /\ j <= 1000000 /\ i.natAbs < 2 ^ 64 then some (.im (.int (i ^ j.toNat))) else none) x y
 | _ => none
theorem YQ {K : zC} {kd : KD} {O : Addr -> Prop} {H : Hp} {v : V} {d : D} {i : Int} (h : Vw K kd O H v d) (e : asI d = some i) : d = .int i /\ v = .int i := by
 cases h with
 | int j => cases e; exact ⟨rfl, rfl⟩
 | _ => cases e
theorem zoK {K : zC} {kd : KD} {O : Addr -> Prop} {H : Hp} {v : V} {d : D} {i : Str} (h : Vw K kd O H v d) (e : asS d = some i) : d = .str i /\ v = .str i := by
 cases h with
 | str j => cases e; exact ⟨rfl, rfl⟩
 | _ => cases e
theorem Yt {K : zC} {kd : KD} {O : Addr -> Prop} {H : Hp} {v w : V} {d e : D} {f : Int -> Int -> Option R0} {r : R0} (vx : Vw K kd O H v d) (vy : Vw K kd O H w e) (h : onI f d e = some r) : ∃ i j, v = .int i /\ w = .int j /\ f i j = some r := by
 obtain ⟨i, h1, h⟩ := bS_ (show (asI d).bind _ = _ from h)
 obtain ⟨j, h2, h⟩ := bS_ h
 exact ⟨i, j, (YQ vx h1).2, (YQ vy h2).2, h⟩
section
variable {X : Cx} {kd : KD}
theorem zlT : OpR X (binaryOp .Add) (λ x y H Q => ∃ l b xs zs, x = .ref l /\ y = .ref b /\ RdL X.K H l xs /\ RdL X.K H b zs /\ xs.length + zs.length <= sizeLine /\ ∀ p, H p = none -> Q (.ref p) (upd H p (.lst (xs ++ zs)))) := by
 intro pins s σ H x y v u Q I rx ry h
 obtain ⟨l, b, xs, zs, rfl, rfl, hH, hB, hz, q⟩ := h
 cases rx
 cases ry
 obtain ⟨z, its, n, r, e⟩ := zgh I hH
 obtain ⟨z2, its2, n2, r2, e2⟩ := zgh I hB
 have hl := r.length
 have hl2 := r2.length
 refine PySem.P.add_list e e2 ?_ (by rw [zzE, zzE]; omega)
 have ea : its.toArray ++ its2.toArray = (its ++ its2).toArray := by simp
 rw [ea]
 exact ⟨.ref _, _, I.lnew (t' := s.toks) (r.append r2) (by rw [zzG]; omega), rfl, q _ I.fresh⟩
theorem zmm : OpR X (binaryOp .Mult) (λ x y H Q => ∃ l k xs, x = .ref l /\ y = .int k /\ RdL X.K H l xs /\ -(2 ^ 63) <= k /\ k < 2 ^ 63 /\ xs.length * k.toNat <= sizeLine /\
 ∀ p, H p = none -> Q (.ref p) (upd H p (.lst (List.replicate k.toNat xs).flatten))) := by
 intro pins s σ H x y v u Q I rx ry h
 obtain ⟨l, k, xs, rfl, rfl, hH, h1, h2, hz, q⟩ := h
 cases rx
 obtain ⟨t, rfl⟩ := ry
 obtain ⟨z, its, n, r, e⟩ := zgh I hH
 have hl := r.length
 have hlen : its.toArray.size * k.toNat <= sizeLine := by rw [zzE, <- hl]; exact hz
 have hcap : ¬ its.toArray.size * k.toNat > (2 ^ 63 - 1) / 8 := by
  have : (sizeLine : Nat) <= (2 ^ 63 - 1) / 8 := by decide
  omega
 have hfit : ¬ (!Builtin.List.listFitsIndex k) = true := by
  rw [fitsIndex_both h1 h2]
  exact zyT
 have hlong : ¬ Builtin.List.listTooLong (its.toArray.size * k.toNat) = true := by
  rw [zkA hlen]
  exact zyT
 have hnew : List.foldl (λ x1 x2 => x1 ++ x2) #[] (List.replicate (if its.toArray.isEmpty = true then 0 else k.toNat) its.toArray) = (List.replicate k.toNat its).flatten.toArray := by
  have f0 : ∀ m : Nat, List.foldl (λ x1 x2 => x1 ++ x2) #[] (List.replicate m its.toArray) = (List.replicate m its).flatten.toArray := λ m => by
   have := foldl_rep its m []
   rw [List.nil_append] at this
   exact this
  rw [f0]
  cases its with
  | nil => simp
  | cons a r' => rw [if_neg (by simp)]
 refine wpAny_binaryOp_repeat_ref (T := "list") (U := "int") (by decide) ⟨_, e, rfl⟩ (λ s' => typeIs_int s' k t) noFill_list_mul F.fills_int_mul F.slot_int_rmul repeat_list F.slot_int_index.lookup
  (call_meets F.slot_int_rmul (typeIs_int s k t) F.entry_int_rmul (F.args_int_rmul_2 _ _) (int___rmul___int_list k t l its.toArray n)
   ⟨e, rfl, ⟨_, e, rfl⟩, call_meets F.slot_list_mul ⟨_, e, rfl⟩ F.entry_list_mul (F.args_list_mul_2 _ _) (AutoListH.list___mul___list_int_3 l its.toArray n k t hfit hcap hlong) ⟨e, ?_⟩⟩)
 rw [hnew]
 refine ⟨.ref _, _, I.lnew (t' := s.toks) (r.rep k.toNat) ?_, rfl, q _ I.fresh⟩
 rw [len_rep, Nat.mul_comm]
 exact hz
theorem tuple_addW0 (l b : Addr) (items items2 : Array Value) (n n2 : Nat) (dd dd2 : Option Addr) (sl sl2 : Array (Option Value)) (h0 : items.isEmpty = true) :
 Meets (Builtin.«tuple.__add__» { pos := [.ref l, .ref b] }) (λ _ R s => s.heap.get? l = some { cls := .type "tuple", dict := dd, data := .seq items n, slots := sl } /\ s.heap.get? b = some { cls := .type "tuple", dict := dd2, data := .seq items2 n2, slots := sl2 } /\ R (.ok (.ret (.ref b))) s) :=
 .of_wp λ prog w A R s h => by
  obtain ⟨hp, g, d, tk, os⟩ := s; obtain ⟨hl, hb, h⟩ := h
  have f2 := AutoSeq1.sub_tuple_tuple
  wp_walk using wpAny_loadPart' hl, wpAny_loadPart' hb
  exact ⟨_, rfl, h⟩
theorem zfs (l : Addr) (items : Array Value) (n : Nat) (dd : Option Addr) (sl : Array (Option Value)) (u : Tok) :
 Meets (Builtin.«tuple.__mul__» { pos := [.ref l, .int 1 u] }) (λ _ R s => s.heap.get? l = some { cls := .type "tuple", dict := dd, data := .seq items n, slots := sl } /\ R (.ok (.ret (.ref l))) s) :=
 .of_wp λ prog w A R s h => by
  obtain ⟨hp, g, d, tk, os⟩ := s; obtain ⟨hl, h⟩ := h
  have f2 := AutoSeq1.sub_tuple_tuple
  wp_walk using wpAny_loadPart' hl
  exact ⟨_, rfl, h⟩
theorem zeL (l : Addr) (items its2 : Array Value) (n : Nat) (dd : Option Addr) (sl : Array (Option Value)) (x : Int) (u : Tok) (c1 : ¬ (decide (x < -2 ^ 63) || decide (x ≥ 2 ^ 63)) = true) (c2 : ¬ (items.isEmpty || x == 1) = true) (c3 : ¬ (decide (x <= 0) || items.isEmpty) = true)
 (hcap : ¬ (items.size : Int) * x > (2 ^ 63 - 1) / 8) (ht : ¬ Builtin.Tuple.tupleTooMany (items.size * x) = true) (hz : ¬ (List.foldl (λ x1 x2 => x1 ++ x2) #[] (List.replicate x.toNat items)).size > sizeLine) :
 Meets (Builtin.«tuple.__mul__» { pos := [.ref l, .int x u] }) (λ _ R s => s.heap.get? l = some { cls := .type "tuple", dict := dd, data := .seq items n, slots := sl } /\ R (.ok (.ret (.ref s.heap.objs.size))) { s with heap := s.heap.push { cls := .type "tuple", data := .seq (List.foldl (λ x1 x2 => x1 ++ x2) #[] (List.replicate x.toNat items)) } }) :=
 .of_wp λ prog w A R s h => by
  obtain ⟨hp, g, d, tk, os⟩ := s; obtain ⟨hl, h⟩ := h
  have f2 := AutoSeq1.sub_tuple_tuple
  wp_walk using wpAny_loadPart' hl
  rw [if_neg c1]
  wp_walk using wpAny_loadPart' hl
  rw [if_neg hcap]
  wp_walk
  exact ⟨_, rfl, h⟩
theorem zaI : fillsNumberSlot (Value.type "tuple") "mul" = pure false := PySem.fillsNumberSlot_seq rfl rfl rfl rfl
theorem zem : seqRepeat? (Value.type "tuple") = pure (some (Value.builtin "tuple.__mul__")) := W.of_pureOf rfl
theorem zcq (a : Int) (t : Tok) (l : Addr) (items : Array Value) (n : Nat) (dd : Option Addr) (sl : Array (Option Value)) :
 Meets (Builtin.«int.__rmul__» { pos := [.int a t, .ref l] }) (λ _ R s => s.heap.get? l = some { cls := .type "tuple", dict := dd, data := .seq items n, slots := sl } /\ R (.ok (.ret .notImplemented)) s) :=
 .of_wp λ prog w A R s h => by
  obtain ⟨hp, g, d, tk, os⟩ := s; obtain ⟨hl, h⟩ := h
  wp_walk using wpAny_load' hl, wpAny_loadPart' hl
  exact ⟨_, rfl, h⟩
theorem zmw : OpR X (binaryOp .Add) (λ x y H Q => ∃ a b ys, x = .ref a /\ y = .ref b /\ SqT X.K H a [] /\ SqT X.K H b ys /\ Q (.ref b) H) := by
 intro pins s σ H x y v u Q I rx ry h
 obtain ⟨a, b, ys, rfl, rfl, ha, hb, q⟩ := h
 cases rx
 cases ry
 obtain ⟨its, r1, p1, _⟩ := I.tuple ha
 obtain ⟨its2, r2, p2, _⟩ := I.tuple hb
 cases r1
 obtain ⟨⟨cls, dd, data, sl⟩, ho, hc, n, hd⟩ := id p1
 obtain ⟨⟨cls2, dd2, data2, sl2⟩, ho2, hc2, n2, hd2⟩ := id p2
 simp only at hc hd hc2 hd2
 subst hc hd hc2 hd2
 exact concat_meets ⟨_, ho, rfl⟩ ⟨_, ho2, rfl⟩ noFill_tuple_add seq_tuple_add PySem.F.slot_tuple_add PySem.F.entry_tuple_add (PySem.F.args_tuple_add_2 _ _) (tuple_addW0 a b _ _ n n2 dd dd2 sl sl2 rfl) ⟨ho, ho2, ⟨.ref b, H, I, rfl, q⟩⟩
theorem zlm : OpR X (binaryOp .Mult) (λ x y H Q => ∃ l k xs, x = .ref l /\ y = .int k /\ SqT X.K H l xs /\ xs ≠ [] /\ 1 <= k /\ k < 2 ^ 63 /\ xs.length * k.toNat <= sizeLine /\ (k = 1 -> Q (.ref l) H) /\
 (2 <= k -> ∀ p, H p = none -> Q (.ref p) (upd H p (.tup (List.replicate k.toNat xs).flatten)))) := by
 intro pins s σ H x y v u Q I rx ry h
 obtain ⟨l, k, xs, rfl, rfl, hH, hne, h1, h2, hz, q1, q2⟩ := h
 cases rx
 obtain ⟨t, rfl⟩ := ry
 obtain ⟨its, r, p, _⟩ := I.tuple hH
 have hl := r.length
 have hlen : its.toArray.size * k.toNat <= sizeLine := by rw [zzE, <- hl]; exact hz
 have hki : ((its.toArray.size : Int) * k) = ((its.toArray.size * k.toNat : Nat) : Int) := by
  rw [zzS, zyW (by omega)]
 have he : its.toArray.isEmpty = false := by
  cases its with
  | nil => rw [List.length_nil] at hl; exact absurd (List.length_eq_zero_iff.mp hl) hne
  | cons a r' => rfl
 have hnew : List.foldl (λ x1 x2 => x1 ++ x2) #[] (List.replicate k.toNat its.toArray) = (List.replicate k.toNat its).flatten.toArray := by
  have := foldl_rep its k.toNat []
  rw [List.nil_append] at this
  exact this
 obtain ⟨⟨cls, dd, data, sl⟩, ho, hc, n, hd⟩ := id p
 simp only at hc hd
 subst hc hd
 refine wpAny_binaryOp_repeat_ref (T := "tuple") (U := "int") (by decide) ⟨_, ho, rfl⟩ (λ s' => typeIs_int s' k t) zaI F.fills_int_mul F.slot_int_rmul zem F.slot_int_index.lookup
  (call_meets F.slot_int_rmul (typeIs_int s k t) F.entry_int_rmul (F.args_int_rmul_2 _ _) (zcq k t l its.toArray n dd sl) ⟨ho, rfl, ⟨_, ho, rfl⟩, ?_⟩)
 by_cases hk : k = 1
 · subst hk
   exact call_meets F.slot_tuple_mul ⟨_, ho, rfl⟩ F.entry_tuple_mul (F.args_tuple_mul_2 _ _) (zfs l its.toArray n dd sl t) ⟨ho, ⟨.ref l, H, I, rfl, q1 rfl⟩⟩
 · have hfl : (List.replicate k.toNat xs).flatten.length <= sizeLine := by rw [len_rep, Nat.mul_comm]; exact hz
   refine call_meets F.slot_tuple_mul ⟨_, ho, rfl⟩ F.entry_tuple_mul (F.args_tuple_mul_2 _ _) (zeL l its.toArray #[] n dd sl k t (by simp; omega) (by rw [he]; simpa using hk) (by rw [he]; simp; omega) ?_ ?_ ?_) ⟨ho, ?_⟩
   · rw [hki]
     have : ((sizeLine : Nat) : Int) <= (2 ^ 63 - 1) / 8 := by decide
     omega
   · unfold Builtin.Tuple.tupleTooMany
     rw [hki]
     simp only [gt_iff_lt, decide_eq_true_eq]
     omega
   · rw [hnew, zzE, len_rep, Nat.mul_comm]
     rw [zzE] at hlen
     omega
   · rw [hnew]
     refine ⟨.ref s.heap.objs.size, _, I.laid (t' := s.toks) (o := .tup (List.replicate k.toNat xs).flatten) (λ b ob q => zxF _ q) (zzK _) ?_, rfl, q2 (by omega) _ (I.hok.fresh (zzK _))⟩
     exact ⟨hfl, _, r.rep k.toNat, IsTup.new _ _⟩
theorem zj (op : Operator) : OpD X kd (binaryOp op) (zak op) := by
 intro pins s σ H x y v u Q I rx ry h
 obtain ⟨O, d, e, r, ht, vx, vy, he, q⟩ := h
 cases op with
 | Add =>
  cases vx with
  | int i =>
   obtain ⟨j, h1, he⟩ := bS_ (show (asI e).bind _ = _ from he)
   obtain ⟨rfl, rfl⟩ := YQ vy h1
   cases he
   exact zod pins s σ H _ _ v u Q I rx ry ⟨_, _, rfl, rfl, yo q (.int _)⟩
  | str i =>
   obtain ⟨j, h1, he⟩ := bS_ (show (asS e).bind _ = _ from he)
   obtain ⟨rfl, rfl⟩ := zoK vy h1
   obtain ⟨c, rfl⟩ := zP he
   exact zfX pins s σ H _ _ v u Q I rx ry ⟨_, _, rfl, rfl, c, yo q (.str _)⟩
  | lst hx rx' =>
   obtain ⟨j, h1, he⟩ := bS_ (show (asL e).bind _ = _ from he)
   cases Xk h1
   obtain ⟨c, rfl⟩ := zP he
   cases vy with
   | lst hy ry' => exact zlT pins s σ H _ _ v u Q I rx ry ⟨_, _, _, _, rfl, rfl, hx, hy, by rw [rx'.length, ry'.length]; exact c, Vf q (rx'.append ry')⟩
  | @tup a1 vs1 ds1 r1 hx rx' =>
   obtain ⟨j, h1, he⟩ := bS_ (show (asT e).bind _ = _ from he)
   cases zjr h1
   obtain ⟨c, rfl⟩ := zP he
   cases vy with
   | tup r2 hy ry' =>
    by_cases h0 : vs1 = ([] : List V)
    · subst h0
      cases rx'
      exact zmw pins s σ H _ _ v u Q I rx ry ⟨_, _, _, rfl, rfl, hx, hy, yo q r2⟩
    refine zlE pins s σ H _ _ v u Q I rx ry ⟨_, _, _, _, rfl, rfl, hx, hy, h0, by rw [rx'.length, ry'.length]; exact c, λ hn => ?_, λ hn => zfQ ht q (rx'.append ry')⟩
    · subst hn
      cases ry'
      rw [zyB] at q
      exact yo q r1
  | _ => cases he
 | Sub =>
  obtain ⟨i, j, rfl, rfl, he⟩ := Yt vx vy he
  cases he
  exact zph pins s σ H _ _ v u Q I rx ry ⟨_, _, rfl, rfl, yo q (.int _)⟩
 | Mult =>
  cases vx with
  | int i =>
   obtain ⟨j, h1, he⟩ := bS_ (show (asI e).bind _ = _ from he)
   obtain ⟨rfl, rfl⟩ := YQ vy h1
   obtain ⟨c, rfl⟩ := zP he
   obtain ⟨t, rfl⟩ := rx
   obtain ⟨t', rfl⟩ := ry
   exact mul_int ⟨.int _, H, I.tok _, ⟨_, rfl⟩, yo q (.int _)⟩ (IntMulOk.of_bits (zfc c.1) (zfc c.2))
  | lst hx rx' =>
   obtain ⟨j, h1, he⟩ := bS_ (show (asI e).bind _ = _ from he)
   obtain ⟨rfl, rfl⟩ := YQ vy h1
   obtain ⟨c, rfl⟩ := zP he
   exact zmm pins s σ H _ _ v u Q I rx ry ⟨_, _, _, rfl, rfl, hx, c.1, c.2.1, by rw [rx'.length]; exact c.2.2, Vf q (rx'.rep _)⟩
  | tup r1 hx rx' =>
   obtain ⟨j, h1, he⟩ := bS_ (show (asI e).bind _ = _ from he)
   obtain ⟨rfl, rfl⟩ := YQ vy h1
   obtain ⟨c, rfl⟩ := zP he
   refine zlm pins s σ H _ _ v u Q I rx ry ⟨_, _, _, rfl, rfl, hx, λ e => ?_, c.1, c.2.1, by rw [rx'.length]; exact c.2.2.2, λ e => ?_, λ _ => zfQ ht q (rx'.rep _)⟩
   · have := rx'.length
     rw [e] at this
     exact c.2.2.1 this.symm
   · subst e
     refine yo q ?_
     rw [show (1 : Int).toNat = 1 from rfl, List.replicate_one, List.flatten_cons, List.flatten_nil, zyB]
     exact r1
  | _ => cases he
 | FloorDiv =>
  obtain ⟨i, j, rfl, rfl, he⟩ := Yt vx vy he
  obtain ⟨c, rfl⟩ := zP he
  obtain ⟨t, rfl⟩ := rx
  obtain ⟨t', rfl⟩ := ry
  refine floordiv_int (by omega) ?_ (.inl (PyProof.noPylong_of_log2 ?_))
  · rw [Int.fdiv_eq_ediv_of_nonneg _ (by omega)]
    exact ⟨.int _, H, I.tok _, ⟨_, rfl⟩, yo q (.int _)⟩
  · exact zzH ((Nat.log2_lt (by have := c.1; omega)).mpr (show _ < 2 ^ 4000 from c.2)) (by decide)
 | Mod =>
  obtain ⟨i, j, rfl, rfl, he⟩ := Yt vx vy he
  obtain ⟨c, rfl⟩ := zP he
  exact zny pins s σ H _ _ v u Q I rx ry ⟨_, _, rfl, rfl, c, yo q (.int _)⟩
 | Pow =>
  obtain ⟨i, j, rfl, rfl, he⟩ := Yt vx vy he
  obtain ⟨c, rfl⟩ := zP he
  exact znS pins s σ H _ _ v u Q I rx ry ⟨_, _, rfl, rfl, c, yo q (.int _)⟩
 | _ => cases he
end
def eqL (f : D -> D -> Option Bool) : List D -> List D -> Option Bool
 | [], [] => some true
 | x :: r, y :: t => (f x y).bind λ b => (eqL f r t).bind λ c => some (b && c)
 | _, _ => some false
def eqF : Nat -> D -> D -> Option Bool
 | 0, _, _ => none
 | _ + 1, .non, .non => some true
 | _ + 1, .bl a, .bl b => some (a == b)
 | _ + 1, .int a, .int b => some (a == b)
 | _ + 1, .str a, .str b => some (a == b)
 | _ + 1, .bl a, .int b => some ((if a then 1 else 0) == b)
 | _ + 1, .int a, .bl b => some (a == (if b then 1 else 0))
 | n + 1, .lst xs, .lst ys => eqL (eqF n) xs ys
 | n + 1, .tup xs, .tup ys => eqL (eqF n) xs ys
 | _ + 1, .dct _, _ => none
 | _ + 1, .cl _, _ => none
 | _ + 1, .ob _ _ _, _ => none
 | _ + 1, _, .dct _ => none
 | _ + 1, _, .cl _ => none
 | _ + 1, _, .ob _ _ _ => none
 | _ + 1, _, _ => some false
def eqJ (f : D -> D -> Option Bool) (xs ys : List D) (j : Nat) : Bool := match xs[j]?, ys[j]? with
 | some d, some e => (f d e).getD false
 | _, _ => false
theorem zcf {f : D -> D -> Option Bool} : ∀ {xs ys : List D} {b : Bool}, eqL f xs ys = some b -> (∀ (j : Nat) d e, xs[j]? = some d -> ys[j]? = some e -> ∃ c, f d e = some c) /\
 b = ((List.range (min xs.length ys.length)).all (eqJ f xs ys) && xs.length == ys.length)
 | [], [], b, h => by cases h; exact ⟨λ j d e h => by simp at h, by simp⟩
 | [], y :: t, b, h => by cases h; exact ⟨λ j d e h => by simp at h, by simp⟩
 | x :: r, [], b, h => by cases h; exact ⟨λ j d e _ h => by simp at h, by simp⟩
 | x :: r, y :: t, b, h => by
  obtain ⟨b1, h1, h⟩ := bS_ (show (f x y).bind _ = _ from h)
  obtain ⟨c1, h2, h⟩ := bS_ h
  cases h
  obtain ⟨k1, k2⟩ := zcf h2
  refine ⟨λ j d e hd he => ?_, ?_⟩
  · cases j with
    | zero => simp at hd he; subst hd he; exact ⟨b1, h1⟩
    | succ j => exact k1 j d e (by simpa using hd) (by simpa using he)
  · have e0 : min (x :: r).length (y :: t).length = min r.length t.length + 1 := by simp only [zzQ]; omega
    rw [e0, List.range_succ_eq_map, List.all_cons, List.all_map, k2]
    have e1 : eqJ f (x :: r) (y :: t) 0 = b1 := by show (f x y).getD false = b1; rw [h1]; rfl
    have e2 : (eqJ f (x :: r) (y :: t) ∘ Nat.succ) = eqJ f r t := by
     funext j
     show eqJ f (x :: r) (y :: t) (j + 1) = _
     unfold eqJ
     simp
    have e3 : ((x :: r).length == (y :: t).length) = (r.length == t.length) := by
     by_cases hh : r.length = t.length <;> simp [hh]
    rw [e1, e2, e3, Bool.and_assoc]
structure EqAll (A : Around) (s : Shared) (u v : Value) (b : Bool) : Prop where
 rc : SeqAt.RcAt A s u v b
 ne : SeqAt.RcNeAt A s u v (!b)
 eq : SeqAt.EqAt A s u v b
section
variable {X : Cx} {kd : KD} {pins : List (Addr × Obj)} {σ : St} {H : Hp} {s : Shared} {O : Addr -> Prop}
theorem zgL (I : Inv X pins σ H s) {a : Addr} {xs ys : List V} (h : SqT X.K H a xs) (h' : SqL X.K H a ys) : False := by
 obtain ⟨_, _, ⟨o, e, c, _⟩, _⟩ := I.tuple h
 obtain ⟨_, _, ⟨o', n, e', c', _⟩, _⟩ := I.list h'
 rw [e] at e'
 cases e'
 rw [c] at c'
 exact absurd c' (by decide)
theorem zhn (I : Inv X pins σ H s) : ∀ (n : Nat) (v : V) (d e : D) (b : Bool), Vw X.K kd O H v d -> Vw X.K kd O H v e -> eqF n d e = some b -> b = true
 | 0, _, _, _, _, _, _, h => by cases h
 | n + 1, v, d, e, b, h1, h2, h => by
  have lst : ∀ (vs : List V) (ds es : List D) (b : Bool), RpL X.K kd O H vs ds -> RpL X.K kd O H vs es -> eqL (eqF n) ds es = some b -> b = true := by
   intro vs
   induction vs with
   | nil => intro ds es b r1 r2 h; cases r1; cases r2; cases h; rfl
   | cons v vs ih =>
    intro ds es b r1 r2 h
    cases r1 with
    | cons a1 r1 =>
     cases r2 with
     | cons a2 r2 =>
      obtain ⟨b1, k1, h⟩ := bS_ (show (eqF n _ _).bind _ = _ from h)
      obtain ⟨c1, k2, h⟩ := bS_ h
      cases h
      rw [zhn I n _ _ _ _ a1.vw a2.vw k1, ih _ _ _ r1 r2 k2]
      rfl
  cases h1 with
  | non => cases h2; cases h; rfl
  | bl x => cases h2; cases h; simp
  | int x => cases h2; cases h; simp
  | str x => cases h2; cases h; simp
  | tup r1 s1 l1 =>
   cases h2 with
   | tup r2 s2 l2 =>
    have := I.tuple_inj s1 s2
    subst this
    exact lst _ _ _ _ l1 l2 h
   | lst s2 l2 => exact (zgL I s1 s2.sq).elim
   | _ => cases h
  | lst s1 l1 =>
   cases h2 with
   | tup r2 s2 l2 => exact (zgL I s2 s1.sq).elim
   | lst s2 l2 =>
    have := I.list_inj s1.sq s2.sq
    subst this
    exact lst _ _ _ _ l1 l2 h
   | _ => cases h
  | _ => cases h
theorem zed (I : Inv X pins σ H s) : ∀ (n : Nat) (A : Around) (x y : V) (d e : D) (u v : Value) (b : Bool), A.units + n < cLine -> Vw X.K kd O H x d -> Vw X.K kd O H y e -> RelV x u -> RelV y v -> eqF n d e = some b -> EqAll A s u v b
 | 0, _, _, _, _, _, _, _, _, _, _, _, _, _, h => by cases h
 | n + 1, A, x, y, d, e, u, v, b, hu, h1, h2, r1, r2, h => by
  have hu0 : A.units < cLine := by omega
  have itm : ∀ {vs ws : List V} {its its2 : List Value} {ds es : List D}, RpL X.K kd O H vs ds -> RpL X.K kd O H ws es -> Vals vs its -> Vals ws its2 -> (∀ (j : Nat) d e, ds[j]? = some d -> es[j]? = some e -> ∃ c, eqF n d e = some c) ->
   ∀ j (h1 : j < its.toArray.size) (h2 : j < its2.toArray.size), SeqAt.EqAt A.in1 s its.toArray[j] its2.toArray[j] (eqJ (eqF n) ds es j) := by
   intro vs ws its its2 ds es l1 l2 v1 v2 hd j j1 j2
   have q1 : j < ds.length := by rw [<- l1.length, v1.length]; simpa using j1
   have q2 : j < es.length := by rw [<- l2.length, v2.length]; simpa using j2
   obtain ⟨a1, ha1, ra1⟩ := l1.get (zzB q1)
   obtain ⟨a2, ha2, ra2⟩ := l2.get (zzB q2)
   obtain ⟨u1, hu1, ru1⟩ := v1.get ha1
   obtain ⟨u2, hu2, ru2⟩ := v2.get ha2
   obtain ⟨c, hc⟩ := hd j _ _ (zzB q1) (zzB q2)
   have e1 : its.toArray[j] = u1 := by
    have := (zzD.mp hu1).2
    simpa using this
   have e2 : its2.toArray[j] = u2 := by
    have := (zzD.mp hu2).2
    simpa using this
   rw [e1, e2]
   have e3 : eqJ (eqF n) ds es j = c := by
    unfold eqJ
    rw [zzB q1, zzB q2]
    show (eqF n _ _).getD false = c
    rw [hc]; rfl
   rw [e3]
   exact (zed I n A.in1 a1 a2 _ _ u1 u2 c (by show A.units + 1 + n < cLine; omega) ra1.vw ra2.vw ru1 ru2 hc).eq
  have same : ∀ {a a' : Addr}, x = .ref a -> y = .ref a' -> a = a' -> b = true := by
   intro a a' e1 e2 e3
   subst e1 e2 e3
   exact zhn I (n + 1) _ _ _ _ h1 h2 h
  cases h1 with
  | non =>
   cases r1
   cases h2 with
   | non => cases r2; cases h; exact ⟨SeqAt.RcAt.none_none, SeqAt.RcNeAt.none_none, SeqAt.EqAt.same _⟩
   | bl => cases r2; cases h; exact ⟨SeqAt.RcAt.none_bool _, SeqAt.RcNeAt.none_bool _, SeqAt.EqAt.none_bool _⟩
   | int => obtain ⟨t, rfl⟩ := r2; cases h; exact ⟨SeqAt.RcAt.none_int _ _, SeqAt.RcNeAt.none_int _ _, SeqAt.EqAt.none_int _ _⟩
   | str => obtain ⟨t, rfl⟩ := r2; cases h; exact ⟨SeqAt.RcAt.none_str _ _, SeqAt.RcNeAt.none_str _ _, SeqAt.EqAt.none_str _ _⟩
   | tup r s2 l2 =>
    cases r2; cases h
    obtain ⟨its, rv, p, _⟩ := I.tuple s2
    exact ⟨SeqAt.RcAt.none_tuple p hu0, SeqAt.RcNeAt.none_tuple p hu0, SeqAt.EqAt.none_tuple p hu0⟩
   | lst s2 l2 =>
    cases r2; cases h
    obtain ⟨its, rv, p, _⟩ := I.list s2.sq
    exact ⟨SeqAt.RcAt.none_list p.isList hu0, SeqAt.RcNeAt.none_list p.isList hu0, SeqAt.EqAt.none_list p.isList hu0⟩
   | _ => cases h
  | bl c =>
   cases r1
   cases h2 with
   | non => cases r2; cases h; exact ⟨SeqAt.RcAt.bool_none _, SeqAt.RcNeAt.bool_none _, SeqAt.EqAt.bool_none _⟩
   | bl => cases r2; cases h; exact ⟨SeqAt.RcAt.bool_bool _ _, SeqAt.RcNeAt.bool_bool _ _, SeqAt.EqAt.bool_bool _ _⟩
   | int => obtain ⟨t, rfl⟩ := r2; cases h; exact ⟨SeqAt.RcAt.bool_int _ _ _, SeqAt.RcNeAt.bool_int _ _ _, SeqAt.EqAt.bool_int _ _ _⟩
   | str => obtain ⟨t, rfl⟩ := r2; cases h; exact ⟨SeqAt.RcAt.bool_str _ _ _, SeqAt.RcNeAt.bool_str _ _ _, SeqAt.EqAt.bool_str _ _ _⟩
   | tup r s2 l2 =>
    cases r2; cases h
    obtain ⟨its, rv, p, _⟩ := I.tuple s2
    exact ⟨SeqAt.RcAt.bool_tuple _ p hu0, SeqAt.RcNeAt.bool_tuple _ p hu0, SeqAt.EqAt.bool_tuple _ p hu0⟩
   | lst s2 l2 =>
    cases r2; cases h
    obtain ⟨its, rv, p, _⟩ := I.list s2.sq
    exact ⟨SeqAt.RcAt.bool_list _ p.isList hu0, SeqAt.RcNeAt.bool_list _ p.isList hu0, SeqAt.EqAt.bool_list _ p.isList hu0⟩
   | _ => cases h
  | int c =>
   obtain ⟨t0, rfl⟩ := r1
   cases h2 with
   | non => cases r2; cases h; exact ⟨SeqAt.RcAt.int_none _ _, SeqAt.RcNeAt.int_none _ _, SeqAt.EqAt.int_none _ _⟩
   | bl => cases r2; cases h; exact ⟨SeqAt.RcAt.int_bool _ _ _, SeqAt.RcNeAt.int_bool _ _ _, SeqAt.EqAt.int_bool _ _ _⟩
   | int => obtain ⟨t, rfl⟩ := r2; cases h; exact ⟨SeqAt.RcAt.int_int _ _ _ _, SeqAt.RcNeAt.int_int _ _ _ _, SeqAt.EqAt.int_int _ _ _ _⟩
   | str => obtain ⟨t, rfl⟩ := r2; cases h; exact ⟨SeqAt.RcAt.int_str _ _ _ _, SeqAt.RcNeAt.int_str _ _ _ _, SeqAt.EqAt.int_str _ _ _ _⟩
   | tup r s2 l2 =>
    cases r2; cases h
    obtain ⟨its, rv, p, _⟩ := I.tuple s2
    exact ⟨SeqAt.RcAt.int_tuple _ _ p hu0, SeqAt.RcNeAt.int_tuple _ _ p hu0, SeqAt.EqAt.int_tuple _ _ p hu0⟩
   | lst s2 l2 =>
    cases r2; cases h
    obtain ⟨its, rv, p, _⟩ := I.list s2.sq
    exact ⟨SeqAt.RcAt.int_list _ _ p.isList hu0, SeqAt.RcNeAt.int_list _ _ p.isList hu0, SeqAt.EqAt.int_list _ _ p.isList hu0⟩
   | _ => cases h
  | str c =>
   obtain ⟨t0, rfl⟩ := r1
   cases h2 with
   | non => cases r2; cases h; exact ⟨SeqAt.RcAt.str_none _ _, SeqAt.RcNeAt.str_none _ _, SeqAt.EqAt.str_none _ _⟩
   | bl => cases r2; cases h; exact ⟨SeqAt.RcAt.str_bool _ _ _, SeqAt.RcNeAt.str_bool _ _ _, SeqAt.EqAt.str_bool _ _ _⟩
   | int => obtain ⟨t, rfl⟩ := r2; cases h; exact ⟨SeqAt.RcAt.str_int _ _ _ _, SeqAt.RcNeAt.str_int _ _ _ _, SeqAt.EqAt.str_int _ _ _ _⟩
   | str => obtain ⟨t, rfl⟩ := r2; cases h; exact ⟨SeqAt.RcAt.str_str _ _ _ _, SeqAt.RcNeAt.str_str _ _ _ _, SeqAt.EqAt.str_str _ _ _ _⟩
   | tup r s2 l2 =>
    cases r2; cases h
    obtain ⟨its, rv, p, _⟩ := I.tuple s2
    exact ⟨SeqAt.RcAt.str_tuple _ _ p hu0, SeqAt.RcNeAt.str_tuple _ _ p hu0, SeqAt.EqAt.str_tuple _ _ p hu0⟩
   | lst s2 l2 =>
    cases r2; cases h
    obtain ⟨its, rv, p, _⟩ := I.list s2.sq
    exact ⟨SeqAt.RcAt.str_list _ _ p.isList hu0, SeqAt.RcNeAt.str_list _ _ p.isList hu0, SeqAt.EqAt.str_list _ _ p.isList hu0⟩
   | _ => cases h
  | @tup a1 vs1 ds1 r s1 l1 =>
   cases r1
   obtain ⟨its1, rv1, p1, _⟩ := I.tuple s1
   cases h2 with
   | non => cases r2; cases h; exact ⟨SeqAt.RcAt.tuple_none p1 hu0, SeqAt.RcNeAt.tuple_none p1 hu0, SeqAt.EqAt.tuple_none p1 hu0⟩
   | bl => cases r2; cases h; exact ⟨SeqAt.RcAt.tuple_bool _ p1 hu0, SeqAt.RcNeAt.tuple_bool _ p1 hu0, SeqAt.EqAt.tuple_bool _ p1 hu0⟩
   | int => obtain ⟨t, rfl⟩ := r2; cases h; exact ⟨SeqAt.RcAt.tuple_int _ _ p1 hu0, SeqAt.RcNeAt.tuple_int _ _ p1 hu0, SeqAt.EqAt.tuple_int _ _ p1 hu0⟩
   | str => obtain ⟨t, rfl⟩ := r2; cases h; exact ⟨SeqAt.RcAt.tuple_str _ _ p1 hu0, SeqAt.RcNeAt.tuple_str _ _ p1 hu0, SeqAt.EqAt.tuple_str _ _ p1 hu0⟩
   | @tup a2 vs2 ds2 r' s2 l2 =>
    cases r2
    obtain ⟨its2, rv2, p2, _⟩ := I.tuple s2
    obtain ⟨k1, k2⟩ := zcf h
    have he := itm l1 l2 rv1 rv2 k1
    have eb : ((List.range (min its1.toArray.size its2.toArray.size)).all (eqJ (eqF n) ds1 ds2) && its1.toArray.size == its2.toArray.size) = b := by
     rw [k2, zzE, zzE, <- rv1.length, <- rv2.length, l1.length, l2.length]
    have b1 := SeqAt.RcAt.tuples p1 p2 hu0 he
    have b2 := SeqAt.RcNeAt.tuples p1 p2 hu0 he
    rw [eb] at b1 b2
    refine ⟨b1, b2, ?_⟩
    by_cases ha : a1 = a2
    · have hb := same rfl rfl ha
      subst ha
      rw [hb]
      exact SeqAt.EqAt.same _
    · exact SeqAt.EqAt.of_refs ha b1
   | lst s2 l2 =>
    cases r2; cases h
    obtain ⟨its, rv, p, _⟩ := I.list s2.sq
    exact ⟨SeqAt.RcAt.tuple_list p1 p.isList hu0, SeqAt.RcNeAt.tuple_list p1 p.isList hu0, SeqAt.EqAt.tuple_list p1 p.isList hu0⟩
   | _ => cases h
  | @lst a1 vs1 ds1 s1 l1 =>
   cases r1
   obtain ⟨its1, rv1, p1, _⟩ := I.list s1.sq
   cases h2 with
   | non => cases r2; cases h; exact ⟨SeqAt.RcAt.list_none p1.isList hu0, SeqAt.RcNeAt.list_none p1.isList hu0, SeqAt.EqAt.list_none p1.isList hu0⟩
   | bl => cases r2; cases h; exact ⟨SeqAt.RcAt.list_bool _ p1.isList hu0, SeqAt.RcNeAt.list_bool _ p1.isList hu0, SeqAt.EqAt.list_bool _ p1.isList hu0⟩
   | int => obtain ⟨t, rfl⟩ := r2; cases h; exact ⟨SeqAt.RcAt.list_int _ _ p1.isList hu0, SeqAt.RcNeAt.list_int _ _ p1.isList hu0, SeqAt.EqAt.list_int _ _ p1.isList hu0⟩
   | str => obtain ⟨t, rfl⟩ := r2; cases h; exact ⟨SeqAt.RcAt.list_str _ _ p1.isList hu0, SeqAt.RcNeAt.list_str _ _ p1.isList hu0, SeqAt.EqAt.list_str _ _ p1.isList hu0⟩
   | tup r' s2 l2 =>
    cases r2; cases h
    obtain ⟨its2, rv2, p2, _⟩ := I.tuple s2
    exact ⟨SeqAt.RcAt.list_tuple p1.isList p2 hu0, SeqAt.RcNeAt.list_tuple p1.isList p2 hu0, SeqAt.EqAt.list_tuple p1.isList p2 hu0⟩
   | @lst a2 vs2 ds2 s2 l2 =>
    cases r2
    obtain ⟨its2, rv2, p2, _⟩ := I.list s2.sq
    obtain ⟨k1, k2⟩ := zcf h
    have he := itm l1 l2 rv1 rv2 k1
    have ez1 : its1.toArray.size = _ := zzE.trans (rv1.length.symm.trans l1.length)
    have ez2 : its2.toArray.size = _ := zzE.trans (rv2.length.symm.trans l2.length)
    have both : SeqAt.RcAt A s (.ref a1) (.ref a2) b /\ SeqAt.RcNeAt A s (.ref a1) (.ref a2) (!b) := by
     by_cases hz : its1.toArray.size = its2.toArray.size
     · have b1 := SeqAt.RcAt.lists p1.isList p2.isList hz hu0 he
       have b2 := SeqAt.RcNeAt.lists p1.isList p2.isList hz hu0 he
       have eb : (List.range its1.toArray.size).all (eqJ (eqF n) ds1 ds2) = b := by
        rw [k2, <- ez1, <- ez2, <- hz, Nat.min_self]
        simp
       rw [eb] at b1 b2
       exact ⟨b1, b2⟩
     · have hz' : (its1.toArray.size != its2.toArray.size) = true := by simpa using hz
       have eb : b = false := by
        rw [k2, <- ez1, <- ez2]
        have : (its1.toArray.size == its2.toArray.size) = false := by simpa using hz
        rw [this, Bool.and_false]
       rw [eb]
       exact ⟨SeqAt.RcAt.lists_lengths p1.isList p2.isList hz' hu0, SeqAt.RcNeAt.lists_lengths p1.isList p2.isList hz' hu0⟩
    refine ⟨both.1, both.2, ?_⟩
    by_cases ha : a1 = a2
    · have hb := same rfl rfl ha
      subst ha
      rw [hb]
      exact SeqAt.EqAt.same _
    · exact SeqAt.EqAt.of_refs ha both.1
   | _ => cases h
  | _ => cases h
end
structure DkAt (P : Program) (w : World) (h : Heap) (a : Addr) (kvs : List (Key × V)) : Prop where
 le : kvs.length <= sizeLine
 ns : (a == sysModules) = false
 ex : ∃ vs, KV kvs vs /\ h.DictOf (yz P w) a vs
structure KdOk (X : Cx) (kd : KD) : Prop where
 inj : ∀ a k k', kd a k -> kd a k' -> k = k'
 inK : ∀ a k, kd a k -> ∃ o, X.K.lookup a = some o
 at_ : ∀ a k h, kd a k -> X.K.In h -> DkAt X.prog X.w h a k
section
variable {X : Cx} {kd : KD} {pins : List (Addr × Obj)} {σ : St} {H : Hp} {s : Shared} {O : Addr -> Prop}
theorem zaX (I : Inv X pins σ H s) (hk : KdOk X kd) {a : Addr} {kvs : List (Key × V)} (h : Rd H a (.dK kvs) \/ kd a kvs) : DkAt X.prog X.w s.heap a kvs := by
 rcases h with h | h
 · obtain ⟨z, hd, vs, rel, dd⟩ := zmN I.hok h
   exact ⟨z, hd, vs, rel, dd⟩
 · exact hk.at_ _ _ _ h I.kIn
theorem zjS (I : Inv X pins σ H s) : ∀ (n : Nat) (v : V) (d e x : D) (b c : Bool), Vw X.K kd O H v d -> Vw X.K kd O H v e -> eqF n d x = some b -> eqF n e x = some c -> b = c
 | 0, _, _, _, _, _, _, _, _, h, _ => by cases h
 | n + 1, v, d, e, x, b, c, h1, h2, h, h' => by
  have lst : ∀ (vs : List V) (ds es xs : List D) (b c : Bool), RpL X.K kd O H vs ds -> RpL X.K kd O H vs es -> eqL (eqF n) ds xs = some b -> eqL (eqF n) es xs = some c -> b = c := by
   intro vs
   induction vs with
   | nil => intro ds es xs b c r1 r2 h h'; cases r1; cases r2; exact zzW (h.symm.trans h')
   | cons v vs ih =>
    intro ds es xs b c r1 r2 h h'
    cases r1 with
    | cons a1 r1 =>
     cases r2 with
     | cons a2 r2 =>
      cases xs with
      | nil => cases h; cases h'; rfl
      | cons x xs =>
       obtain ⟨b1, k1, h⟩ := bS_ (show (eqF n _ _).bind _ = _ from h)
       obtain ⟨c1, k2, h⟩ := bS_ h
       obtain ⟨b2, k3, h'⟩ := bS_ (show (eqF n _ _).bind _ = _ from h')
       obtain ⟨c2, k4, h'⟩ := bS_ h'
       cases h; cases h'
       rw [zjS I n _ _ _ _ _ _ a1.vw a2.vw k1 k3, ih _ _ _ _ _ r1 r2 k2 k4]
  cases h1 with
  | tup r1 s1 l1 =>
   cases h2 with
   | tup r2 s2 l2 =>
    have := I.tuple_inj s1 s2
    subst this
    cases x with
    | tup xs => exact lst _ _ _ _ _ _ l1 l2 h h'
    | _ => exact zzW (h.symm.trans h')
   | lst s2 l2 => exact (zgL I s1 s2.sq).elim
   | _ => cases h'
  | lst s1 l1 =>
   cases h2 with
   | tup r2 s2 l2 => exact (zgL I s2 s1.sq).elim
   | lst s2 l2 =>
    have := I.list_inj s1.sq s2.sq
    subst this
    cases x with
    | lst xs => exact lst _ _ _ _ _ _ l1 l2 h h'
    | _ => exact zzW (h.symm.trans h')
   | _ => cases h'
  | dct s1 l1 => cases h
  | cl => cases h
  | ob => cases h
  | _ => cases h2; exact zzW (h.symm.trans h')
end
def zcv : D -> Option Key
 | .int i => some (.inl i)
 | .str x => some (.inr x)
 | _ => none
def vL (kvs : List (Key × D)) (k : Key) : Option D := (kvs.find? λ kv => decide (kv.1 = k)).map (·.2)
theorem zbx {K : zC} {kd : KD} {O : Addr -> Prop} {H : Hp} (k : Key) {vs : List (Key × V)} {ds : List (Key × D)} (h : RpM K kd O H vs ds) : (∃ v d, Wy vs k = some v /\ vL ds k = some d /\ Rp K kd O H v d) \/ (Wy vs k = none /\ vL ds k = none) :=
 RpM.ind (P := λ vs ds => (∃ v d, Wy vs k = some v /\ vL ds k = some d /\ Rp K kd O H v d) \/ (Wy vs k = none /\ vL ds k = none)) (.inr ⟨rfl, rfl⟩) (λ {k' v d vs ds} a _ ih => by
  by_cases e : k' = k
  · left
    refine ⟨_, _, ?_, ?_, a⟩
    · unfold Wy; simp [e]
    · unfold vL; simp [e]
  · rcases ih with ⟨v, d, h1, h2, h3⟩ | ⟨h1, h2⟩
    · left
      refine ⟨v, d, ?_, ?_, h3⟩
      · unfold Wy at h1 ⊢; simpa [e] using h1
      · unfold vL at h2 ⊢; simpa [e] using h2
    · right
      refine ⟨?_, ?_⟩
      · unfold Wy at h1 ⊢; simpa [e] using h1
      · unfold vL at h2 ⊢; simpa [e] using h2) h
def anyF (f : D -> Option Bool) : List D -> Option Bool
 | [] => some false
 | x :: r => (f x).bind λ b => (anyF f r).bind λ c => some (b || c)
def blR (b : Bool) : R0 := .im (.bl b)
def inP (x : D) : D -> Option Bool
 | .lst ys => anyF (λ y => eqF 50 y x) ys
 | .tup ys => anyF (λ y => eqF 50 y x) ys
 | .str y => match x with | .str i => some (!(Builtin.Str.occurrences y i 0 y.length 1).isEmpty) | _ => none
 | .dct kvs => (zcv x).bind λ k => some (vL kvs k).isSome
 | _ => none
def isP : D -> D -> Option Bool
 | d, .non => some (match d with | .non => true | _ => false)
 | d, .bl b => match d with | .bl c => some (c == b) | _ => some false
 | _, _ => none
def zjO (f : Int -> Int -> Bool) : D -> D -> Option R0 := onI λ i j => some (blR (f i j))
def Xh (o : CmpOp) (d e : D) : Option R0 := match o with
 | .Eq => (eqF 60 d e).bind λ b => some (blR b)
 | .NotEq => (eqF 60 d e).bind λ b => some (blR !b)
 | .Lt => zjO (λ i j => decide (i < j)) d e
 | .LtE => zjO (λ i j => decide (i <= j)) d e
 | .Gt => zjO (λ i j => decide (j < i)) d e
 | .GtE => zjO (λ i j => decide (j <= i)) d e
 | .In => (inP d e).bind λ b => some (blR b)
 | .NotIn => (inP d e).bind λ b => some (blR !b)
 | .Is => (isP d e).bind λ b => some (blR b)
 | .IsNot => (isP d e).bind λ b => some (blR !b)
theorem Wx {o : Option Bool} {f : Bool -> Bool} {r : R0} (h : (o.bind λ b => some (blR (f b))) = some r) : ∃ k, r = .im (.bl k) := by
 obtain ⟨b, _, h⟩ := bS_ h
 cases h
 exact ⟨_, rfl⟩
theorem zbE {x y : D} {f : Int -> Int -> Bool} {r : R0} (h : zjO f x y = some r) : ∃ k, r = .im (.bl k) := by
 obtain ⟨i, _, h⟩ := bS_ (show (asI x).bind _ = _ from h)
 obtain ⟨j, _, h⟩ := bS_ h
 cases h
 exact ⟨_, rfl⟩
theorem yr (op : CmpOp) (x y : D) (r : R0) (h : Xh op x y = some r) : ∃ k, r = .im (.bl k) := by
 cases op with
 | Eq => exact Wx (f := id) h
 | NotEq => exact Wx (f := not) h
 | Lt => exact zbE h
 | LtE => exact zbE h
 | Gt => exact zbE h
 | GtE => exact zbE h
 | In => exact Wx (f := id) h
 | NotIn => exact Wx (f := not) h
 | Is => exact Wx (f := id) h
 | IsNot => exact Wx (f := not) h
section
variable {X : Cx} {kd : KD} {pins : List (Addr × Obj)} {σ : St} {H : Hp} {s : Shared} {O : Addr -> Prop}
noncomputable def eqW (K : zC) (kd : KD) (O : Addr -> Prop) (H : Hp) (n : Nat) (x : D) (u : Value) : Bool := @decide (∃ v d, RelV v u /\ Rp K kd O H v d /\ eqF n d x = some true) (Classical.propDecidable _)
theorem zjg (I : Inv X pins σ H s) (hk : KdOk X kd) {n : Nat} {x d : D} {v : V} {u : Value} {b : Bool} (r : RelV v u) (p : Rp X.K kd O H v d) (e : eqF n d x = some b) : eqW X.K kd O H n x u = b := by
 unfold eqW
 cases b with
 | true => exact @zyL _ (Classical.propDecidable _) ⟨v, d, r, p, e⟩
 | false =>
  refine @zyD _ (Classical.propDecidable _) λ ⟨v', d', r', p', e'⟩ => ?_
  have := r.inj r'
  subst this
  exact Bool.noConfusion (zjS I n _ _ _ _ _ _ p.vw p'.vw e e')
theorem zbD (I : Inv X pins σ H s) (hk : KdOk X kd) {n : Nat} {x : D} {vs : List V} {us : List Value} {ds : List D} {b : Bool} (hv : Vals vs us) (h : RpL X.K kd O H vs ds) (e : anyF (λ y => eqF n y x) ds = some b) : us.any (eqW X.K kd O H n x) = b :=
 RpL.ind (P := λ vs ds => ∀ us b, Vals vs us -> anyF (λ y => eqF n y x) ds = some b -> us.any (eqW X.K kd O H n x) = b) (λ us b hv e => by cases e; cases hv; rfl) (λ {v d vs ds} a _ ih us b hv h => by
  cases hv with
  | cons r t =>
   obtain ⟨b1, h1, h⟩ := bS_ (show (eqF n _ x).bind _ = _ from h)
   obtain ⟨c1, h2, h⟩ := bS_ h
   cases h
   rw [List.any_cons, zjg I hk r a h1, ih _ _ t h2]) h us b hv e
theorem XX {f : D -> Option Bool} : ∀ {ds : List D} {b : Bool}, anyF f ds = some b -> ∀ d ∈ ds, ∃ c, f d = some c
 | [], _, _, d, hd => by simp at hd
 | x :: r, b, h, d, hd => by
  obtain ⟨b1, h1, h⟩ := bS_ (show (f x).bind _ = _ from h)
  obtain ⟨c1, h2, h⟩ := bS_ h
  rcases zS.mp hd with e | e
  · subst e; exact ⟨b1, h1⟩
  · exact XX h2 d e
theorem zbB (I : Inv X pins σ H s) (hk : KdOk X kd) {n : Nat} {A : Around} (hu : A.units + n < cLine) {x : V} {v : Value} {d : D} (vx : Vw X.K kd O H x d) (rx : RelV x v) {vs : List V} {us : List Value} {ds : List D} (hv : Vals vs us) (h : RpL X.K kd O H vs ds) (k : ∀ e ∈ ds, ∃ c, eqF n e d = some c) : ∀ u ∈ us, SeqAt.EqAt A s u v (eqW X.K kd O H n d u) :=
 RpL.ind (P := λ vs ds => ∀ us, Vals vs us -> (∀ e ∈ ds, ∃ c, eqF n e d = some c) -> ∀ u ∈ us, SeqAt.EqAt A s u v (eqW X.K kd O H n d u)) (λ us hv _ u hu => by cases hv; simp at hu) (λ a q ih us hv h u hm => by
  cases hv with
  | cons r t =>
   rcases zS.mp hm with e | e
   · subst e
     obtain ⟨c, hc⟩ := h _ zzC
     rw [zjg I hk r a hc]
     exact (zed I n A _ _ _ _ _ _ _ hu a.vw vx r rx hc).eq
   · exact ih _ t (λ e he => h e (zzA _ he)) u e) h us hv k
theorem zbP {A : Around} {E : Value -> Shared -> Prop} {x : V} {v : Value} {b c : Bool} {d : D} {Q : Bool -> Shared -> Prop} (vx : Vw X.K kd O H x d) (rx : RelV x v) (e : isP d (.bl b) = some c) (h : Q c s) : wpAny (model X.prog X.w) A (isSame v (.bool b)) Q E s := by
 cases vx with
 | non => cases rx; cases e; exact zxE h
 | bl k =>
  cases rx
  have e : some (k == b) = some c := e
  cases e
  refine zxE ?_
  cases k <;> cases b <;> exact h
 | int => obtain ⟨t, rfl⟩ := rx; cases e; exact zxE h
 | str => obtain ⟨t, rfl⟩ := rx; cases e; exact zxE h
 | tup => cases rx; cases e; exact zxE h
 | lst => cases rx; cases e; exact zxE h
 | dct => cases rx; cases e; exact zxE h
 | cl => cases rx; cases e; exact zxE h
 | ob => cases rx; cases e; exact zxE h
theorem ym (hk : KdOk X kd) (hu : X.A.units + 100 < cLine) (op : CmpOp) : OpD X kd (compareOp op) (Xh op) := by
 intro pins s σ H x y v u Q I rx ry h
 obtain ⟨O, d, e, r, ht, vx, vy, he, q⟩ := h
 cases op with
 | Eq =>
  obtain ⟨b, h1, he⟩ := bS_ (show (eqF 60 d e).bind _ = _ from he)
  cases he
  exact (zed I 60 X.A x y d e v u b (by omega) vx vy rx ry h1).rc _ _ _ _ (vh I (yo q (.bl _)) rfl)
 | NotEq =>
  obtain ⟨b, h1, he⟩ := bS_ (show (eqF 60 d e).bind _ = _ from he)
  cases he
  exact (zed I 60 X.A x y d e v u b (by omega) vx vy rx ry h1).ne _ _ _ _ (vh I (yo q (.bl _)) rfl)
 | Lt =>
  obtain ⟨i, j, rfl, rfl, he⟩ := Yt vx vy he
  cases he
  exact zpQ pins s σ H _ _ v u Q I rx ry ⟨_, _, rfl, rfl, yo q (.bl _)⟩
 | LtE =>
  obtain ⟨i, j, rfl, rfl, he⟩ := Yt vx vy he
  cases he
  exact zqD pins s σ H _ _ v u Q I rx ry ⟨_, _, rfl, rfl, yo q (.bl _)⟩
 | Gt =>
  obtain ⟨i, j, rfl, rfl, he⟩ := Yt vx vy he
  cases he
  exact zpW pins s σ H _ _ v u Q I rx ry ⟨_, _, rfl, rfl, yo q (.bl _)⟩
 | GtE =>
  obtain ⟨i, j, rfl, rfl, he⟩ := Yt vx vy he
  cases he
  exact zqw pins s σ H _ _ v u Q I rx ry ⟨_, _, rfl, rfl, yo q (.bl _)⟩
 | In =>
  obtain ⟨b, h1, he⟩ := bS_ (show (inP d e).bind _ = _ from he)
  cases he
  cases vy with
  | lst hs rl =>
   cases ry
   obtain ⟨its, rv, p, _⟩ := I.list hs.sq
   refine SeqAt.in_listAt (eqW X.K kd O H 50 d) p.isList (λ w hw => zbB I hk (by show X.A.units + 1 + 50 < cLine; omega) vx rx rv rl (XX h1) w (by simpa using hw)) ?_
   have := zbD I hk rv rl h1
   rw [show its.toArray.any (eqW X.K kd O H 50 d) = b by rw [<- this]; simp]
   exact vh (I) (yo q (.bl _)) rfl
  | tup rp hs rl =>
   cases ry
   obtain ⟨its, rv, p, _⟩ := I.tuple hs
   refine SeqAt.in_tupleAt (eqW X.K kd O H 50 d) p (λ w hw => zbB I hk (by show X.A.units + 1 + 50 < cLine; omega) vx rx rv rl (XX h1) w (by simpa using hw)) ?_
   have := zbD I hk rv rl h1
   rw [show its.toArray.any (eqW X.K kd O H 50 d) = b by rw [<- this]; simp]
   exact vh (I) (yo q (.bl _)) rfl
  | str z =>
   cases vx with
   | str i => cases h1; exact zis pins s σ H _ _ v u Q I rx ry ⟨_, _, rfl, rfl, yo q (.bl _)⟩
   | _ => cases h1
  | dct hs rm =>
   cases ry
   obtain ⟨k, k1, h1⟩ := bS_ h1
   cases h1
   obtain ⟨z, hd, vs, rel, dd⟩ := zaX I hk hs
   have ek : x = kV k := by
    cases vx with
    | int i => cases k1; rfl
    | str i => cases k1; rfl
    | _ => cases k1
   subst ek
   refine wpAny_in_of (zce rx) hd dd.mapOf ?_
   rw [<- (rel.val k).isSome_eq]
   rcases zbx k rm with ⟨v1, d1, e1, e2, _⟩ | ⟨e1, e2⟩
   · rw [e1]; rw [e2] at q; exact vh (I.tok _) (yo q (.bl _)) rfl
   · rw [e1]; rw [e2] at q; exact vh (I.tok _) (yo q (.bl _)) rfl
  | _ => cases h1
 | NotIn =>
  obtain ⟨b, h1, he⟩ := bS_ (show (inP d e).bind _ = _ from he)
  cases he
  cases vy with
  | lst hs rl =>
   cases ry
   obtain ⟨its, rv, p, _⟩ := I.list hs.sq
   refine SeqAt.notIn_listAt (eqW X.K kd O H 50 d) p.isList (λ w hw => zbB I hk (by show X.A.units + 1 + 50 < cLine; omega) vx rx rv rl (XX h1) w (by simpa using hw)) ?_
   have := zbD I hk rv rl h1
   rw [show its.toArray.any (eqW X.K kd O H 50 d) = b by rw [<- this]; simp]
   exact vh (I) (yo q (.bl _)) rfl
  | tup rp hs rl =>
   cases ry
   obtain ⟨its, rv, p, _⟩ := I.tuple hs
   refine SeqAt.notIn_tupleAt (eqW X.K kd O H 50 d) p (λ w hw => zbB I hk (by show X.A.units + 1 + 50 < cLine; omega) vx rx rv rl (XX h1) w (by simpa using hw)) ?_
   have := zbD I hk rv rl h1
   rw [show its.toArray.any (eqW X.K kd O H 50 d) = b by rw [<- this]; simp]
   exact vh (I) (yo q (.bl _)) rfl
  | str z =>
   cases vx with
   | str i => cases h1; exact zez pins s σ H _ _ v u Q I rx ry ⟨_, _, rfl, rfl, yo q (.bl _)⟩
   | _ => cases h1
  | dct hs rm =>
   cases ry
   obtain ⟨k, k1, h1⟩ := bS_ h1
   cases h1
   obtain ⟨z, hd, vs, rel, dd⟩ := zaX I hk hs
   have ek : x = kV k := by
    cases vx with
    | int i => cases k1; rfl
    | str i => cases k1; rfl
    | _ => cases k1
   subst ek
   refine wpAny_notIn_of (zce rx) hd dd.mapOf ?_
   rw [<- (rel.val k).isSome_eq]
   rcases zbx k rm with ⟨v1, d1, e1, e2, _⟩ | ⟨e1, e2⟩
   · rw [e1]; rw [e2] at q; exact vh (I.tok _) (yo q (.bl _)) rfl
   · rw [e1]; rw [e2] at q; exact vh (I.tok _) (yo q (.bl _)) rfl
  | _ => cases h1
 | Is =>
  obtain ⟨b, h1, he⟩ := bS_ (show (isP d e).bind _ = _ from he)
  cases he
  cases vy with
  | non =>
   refine znM pins s σ H _ _ v u Q I rx ry ⟨rfl, ?_⟩
   have : decide (x = V.non) = b := by cases vx <;> (cases h1; rfl)
   rw [this]
   exact yo q (.bl b)
  | bl c =>
   cases ry
   exact zxD (zbP vx rx h1 (zxE (vh I (yo q (.bl _)) rfl)))
  | _ => cases h1
 | IsNot =>
  obtain ⟨b, h1, he⟩ := bS_ (show (isP d e).bind _ = _ from he)
  cases he
  cases vy with
  | non =>
   refine zmG pins s σ H _ _ v u Q I rx ry ⟨rfl, ?_⟩
   have : decide (x = V.non) = b := by cases vx <;> (cases h1; rfl)
   rw [this]
   exact yo q (.bl _)
  | bl c =>
   cases ry
   exact zxD (zbP vx rx h1 (zxE (vh I (yo q (.bl _)) rfl)))
  | _ => cases h1
end
theorem zhp {K : zC} {kd : KD} {O : Addr -> Prop} {H : Hp} {vs : List V} {ds : List D} {i : Int} {d : D} (r : RpL K kd O H vs ds) (h : atI ds i = some d) : ∃ v, atI vs i = some v /\ Rp K kd O H v d := by
 unfold atI at h ⊢
 obtain ⟨j, h1, h2⟩ := bS_ h
 rw [r.length, h1]
 exact r.get h2
def imR (o : Option D) : Option R0 := o.bind λ d => some (.im d)
def ixP (x y : D) : Option R0 := match x with
 | .lst xs => (asI y).bind λ i => imR (atI xs i)
 | .tup xs => (asI y).bind λ i => imR (atI xs i)
 | .str x => (asI y).bind λ i => if x.length <= sizeLine then (atI x.cps.toList i).bind λ c => some (.im (.str ⟨#[c]⟩)) else none
 | .dct kvs => (zcv y).bind λ k => imR (vL kvs k)
 | _ => none
theorem zcl {o : Option D} {r : R0} (h : imR o = some r) : ∃ d, o = some d /\ r = .im d := by
 obtain ⟨d, h1, h2⟩ := bS_ (show o.bind _ = _ from h)
 cases h2
 exact ⟨d, h1, rfl⟩
section
variable {X : Cx} {kd : KD}
theorem zdx {K : zC} {O : Addr -> Prop} {H : Hp} {x : V} {d : D} {k : Key} (vx : Vw K kd O H x d) (e : zcv d = some k) : x = kV k := by
 cases vx with
 | int i => cases e; rfl
 | str i => cases e; rfl
 | _ => cases e
theorem zrp (hk : KdOk X kd) : IxD X kd ixP := by
 intro value slice pins s σ H x y v u Q I rx ry h hs
 obtain ⟨O, d, e, r, ht, vx, vy, he, q⟩ := h
 cases vx with
 | lst hr rl =>
  obtain ⟨i, h0, he⟩ := bS_ (show (asI e).bind _ = _ from he)
  obtain ⟨rfl, rfl⟩ := YQ vy h0
  obtain ⟨d, h1, rfl⟩ := zcl he
  obtain ⟨w, hw, rw'⟩ := zhp rl h1
  exact zer value slice pins s σ H _ _ v u Q I rx ry ⟨_, _, _, w, rfl, rfl, hr.sq, hw, yo q rw'⟩ hs
 | tup rp hr rl =>
  obtain ⟨i, h0, he⟩ := bS_ (show (asI e).bind _ = _ from he)
  obtain ⟨rfl, rfl⟩ := YQ vy h0
  obtain ⟨d, h1, rfl⟩ := zcl he
  obtain ⟨w, hw, rw'⟩ := zhp rl h1
  exact zoc value slice pins s σ H _ _ v u Q I rx ry ⟨_, _, _, w, rfl, rfl, hr, hw, yo q rw'⟩ hs
 | str z =>
  obtain ⟨i, h0, he⟩ := bS_ (show (asI e).bind _ = _ from he)
  obtain ⟨rfl, rfl⟩ := YQ vy h0
  obtain ⟨hz, he⟩ := ite_some' he
  obtain ⟨c, h1, he⟩ := bS_ he
  cases he
  exact zoT value slice pins s σ H _ _ v u Q I rx ry ⟨_, _, c, rfl, rfl, hz, h1, yo q (.str _)⟩ hs
 | dct hr rm =>
  obtain ⟨k, h1, he⟩ := bS_ (show (zcv e).bind _ = _ from he)
  obtain ⟨d, h2, rfl⟩ := zcl he
  cases rx
  obtain ⟨z, hd, vs, rel, dd⟩ := zaX I hk hr
  have := zdx vy h1
  subst this
  rcases zbx k rm with ⟨v1, d1, e1, e2, rp⟩ | ⟨e1, e2⟩
  · rw [h2] at e2
    cases e2
    obtain ⟨w', hw, rw'⟩ := zbU.some_of (v := v1) (o := valueAt vs k) (by rw [<- e1]; exact rel.val k)
    exact tail_any dd.typeIs PySem.F.slot_dict_getitem.lookup (wpAny_getItem_of (zce ry) dd.mapOf hw ⟨v1, H, I.tok _, rw', yo q rp⟩) hs
  · rw [h2] at e2; cases e2
 | _ => cases he
def cutD (xs : List D) (lo hi : Option Int) : List D := (xs.drop (HT.sIx xs.length 0 lo)).take (HT.sIx xs.length xs.length hi - HT.sIx xs.length 0 lo)
theorem zhi {K : zC} {O : Addr -> Prop} {H : Hp} {vs : List V} {ds : List D} (r : RpL K kd O H vs ds) (lo hi : Option Int) : RpL K kd O H (zft vs lo hi) (cutD ds lo hi) := by
 unfold zft cutD
 rw [r.length]
 exact (r.drop _).take _
def slP (x : D) (lo hi : Option Int) : Option R0 := match x with
 | .lst xs => some (.fl (cutD xs lo hi))
 | .tup xs => if HT.sIx xs.length 0 lo = 0 /\ HT.sIx xs.length xs.length hi = xs.length then none else some (.im (.tup (cutD xs lo hi)))
 | _ => none
abbrev OF := AS -> Option (Option Int × AS)
def oN : OF := λ as => some (none, as)
def oS (f : EF) : OF := λ as => (f as).bind λ p => (rvI p.1).bind λ i => some (some i, p.2)
def fSl (fa : EF) (fl fh : OF) (g : D -> Option Int -> Option Int -> Option R0) : EF := λ as => (fa as).bind λ p => (fl p.2).bind λ l => (fh l.2).bind λ h => (p.1.frz.view h.2).bind λ x => (g x.1 l.1 h.1).bind λ r => (wrap x.2 r).bind λ z => some (z, h.2)
def alO (K : zC) (kd : KD) (f : OF) : TO := λ σ H Q => ∃ F B ad as o as', Rel K kd F B [] ad as σ H /\ f as = some (o, as') /\
 ∀ ad' H', Rel K kd F B [] ad' as' σ H' -> Grow (Gw [] ad) H (Gw [] ad') H' -> Q o H'
@[irreducible] def AO (X : Cx) (kd : KD) (e : Option Expr) (f : OF) : Prop := PO X e (alO X.K kd f)
theorem zjf {e : Option Expr} {t t' : TO} (h : PO X e t) (k : ∀ σ H Q, t' σ H Q -> t σ H Q) : PO X e t' := λ pins s σ H Q I q => h pins s σ H Q I (k σ H Q q)
theorem zlK : AO X kd none oN := by with_unfolding_all exact (zjf zlG λ σ H Q h => by
 obtain ⟨F, B, ad, as, o, as', R, e, q⟩ := h
 cases e
 exact q ad H R Grow.refl)
theorem znE {K : zC} {F B : Addr -> Prop} {T : List Addr} {ad : Ad} {σ : St} {H : Hp} {v : V} {st : Bool} {c : Int} (h : wU K kd F B T ad σ H v (.ow (.lf st (.int c)))) : T = [] /\ v = .int c := by
 have h : RoS K kd F B (Gw T ad) H v (.lf st (.int c)) T := h
 generalize hT : Gw T ad = G at h
 cases h with
 | lf rp => cases rp; exact ⟨rfl, rfl⟩
theorem zlJ {a : Expr} {fa : EF} (ha : AE X kd a fa) : AO X kd (some a) (oS fa) := by with_unfolding_all exact (zjf (zlZ ha) λ σ H Q h => by
 obtain ⟨F, B, ad, as, o, as', R, e, q⟩ := h
 obtain ⟨⟨p, as1⟩, h1, e⟩ := bS_ (show (fa as).bind _ = _ from e)
 obtain ⟨i, e1, e⟩ := bS_ e
 obtain ⟨st, rfl⟩ := znl e1
 cases e
 refine ⟨F, B, ad, as, _, _, R, h1, λ v T' ad1 H1 R1 rv1 g1 => ?_⟩
 obtain ⟨rfl, rfl⟩ := znE rv1
 exact ⟨i, rfl, q ad1 H1 R1 g1⟩)
theorem zqU : SlR X (λ x lo hi H Q => ∃ O d r, (∀ a, O a -> H a ≠ none) /\ Vw X.K kd O H x d /\ slP d lo hi = some r /\ RQ X.K kd O H Q r) := by
 intro pins s σ H x v vl vu lo hi sl Q I rx hs pl pu h
 obtain ⟨O, d, r, ht, vx, he, q⟩ := h
 cases vx with
 | lst hr rl => cases he; exact zlC pins s σ H _ v vl vu lo hi sl Q I rx hs pl pu ⟨_, _, rfl, hr.sq, Vf q (zhi rl lo hi)⟩
 | tup rp hr rl =>
  have he : (if _ then none else some _ : Option R0) = _ := he
  split at he
  · cases he
  · rename_i hw
    cases he
    exact zoE pins s σ H _ v vl vu lo hi sl Q I rx hs pl pu ⟨_, _, rfl, hr, by rw [rl.length]; exact hw, zfQ ht q (zhi rl lo hi)⟩
 | _ => cases he
theorem ziU {a : Expr} {lo hi : Option Expr} {fa : EF} {fl fh : OF} {pos p2 : Pos} (ha : AE X kd a fa) (hl : AO X kd lo fl) (hh : AO X kd hi fh) : AE X kd (.Subscript a (.Slice lo hi none p2) pos) (fSl fa fl fh slP) := by with_unfolding_all exact (yF (zko zqU ha hl hh) λ σ H Q h => by
 obtain ⟨F, B, ad, as, r, as', R, e, q⟩ := h
 obtain ⟨⟨p, as1⟩, h1, e⟩ := bS_ (show (fa as).bind _ = _ from e)
 obtain ⟨⟨l, as2⟩, h2, e⟩ := bS_ e
 obtain ⟨⟨u, as3⟩, h3, e⟩ := bS_ e
 obtain ⟨⟨d, lv⟩, h4, e⟩ := bS_ e
 obtain ⟨r', h5, e⟩ := bS_ e
 obtain ⟨z, h6, e⟩ := bS_ e
 cases e
 refine Xe R h1 λ v ad1 H1 R1 rv1 g1 => ⟨F, B, ad1, as1, l, as2, R1, h2, λ ad2 H2 R2 g2 => ⟨F, B, ad2, as2, u, _, R2, h3, λ ad3 H3 R3 g3 => ?_⟩⟩
 exact ⟨_, d, r', R3.tr _, wU.vw R3 ((rv1.grow g2).grow g3) h4, h5, Wo R3 h6 λ w T' H' R' rv' g' => q w T' ad3 H' R' rv' (((g1.trans g2).trans g3).trans g')⟩)
def tyD : D -> String
 | .non => "NoneType" | .bl _ => "bool" | .int _ => "int" | .str _ => "str" | .tup _ => "tuple" | .lst _ => "list" | .dct _ => "dict" | _ => ""
def ziO : D -> Bool
 | .cl _ => false | .ob _ _ _ => false | _ => true
def zfa (t c : String) : Bool := t == c || (t == "bool" && c == "int")
def VM (c : String) : Bool := c == "int" || c == "bool" || c == "str" || c == "list" || c == "tuple" || c == "dict"
theorem znI (K : zC) (d : D) (c : String) (h : VM c = true) (ho : ziO d = true) : PySem.W.kitOne K (.type (tyD d)) (.type c) = some (zfa (tyD d) c) := by
 have : c = "int" \/ c = "bool" \/ c = "str" \/ c = "list" \/ c = "tuple" \/ c = "dict" := by
  unfold VM at h
  simp only [Bool.or_eq_true, beq_iff_eq] at h
  rcases h with ((((h | h) | h) | h) | h) | h <;> simp [h]
 rcases this with rfl | rfl | rfl | rfl | rfl | rfl <;> cases d <;> first | rfl | cases ho
theorem znu (hk : KdOk X kd) {pins : List (Addr × Obj)} {σ : St} {H : Hp} {s : Shared} {O : Addr -> Prop} {A : Around} {E : Value -> Shared -> Prop} {Q : Value -> Shared -> Prop} {c : String} {x : V} {u : Value} {d : D} (I : Inv X pins σ H s) (rx : RelV x u) (vx : Vw X.K kd O H x d) (hc : VM c = true) (ho : ziO d = true)
 (h : ∀ tk, Q (.bool (zfa (tyD d) c)) { s with toks := tk }) : wpAny (model X.prog X.w) A (call (.builtin "isinstance") [u, .type c]) Q E s := by
 have e := znI X.K d c hc ho
 cases vx with
 | non => cases rx; exact PySem.W.kia_one PySem.W.kitx_none I.kIn True.intro e (λ z => nomatch z) h
 | bl y => cases rx; exact PySem.W.kia_one PySem.W.kitx_bool I.kIn True.intro e (λ z => nomatch z) h
 | int i => obtain ⟨t, rfl⟩ := rx; exact PySem.W.kia_one PySem.W.kitx_int I.kIn True.intro e (λ z => nomatch z) h
 | str y => obtain ⟨t, rfl⟩ := rx; exact PySem.W.kia_one PySem.W.kitx_str I.kIn True.intro e (λ z => nomatch z) h
 | lst hr rl =>
  cases rx
  obtain ⟨its, rv, ⟨o, n, h1, h2, _⟩, _⟩ := I.list hr.sq
  exact PySem.W.kia_one PySem.W.kitx_list I.kIn ⟨o, h1, h2⟩ e (λ z => nomatch z) h
 | tup rp hr rl =>
  cases rx
  obtain ⟨its, rv, ⟨o, h1, h2, _⟩, _⟩ := I.tuple hr
  exact PySem.W.kia_one PySem.W.kitx_tuple I.kIn ⟨o, h1, h2⟩ e (λ z => nomatch z) h
 | dct hr rm =>
  cases rx
  obtain ⟨z, hd, vs, rel, ⟨o, es, ep, h1, h2, _⟩⟩ := zaX I hk hr
  exact PySem.W.kia_one PySem.W.kitx_dict I.kIn ⟨o, h1, h2.1⟩ e (λ z => nomatch z) h
 | cl => cases ho
 | ob => cases ho
end
def yL : List D -> Option (List Int)
 | [] => some []
 | .int i :: r => (yL r).bind λ s => some (i :: s)
 | _ :: _ => none
def zpi : List Int -> Int
 | [] => 0
 | x :: r => r.foldl (λ a b => if a < b then b else a) x
theorem zcX : ∀ (r : List Int) (x : Int), r.foldl (λ a b => if a < b then b else a) x ∈ x :: r /\ ∀ a ∈ x :: r, a <= r.foldl (λ a b => if a < b then b else a) x
 | [], x => ⟨by simp, by simp⟩
 | y :: r, x => by
  rw [List.foldl_cons]
  obtain ⟨h1, h2⟩ := zcX r (if x < y then y else x)
  refine ⟨?_, λ a ha => ?_⟩
  · rcases zS.mp h1 with e | e
    · rw [e]; split <;> simp
    · exact zzA _ (zzA _ e)
  · have h3 := h2 _ zzC
    rcases zS.mp ha with e | e
    · subst e; exact Int.le_trans (by split <;> omega) h3
    · rcases zS.mp e with e | e
      · subst e; exact Int.le_trans (by split <;> omega) h3
      · exact h2 a (zzA _ e)
theorem zlt {ns : List Int} {M : Int} (h1 : M ∈ ns) (h2 : ∀ a ∈ ns, a <= M) : zpi ns = M := by
 cases ns with
 | nil => simp at h1
 | cons x r =>
  obtain ⟨k1, k2⟩ := zcX r x
  have a1 := k2 M h1
  have a2 := h2 _ k1
  show r.foldl _ x = M
  omega
def on1 (f : D -> Option R0) (ds : List D) : Option R0 := match ds with
 | [x] => f x
 | _ => none
theorem Vd {K : zC} {kd : KD} {O : Addr -> Prop} {H : Hp} {f : D -> Option R0} {xs : List V} {ds : List D} {r : R0} (vl : VwL K kd O H xs ds) (h : on1 f ds = some r) : ∃ x d, xs = [x] /\ Vw K kd O H x d /\ f d = some r := by
 cases vl with
 | nil => cases h
 | cons a b =>
  cases b with
  | nil => exact ⟨_, _, rfl, a, h⟩
  | cons _ _ => cases h
def zrs : D -> Option R0
 | .lst ds => some (.im (.int ds.length))
 | .tup ds => some (.im (.int ds.length))
 | .str x => if x.length <= sizeLine then some (.im (.int x.length)) else none
 | .dct kvs => some (.im (.int kvs.length))
 | _ => none
def zbI : List D -> Option R0 := on1 zrs
def zrq : D -> Option R0
 | .int i => some (.im (.int i))
 | .bl b => some (.im (.int (if b then 1 else 0)))
 | _ => none
def zrt : D -> Option R0
 | .lst ds => some (.fl ds)
 | .tup ds => some (.fl ds)
 | _ => none
def lstP : List D -> Option R0 := on1 zrt
def dctP : List D -> Option R0
 | [.dct kvs] => some (.fd kvs)
 | _ => none
def zpC (ds : List D) : Option R0 := match ds with
 | [x, y] => onI (λ i j => some (.im (.int (if j > i then j else i)))) x y
 | [x] => (asL x).bind λ ds => (yL ds).bind λ ns => if 0 < ns.length then some (.im (.int (zpi ns))) else none
 | _ => none
theorem zhc {K : zC} {kd : KD} {O : Addr -> Prop} {H : Hp} {xs : List V} {d : D} (h : VwL K kd O H xs [d]) : ∃ x, xs = [x] /\ Vw K kd O H x d := by
 cases h with
 | cons a b => cases b; exact ⟨_, rfl, a⟩
theorem XH {K : zC} {kd : KD} {O : Addr -> Prop} {H : Hp} {vs : List V} {ds : List D} {ns : List Int} (h : RpL K kd O H vs ds) (e : yL ds = some ns) : vs = ns.map V.int :=
 RpL.ind (P := λ vs ds => ∀ ns, yL ds = some ns -> vs = ns.map V.int) (λ ns e => by cases e; rfl) (λ {v d vs ds} a _ ih ns e => by
  cases d with
  | int i =>
   obtain ⟨s, h1, h2⟩ := bS_ (show (yL _).bind _ = _ from e)
   cases h2
   cases a
   rw [ih _ h1]
   rfl
  | _ => cases e) h ns e
section
variable {X : Cx} {kd : KD}
theorem zal (hk : KdOk X kd) : CallD X kd (.builtin "len") zbI := by
 intro pins s σ H xs us Q I r h
 obtain ⟨O, ds, z, ht, vl, he, q⟩ := h
 obtain ⟨x, d, rfl, vx, he⟩ := Vd vl he
 cases vx with
 | lst hr rl => cases he; exact VJ pins s σ H _ us Q I r ⟨_, _, rfl, .inl hr.sq, by rw [rl.length]; exact yo q (.int _)⟩
 | tup rp hr rl => cases he; exact VJ pins s σ H _ us Q I r ⟨_, _, rfl, .inr hr, by rw [rl.length]; exact yo q (.int _)⟩
 | str y =>
  obtain ⟨c, rfl⟩ := zP he
  exact zdL pins s σ H _ us Q I r ⟨_, rfl, c, yo q (.int _)⟩
 | dct hr rm =>
  cases he
  obtain ⟨u, rfl, ru⟩ := vals1 r
  cases ru
  obtain ⟨z, hd, vs, rel, dd⟩ := zaX I hk hr
  refine call_len_dict hd dd (by rw [<- rel.length]; rw [sizeLine_eq] at z; omega) ?_
  rw [<- rel.length, rm.length]
  exact ⟨.int _, H, I.tok _, ⟨_, rfl⟩, yo q (.int _)⟩
 | _ => cases he
theorem ZS : CallD X kd (.type "list") lstP := by
 intro pins s σ H xs us Q I r h
 obtain ⟨O, ds, z, ht, vl, he, q⟩ := h
 obtain ⟨x, d, rfl, vx, he⟩ := Vd vl he
 cases vx with
 | lst hr rl => cases he; exact Vo pins s σ H _ us Q I r ⟨_, _, rfl, .inl hr.sq, Vf q rl⟩
 | tup rp hr rl => cases he; exact Vo pins s σ H _ us Q I r ⟨_, _, rfl, .inr hr, Vf q rl⟩
 | _ => cases he
theorem zie (hk : KdOk X kd) : CallD X kd (.type "dict") dctP := by
 intro pins s σ H xs us Q I r h
 obtain ⟨O, ds, z, ht, vl, he, q⟩ := h
 unfold dctP at he
 split at he
 · cases he
   obtain ⟨x, rfl, vx⟩ := zhc vl
   cases vx with
   | dct hr rm =>
    obtain ⟨u, rfl, ru⟩ := vals1 r
    cases ru
    obtain ⟨z, hd, vs, rel, dd⟩ := zaX I hk hr
    refine kt_call_dict hd dd (by rw [<- rel.length]; exact z) λ h' dd' hs => ?_
    refine ⟨.ref _, _, (I.laid (a := s.heap.objs.size) (o := .dK _) (t' := s.toks) (λ b q hq => ?_) (zzK _) (zgo z (beq_eq_false_iff_ne.mpr (Ne.symm (zzN I.big))) rel dd')), rfl, zjY q rm _ (I.hok.fresh (zzK _))⟩
    exact (hs.2 b (zzN (zxG hq))).trans (zxF _ hq)
 · cases he
theorem zhR (hc : X.calm = true) : CallD X kd (.builtin "max") zpC := by
 intro pins s σ H xs us Q I r h
 obtain ⟨O, ds, z, ht, vl, he, q⟩ := h
 cases vl with
 | nil => cases he
 | cons vx vl =>
  cases vl with
  | nil =>
   obtain ⟨ds, h0, he⟩ := bS_ (show (asL _).bind _ = _ from he)
   cases Xk h0
   obtain ⟨ns, h1, he⟩ := bS_ he
   obtain ⟨c, rfl⟩ := zP he
   cases vx with
   | lst hr rl =>
    obtain ⟨u, rfl, ru⟩ := vals1 r
    cases ru
    obtain ⟨its, rv, p, _⟩ := I.list hr.sq
    rw [XH rl h1] at rv
    have hi := intsAre_of rv
    obtain ⟨ys, e⟩ := hi.allInts.items
    have hns : ns = ys.toList.map (·.1) := by rw [<- hi.numsOf, <- nums_intItems, <- e]
    have hsz : 0 < ys.size := by
     have h3 := c; rw [hns, zD, zyQ] at h3; exact h3
    have hl := p.isList
    rw [e] at hl
    refine max_intList (I.ok.hd hc) hl hsz λ v h' tk hv kp => ?_
    obtain ⟨t, rfl⟩ := intItems_at hv
    obtain ⟨k1, k2⟩ := argBest_gt (numAt ys) (ys.size - 1)
    refine ⟨.int (zpi ns), H, I.kept kp, ⟨t, ?_⟩, yo q (.int _)⟩
    congr 1
    refine (zlt ?_ λ a ha => ?_).symm
    · rw [hns, numAt_eq]
      have hlt : argBest (λ i j => decide (numAt ys i > numAt ys j)) (ys.size - 1) < (ys.toList.map (·.1)).length := by rw [zD, zyQ]; omega
      rw [zyC, zzB hlt]
      exact zyX hlt
    · rw [hns] at ha
      obtain ⟨j, hj, rfl⟩ := List.getElem_of_mem ha
      have hj' := hj
      rw [zD, zyQ] at hj
      have := k2 j (by omega)
      rw [numAt_eq ys j, zyC, zzB hj'] at this
      exact this
  | cons vy vl =>
   cases vl with
   | nil =>
    obtain ⟨i, j, rfl, rfl, he⟩ := Yt vx vy he
    cases he
    exact zhV hc pins s σ H _ us Q I r ⟨_, _, rfl, yo q (.int _)⟩
   | cons _ _ => cases he
end
def vd (env : Env) : List (Str × NameKind) -> List (Str × Addr) -> List (Str × Addr)
 | [], cs => cs
 | (n, k) :: r, cs => vd env r (if k == .free then ((n, (env.cells.lookup n).getD 0) :: cs) else cs)
theorem WL {scope : Scope} {env : Env} (h : ∀ x ∈ scope.names, x.2 = .free -> ∃ c, env.cells.lookup x.1 = some c) : closureFor scope env = pure (vd env scope.names []) := by
 have go : ∀ (names : List (Str × NameKind)) (cs : List (Str × Addr)) (f : Str × NameKind -> List (Str × Addr) -> Sem (ForInStep (List (Str × Addr)))),
  (∀ name kind cs, f (name, kind) cs = if kind == .free then (do let a <- cellOf env name; pure (.yield ((name, a) :: cs))) else pure (.yield cs)) ->
  (∀ x ∈ names, x.2 = .free -> ∃ c, env.cells.lookup x.1 = some c) -> (forIn names cs f : Sem (List (Str × Addr))) = pure (vd env names cs) := by
  intro names
  induction names with
  | nil => intro cs f _ _; rfl
  | cons x r ih =>
   intro cs f hf hx
   obtain ⟨n, k⟩ := x
   rw [List.forIn_cons, hf]
   unfold vd
   by_cases hk : (k == .free) = true
   · obtain ⟨c, hc⟩ := hx (n, k) zzC (by simpa using hk)
     rw [if_pos hk, if_pos hk]
     have e : cellOf env n = pure c := by unfold cellOf; rw [hc]
     rw [e, hc]
     exact ih _ f hf λ y hy => hx y (zzA _ hy)
   · rw [if_neg hk, if_neg hk]
     exact ih _ f hf λ y hy => hx y (zzA _ hy)
 simp only [closureFor]
 rw [go scope.names [] _ (λ name kind cs => ?_) h]
 · rfl
 · rfl
theorem zdp {env : Env} : ∀ (names : List (Str × NameKind)) (cs : List (Str × Addr)) (p : Str × Addr), p ∈ vd env names cs -> p ∈ cs \/ ((p.1, NameKind.free) ∈ names /\ p.2 = (env.cells.lookup p.1).getD 0)
 | [], _, _, h => .inl h
 | (n, k) :: r, cs, p, h => by
  unfold vd at h
  rcases zdp r _ p h with h | h
  · by_cases hk : (k == .free) = true
    · rw [if_pos hk] at h
      rcases zS.mp h with e | h
      · subst e
        have : k = .free := by simpa using hk
        subst this
        exact .inr ⟨zzC, rfl⟩
      · exact .inl h
    · rw [if_neg hk] at h; exact .inl h
  · exact .inr ⟨zzA _ h.1, h.2⟩
theorem zci {env : Env} : ∀ (names : List (Str × NameKind)) (cs : List (Str × Addr)) (p : Str × Addr), p ∈ cs -> p ∈ vd env names cs
 | [], _, _, h => h
 | (n, k) :: r, cs, p, h => by
  unfold vd
  refine zci r _ p ?_
  split
  · exact zzA _ h
  · exact h
theorem zcY {env : Env} : ∀ (names : List (Str × NameKind)) (cs : List (Str × Addr)) (x : Str), (x, NameKind.free) ∈ names -> (x, (env.cells.lookup x).getD 0) ∈ vd env names cs
 | (n, k) :: r, cs, x, h => by
  unfold vd
  rcases zS.mp h with e | h
  · cases e
    exact zci r _ _ (by simp)
  · exact zcY r _ x h
theorem Yr {α : Type} {x : Str} {a : α} : ∀ {l : List (Str × α)}, (∀ p ∈ l, p.1 = x -> p.2 = a) -> (∃ b, (x, b) ∈ l) -> l.lookup x = some a
 | [], _, h => by obtain ⟨_, h⟩ := h; cases h
 | (k, v) :: r, u, h => by
  rw [List.lookup_cons]
  cases hb : x == k with
  | true =>
   have := u (k, v) zzC (beq_iff_eq.mp hb).symm
   exact congrArg some this
  | false =>
   refine Yr (λ p hp => u p (zzA _ hp)) ?_
   obtain ⟨b, h⟩ := h
   rcases zS.mp h with e | h
   · cases e; simp at hb
   · exact ⟨b, h⟩
theorem zai : ∀ (names : List (Str × NameKind)) (h : Heap) (acc : List (Str × Addr)) (p : Str × Addr), p ∈ cellsFrom h.objs.size names acc ->
 p ∈ acc \/ ((p.1, NameKind.cell) ∈ names /\ (pushCells h names).IsCell p.2 none /\ h.objs.size <= p.2)
 | [], _, _, _, m => .inl m
 | (n, k) :: r, h, acc, p, m => by
  unfold cellsFrom at m
  unfold pushCells
  split at m
  · rename_i hk
    rw [if_pos hk]
    have e : (h.push { cls := .type "cell", data := .cell none }).objs.size = h.objs.size + 1 := zxO ..
    rw [<- e] at m
    rcases zai r _ _ p m with m | ⟨m1, m2, m3⟩
    · rcases zS.mp m with e2 | m
      · subst e2
        have : k = .cell := by simpa using hk
        subst this
        refine .inr ⟨zzC, ?_, zzK _⟩
        have z : (h.push { cls := .type "cell", data := .cell none }).IsCell h.objs.size none := ⟨_, zxH _ rfl, rfl⟩
        exact z.keeps (pushCells_keeps r _)
      · exact .inl m
    · exact .inr ⟨zzA _ m1, m2, by rw [e] at m3; omega⟩
  · rename_i hk
    rw [if_neg hk]
    rcases zai r h acc p m with m | ⟨m1, m2, m3⟩
    · exact .inl m
    · exact .inr ⟨zzA _ m1, m2, m3⟩
theorem YG : ∀ (names : List (Str × NameKind)) (n : Nat) (acc : List (Str × Addr)) (p : Str × Addr), p ∈ acc -> p ∈ cellsFrom n names acc
 | [], _, _, _, m => m
 | (_, k) :: r, n, acc, p, m => by
  unfold cellsFrom
  split
  · exact YG r _ _ p (zzA _ m)
  · exact YG r _ _ p m
theorem zaG : ∀ (names : List (Str × NameKind)) (n : Nat) (acc : List (Str × Addr)) (x : Str), (x, NameKind.cell) ∈ names -> ∃ c, (x, c) ∈ cellsFrom n names acc
 | (y, k) :: r, n, acc, x, m => by
  unfold cellsFrom
  rcases zS.mp m with e | m
  · cases e
    rw [if_pos (by decide)]
    exact ⟨n, YG r _ _ _ zzC⟩
  · split
    · exact zaG r _ _ x m
    · exact zaG r _ _ x m
theorem zau : ∀ (names : List (Str × NameKind)) (n : Nat) (acc : List (Str × Addr)), (∀ p ∈ acc, p.2 < n) -> (∀ p ∈ acc, ∀ q ∈ acc, p.2 = q.2 -> p.1 = q.1) -> ∀ p ∈ cellsFrom n names acc, ∀ q ∈ cellsFrom n names acc, p.2 = q.2 -> p.1 = q.1
 | [], _, _, _, h => h
 | (y, k) :: r, n, acc, lt, h => by
  unfold cellsFrom
  split
  · refine zau r (n + 1) _ (λ p m => ?_) (λ p m q m' e => ?_)
    · rcases zS.mp m with z | m
      · subst z; exact Nat.lt_succ_self _
      · exact zyY (lt p m)
    · rcases zS.mp m with z | m
      · rcases zS.mp m' with z' | m'
        · rw [z, z']
        · subst z; have := lt q m'; rw [<- e] at this; exact absurd this (Nat.lt_irrefl _)
      · rcases zS.mp m' with z' | m'
        · subst z'; have := lt p m; rw [e] at this; exact absurd this (Nat.lt_irrefl _)
        · exact h p m q m' e
  · exact zau r n acc lt h
section
variable {M : Model} {A : Around} {E : Value -> Shared -> Prop} {s : Shared}
def X6 (scope : Scope) (env : Env) (cl : List (Str × Addr)) (L : Addr) : Env :=
 { scope := relabel scope env, locals := L, globals := env.globals, cells := cellsFrom (L + 1) scope.names cl, qual := env.qual, func := none, code := env.code, frame := env.frame, builtins := env.builtins }
theorem zeg {scope : Scope} {env : Env} {cl : List (Str × Addr)} {Q : Env -> Shared -> Prop}
 (h : ∀ h' env', { env' with scope := relabel scope env } = X6 scope env cl s.heap.objs.size -> env'.locals = s.heap.objs.size -> (∀ b o, s.heap.get? b = some o -> h'.get? b = some o) -> h'.Ns s.heap.objs.size (λ _ => none) ->
  (∀ p ∈ cellsFrom (s.heap.objs.size + 1) scope.names cl, p ∈ cl \/ ((p.1, NameKind.cell) ∈ scope.names /\ h'.IsCell p.2 none /\ s.heap.objs.size + 1 <= p.2)) -> Q env' { s with heap := h' }) :
 wpAny M A (newFunctionEnv scope env.globals cl [] env.qual none .none (some env)) Q E s := by
 simp only [newFunctionEnv, Option.isSome_some, if_true]
 refine zxD (wpAny_alloc ?_)
 refine zxD (wpAny_layCells _ (λ name kind cells => by cases hkc : kind == NameKind.cell <;> simp [hkc]) _ _ _ _ ?_)
 have e : (s.heap.push { cls := .type "dict", data := .dict #[] }).objs.size = s.heap.objs.size + 1 := zxO ..
 refine zxD (zxE (zxE (h _ _ ?_ rfl (λ b o q => pushCells_keeps _ _ b o (zxF _ q)) ((Heap.Ns.new s.heap (.type "dict")).keeps (pushCells_keeps _ _)) λ p m => ?_)))
 · unfold X6
   rw [<- e]
 · rw [<- e] at m
   rcases zai _ _ _ p m with m | ⟨m1, m2, m3⟩
   · exact .inl m
   · exact .inr ⟨m1, m2, by rw [e] at m3; exact m3⟩
end
abbrev wV (X : Cx) (N : List Str) (scope : Scope) (cl : List (Str × Addr)) (s : Shared) (H : Hp) (fp : List Addr) : Cx :=
 { X with N := N, s₀ := s, H₀ := H, env := X6 scope X.env cl (s.heap.objs.size + 1), outer := X.stack, ex := fp, fn := λ x => scope.names.lookup x == some .cell, pn := [], xe := λ _ _ => False }
def zpL (σ : St) : Option Nat -> Option V
 | none => none
 | some j => (σ[j]?).getD none
def vP (cap : List (Option Nat)) (σ : St) : St := cap.map (zpL σ)
def vz (N XN : List Str) (names : List (Str × NameKind)) (envNames : List (Str × NameKind)) (cap : List (Option Nat)) : Bool :=
 N.length == cap.length && (N.zip cap).all (λ p => match p.2 with | none => true | some j => XN[j]? == some p.1 && names.contains (p.1, NameKind.free)) &&
 names.all (λ p => p.2 != .free || envNames.lookup p.1 == some .cell || envNames.lookup p.1 == some .free) && decide (names.map (·.1)).Nodup
def PTs (X : Cx) (ifs : List Expr) (t : TT) : Prop :=
 ∀ (pins : List (Addr × Obj)) (s : Shared) (σ : St) (H : Hp) (Q : Bool -> Hp -> Prop), Inv X pins σ H s -> t σ H Q ->
  wpAny (model X.prog X.w) X.A (forIn ifs true λ c r => if r = true then do let ok <- isTrue c X.env (eval c X.env); pure (ForInStep.yield ok) else pure (ForInStep.yield r)) (TP X pins σ Q) X.xe s
theorem zms {X : Cx} : PTs X [] (λ _ H Q => Q true H) := λ pins s σ H Q I h => wpAny_tests_nil ⟨H, I, h⟩
theorem zmz {X : Cx} {c : Expr} {t : TT} (h : PT X c t) : PTs X [c] t := λ pins s σ H Q I q => wpAny_tests_one (h pins s σ H Q I q)
def zjJ (wi : TI) (cap : List (Option Nat)) (g : TG) (tt : TT) (te : TE) : TE := λ σ H Q => wi σ H λ J H1 => ∃ W : Nat -> Nat -> List V -> Hp -> Prop, (∃ m, W 0 m [] H1) /\ ∀ i m ys H, W i m ys H -> ys.length <= sizeLine /\
 ((J.stop i H /\ ∀ p, H p = none -> Q (.ref p) (upd H p (.lst ys))) \/ (J.go i H /\ ∀ x H', J.yld i H x H' -> g x (vP cap σ) H' λ σ2 H2 => (∀ (j : Nat) v, (vP cap σ)[j]? = some (some v) -> σ2[j]? = some (some v)) /\
   tt σ2 H2 λ b H3 => if b = true then ys.length < sizeLine /\ te σ2 H3 λ y H4 => ∃ m', m' < m /\ W (i + 1) m' (ys ++ [y]) H4 else ∃ m', m' < m /\ W (i + 1) m' ys H3))
section
variable {prog : Program} {w : World} {A : Around} {E : Value -> Shared -> Prop} {R : Result -> Shared -> Prop} {s : Shared}
theorem zdE {elt target iter : Expr} {ifs : List Expr} {scope : Scope} {pos : Pos} {it acc : Value} {env : Env} (I : Nat -> Shared -> Prop)
 (turn : ∀ n s (E : Value -> Shared -> Prop), I n s -> wpAny (model prog w) A (pyNext it) (λ r s₁ => match r with
  | none => R (.ok .next) s₁
  | some v => wpAny (model prog w) A (letOwnedTupleGo target it v) (λ _ s₁ => wpAny (model prog w) A (assign target env v) (λ _ s₂ =>
   wpAny (model prog w) A (forIn ifs true λ c r => if r = true then do let ok <- isTrue c env (eval c env); pure (ForInStep.yield ok) else pure (ForInStep.yield r)) (λ ok s₃ =>
    if ok = true then wpAny (model prog w) A (eval elt env) (λ x s₄ =>
     wpAny (model prog w) A (call (.builtin "list.append") [acc, x]) (λ _ s₅ => ∃ m, m < n /\ I m s₅) E s₄) E s₃
    else ∃ m, m < n /\ I m s₃) E s₂) E s₁) E s₁) E s)
 (n : Nat) (h : I n s) :
 codeAny (model prog w) A (.compLoop (.ListComp elt [⟨target, iter, ifs, 0⟩] scope pos) 0 it acc env) R s := by
 refine codeAny_loop rfl I (λ n s hI => ?_) n h
 show wpAny _ A ((compTurn (.ListComp elt [⟨target, iter, ifs, 0⟩] scope pos) 0 it acc env).onRaise (λ x => do noteFrame x env; theTreesLotGoes x)) _ _ s
 refine wpAny_noted ?_
 rw [compTurn_list]
 refine zxD (wpAny_standAt (zxD (zxQ (turn n s _ hI) (λ r s₁ h₁ => ?_) λ _ _ h' => h')))
 cases r with
 | none => exact zxE h₁
 | some v =>
  refine zxD (zxQ h₁ (λ _ s₁ h₁ => ?_) λ _ _ h' => h')
  refine zxD (zxQ h₁ (λ _ s₂ h₂ => zxD (zxQ h₂ (λ ok s₃ h₃ => ?_) λ _ _ h' => h')) λ _ _ h' => h')
  cases ok with
  | false => exact zxE ⟨rfl, h₃⟩
  | true =>
   exact zxD (zxD (zxQ h₃ (λ x s₄ h₄ => zxD (zxQ h₄ (λ _ s₅ h₅ => zxE (zxE ⟨rfl, h₅⟩)) λ _ _ h' => h')) λ _ _ h' => h'))
end
structure CapOk (N XN : List Str) (names : List (Str × NameKind)) (envNames : List (Str × NameKind)) (cap : List (Option Nat)) : Prop where
 len : N.length = cap.length
 at_ : ∀ (i : Nat) x (j : Nat), N[i]? = some x -> cap[i]? = some (some j) -> XN[j]? = some x /\ (x, NameKind.free) ∈ names
 fr : ∀ p ∈ names, p.2 = .free -> envNames.lookup p.1 = some .cell \/ envNames.lookup p.1 = some .free
 nd : (names.map (·.1)).Nodup
theorem zfu {N XN : List Str} {names envNames : List (Str × NameKind)} {cap : List (Option Nat)} (h : vz N XN names envNames cap = true) : CapOk N XN names envNames cap := by
 unfold vz at h
 simp only [zzZ, beq_iff_eq, List.all_eq_true, decide_eq_true_eq] at h
 obtain ⟨⟨⟨h1, h2⟩, h3⟩, h4⟩ := h
 refine ⟨h1, λ i x j e1 e2 => ?_, λ p hp e => ?_, h4⟩
 · have m : (x, some j) ∈ N.zip cap := zzX (i := i) (by rw [List.getElem?_zip_eq_some]; exact ⟨e1, e2⟩)
   have := h2 _ m
   simp only [zzZ, beq_iff_eq] at this
   exact ⟨this.1, by simpa using this.2⟩
 · have := h3 p hp
   rw [e] at this
   simpa using this
theorem zdR {names : List (Str × NameKind)} (h : (names.map (·.1)).Nodup) {x : Str} {k k' : NameKind} (m : (x, k) ∈ names) (m' : (x, k') ∈ names) : k = k' := by
 induction names with
 | nil => cases m
 | cons p r ih =>
  obtain ⟨h1, h2⟩ := zzT.mp (show (p.1 :: r.map (·.1)).Nodup from h)
  rcases zS.mp m with e | m
  · rcases zS.mp m' with e' | m'
    · rw [<- e] at e'; cases e'; rfl
    · exact absurd (zxB.mpr ⟨_, m', by rw [<- e]⟩) h1
  · rcases zS.mp m' with e' | m'
    · exact absurd (zxB.mpr ⟨_, m, by rw [<- e']⟩) h1
    · exact ih h2 m m'
theorem zaE {names : List (Str × NameKind)} (h : (names.map (·.1)).Nodup) {x : Str} {k : NameKind} (m : (x, k) ∈ names) : names.lookup x = some k :=
 Yr (λ p hp e => by obtain ⟨y, k'⟩ := p; cases (show y = x from e); exact zdR h hp m) ⟨k, m⟩
theorem Wh {env : Env} {scope : Scope} (x : Str) : (relabel scope env).names.lookup x = (scope.names.lookup x).map λ k => if (k == .free && env.scope.kind == .function && env.kindOf x == some .cell) = true then NameKind.cell else k := by
 unfold relabel
 show (scope.names.map _).lookup x = _
 generalize scope.names = names
 induction names with
 | nil => rfl
 | cons p r ih =>
  obtain ⟨n, k⟩ := p
  rw [zyP, List.lookup_cons (k := n) (as := r)]
  cases hb : x == n with
  | true =>
   have e : x = n := beq_iff_eq.mp hb
   subst e
   show List.lookup x ((if (k == NameKind.free && env.scope.kind == .function && env.kindOf x == some .cell) = true then (x, NameKind.cell) else (x, k)) :: _) = _
   show _ = some (if (k == NameKind.free && env.scope.kind == .function && env.kindOf x == some .cell) = true then NameKind.cell else k)
   split
   · rw [List.lookup_cons, hb]
   · rw [List.lookup_cons, hb]
  | false =>
   show List.lookup x ((if (k == NameKind.free && env.scope.kind == .function && env.kindOf n == some .cell) = true then (n, NameKind.cell) else (n, k)) :: _) = _
   split
   · rw [List.lookup_cons, hb]; exact ih
   · rw [List.lookup_cons, hb]; exact ih
theorem zgC {X : Cx} {pins : List (Addr × Obj)} {σ : St} {H : Hp} {s : Shared} {N : List Str} {scope : Scope} {cap : List (Option Nat)} {fp : List Addr} {h' : Heap} (I : Inv X pins σ H s) (C : CapOk N X.N scope.names X.env.scope.names cap) (hk : scope.kind = .function)
 (hf : ∀ b ∈ fp, zcJ X pins H b) (ho : ∀ b ∈ fp, ∃ o, s.heap.get? b = some o)
 (old : ∀ b o, s.heap.get? b = some o -> h'.get? b = some o) (ns : h'.Ns (s.heap.objs.size + 1) (λ _ => none))
 (hc : ∀ p ∈ cellsFrom (s.heap.objs.size + 1 + 1) scope.names (vd X.env scope.names []), p ∈ vd X.env scope.names [] \/ ((p.1, NameKind.cell) ∈ scope.names /\ h'.IsCell p.2 none /\ s.heap.objs.size + 1 + 1 <= p.2)) :
 Inv (wV X N scope (vd X.env scope.names []) s H fp) [] (vP cap σ) H { s with heap := h' } := by
 have has : ∀ x, (x, NameKind.free) ∈ scope.names -> ∃ c, X.env.cells.lookup x = some c := λ x m => I.ok.has x (C.fr _ m rfl)
 have clo : ∀ p ∈ vd X.env scope.names [], X.env.cells.lookup p.1 = some p.2 /\ (p.1, NameKind.free) ∈ scope.names := λ p m => by
  rcases zdp _ _ p m with z | ⟨z1, z2⟩
  · cases z
  · obtain ⟨c, e⟩ := has _ z1
    rw [e] at z2
    exact ⟨by rw [e]; exact congrArg some z2.symm, z1⟩
 have look : ∀ x c, (cellsFrom (s.heap.objs.size + 1 + 1) scope.names (vd X.env scope.names [])).lookup x = some c -> (X.env.cells.lookup x = some c /\ (x, NameKind.free) ∈ scope.names) \/ ((x, NameKind.cell) ∈ scope.names /\ h'.IsCell c none /\ s.heap.objs.size + 1 + 1 <= c) := λ x c e => by
  rcases hc _ (mem_of_lookup e) with m | m
  · exact .inl (clo _ m)
  · exact .inr m
 have lt : ∀ x c, X.env.cells.lookup x = some c -> c < s.heap.objs.size := λ x c e => by obtain ⟨v, z⟩ := I.cell x c e; exact z.lt
 have lookF : ∀ x, (x, NameKind.free) ∈ scope.names -> ∃ c, (cellsFrom (s.heap.objs.size + 1 + 1) scope.names (vd X.env scope.names [])).lookup x = some c /\ X.env.cells.lookup x = some c := λ x m => by
  obtain ⟨c, e⟩ := has x m
  have m1 := YG scope.names (s.heap.objs.size + 1 + 1) _ _ (zcY (env := X.env) scope.names [] x m)
  refine ⟨c, Yr (λ p hp ep => ?_) ⟨_, m1⟩, e⟩
  rcases hc p hp with z | z
  · have := (clo p z).1
    rw [ep, e] at this
    exact (zzW this).symm
  · rw [ep] at z
    exact absurd (zdR C.nd z.1 m) (by decide)
 have kinds : ∀ x, ((relabel scope X.env).names.lookup x = some .cell \/ (relabel scope X.env).names.lookup x = some .free) -> (x, NameKind.free) ∈ scope.names \/ (x, NameKind.cell) ∈ scope.names := λ x h => by
  rw [Wh] at h
  cases e : scope.names.lookup x with
  | none => rw [e] at h; rcases h with h | h <;> cases h
  | some k =>
   have m := mem_of_lookup e
   cases k with
   | free => exact .inl m
   | cell => exact .inr m
   | _ => rw [e] at h; rcases h with h | h <;> (simp at h)
 have lsz : s.heap.objs.size + 1 < h'.objs.size := ns.lt
 refine ⟨⟨I.ok.mod, hk, I.ok.glob, I.ok.blt, zyU _, ?_, ?_, ?_, I.ok.hd, I.ok.frames, .inl rfl, ?_, I.bs, zzL I.ok.bsz I.sz, ?_, ?_, I.stack, I.stkFree⟩, rfl, I.bare, (Un.kept old), ⟨_, ns, ?_⟩, ?_, I.hok.fresh (zyU _), ?_, (λ _ z => nomatch z), I.hok.kept old, ?_⟩
 · intro x y c e1 e2
   refine zau scope.names (s.heap.objs.size + 1 + 1) _ (λ p m => ?_) (λ p m q m' e => ?_) (x, c) (mem_of_lookup e1) (y, c) (mem_of_lookup e2) rfl
   · exact zyY (zyY (lt _ _ (clo p m).1))
   · refine I.ok.inj _ _ _ (clo p m).1 ?_
     rw [e]; exact (clo q m').1
 · intro x h
   rcases kinds x h with m | m
   · obtain ⟨c, e, _⟩ := lookF x m; exact ⟨c, e⟩
   · obtain ⟨c, e⟩ := zaG scope.names (s.heap.objs.size + 1 + 1) (vd X.env scope.names []) x m
     cases q : (cellsFrom (s.heap.objs.size + 1 + 1) scope.names (vd X.env scope.names [])).lookup x with
     | some c' => exact ⟨c', q⟩
     | none =>
      exfalso
      have := List.lookup_eq_none_iff.mp q (x, c) e
      simp at this
 · intro x c hx e
   have hx : (scope.names.lookup x == some .cell) = true := hx
   have m := mem_of_lookup (beq_iff_eq.mp hx)
   rcases look x c e with z | z
   · exact absurd (zdR C.nd z.2 m) (by decide)
   · exact zzL (zzL (zyU _) (zyU _)) z.2.2
 · intro b hb
   obtain ⟨o, e⟩ := ho b hb
   refine ⟨zzN (zyY (zxG e)), λ x c ec => ?_⟩
   rcases look x c ec with z | z
   · exact (hf b hb).2.2.2.2.1 x c z.1
   · have := zxG e
     intro q; subst q
     exact absurd (zzH this (zzL (zzL (zyU _) (zyU _)) z.2.2)) (Nat.lt_irrefl _)
 · intro b o e hb
   rcases (hf b hb).2.2.2.1 with z | z
   · exact I.ok.noex b o e z
   · exact absurd (zzH (zxG e) (zzL I.ok.bsz z)) (Nat.lt_irrefl _)
 · intro b hb hm
   rcases zS.mp (I.stkSub b hm) with z | z
   · exact (hf b hb).2.1 z
   · exact (hf b hb).2.2.1 z
 · intro i x v e1 e2 e3
   have e2 : (vP cap σ)[i]? = some (some v) := e2
   unfold vP at e2
   rw [zzF] at e2
   cases ec : cap[i]? with
   | none => rw [ec] at e2; cases e2
   | some c =>
    cases c with
    | none => rw [ec] at e2; cases e2
    | some j =>
     rw [ec] at e2
     have e2 : (σ[j]?).getD none = some v := zzW e2
     obtain ⟨xn, m⟩ := C.at_ i x j e1 ec
     have es : σ[j]? = some (some v) := by
      cases q : σ[j]? with
      | none => rw [q] at e2; cases e2
      | some y => rw [q] at e2; exact congrArg some e2
     have kf := C.fr _ m rfl
     obtain ⟨mm, hn, hl⟩ := I.loc
     obtain ⟨u, r, l⟩ := hl j x v xn es (by rcases kf with k | k; exact .inr (.inl k); exact .inr (.inr k))
     refine ⟨u, r, .inr ⟨?_, ?_⟩⟩
     · show (relabel scope X.env).names.lookup x = some .cell \/ (relabel scope X.env).names.lookup x = some .free
       rw [Wh, zaE C.nd m]
       show some (if _ then _ else _) = _ \/ some (if _ then _ else _) = _
       split
       · exact .inl rfl
       · exact .inr rfl
     · obtain ⟨c, ec, eo⟩ := lookF x m
       refine ⟨c, ec, ?_⟩
       rcases l with ⟨k1, _⟩ | ⟨_, c2, e4, z⟩
       · have k1 : X.env.scope.names.lookup x = some .local := k1
         rcases kf with k | k <;> (rw [k1] at k; cases k)
       · rw [eo] at e4; cases e4
         exact z.keeps old
 · intro x c e
   rcases look x c e with z | z
   · obtain ⟨v, q⟩ := I.cell x c z.1; exact ⟨v, q.keeps old⟩
   · exact ⟨none, z.2.1⟩
 · intro x c e
   rcases look x c e with z | z
   · exact I.freeC x c z.1
   · exact I.hok.fresh (zzL (zzL (zyU _) (zyU _)) z.2.2)
 · show (vP cap σ).length = N.length
   unfold vP
   rw [zD, C.len]
abbrev lobj (its : List Value) : Obj := { cls := .type "list", data := .seq its.toArray its.length }
section
variable {X : Cx} {pins : List (Addr × Obj)} {σ : St} {H2 : Hp} {s2 : Shared} {elt tg iter : Expr} {ifs : List Expr} {scope : Scope} {pos : Pos} {N : List Str} {cap : List (Option Nat)} {g : TG} {tt : TT} {te : TE} {wi : TI}
set_option maxHeartbeats 1000000
theorem zbM {J : It} {it : Addr} {fp : List Addr} {tn : Nat -> Heap -> Prop} {Q : VK} {R : Value -> Addr -> Result -> Shared -> Prop} {E : Value -> Shared -> Prop}
 (hc : X.calm = true) (C : CapOk N X.N scope.names X.env.scope.names cap) (hk : scope.kind = .function)
 (hg : ∀ cl s H fp, PG (wV X N scope cl s H fp) tg g) (ht : ∀ cl s H fp, PTs (wV X N scope cl s H fp) ifs tt) (he : ∀ cl s H fp, PE (wV X N scope cl s H fp) elt te)
 (I2 : Inv X pins σ H2 s2) (T : Turn X.prog X.w X.K tg J fp it tn) (st2 : tn 0 s2.heap) (f2 : ∀ b ∈ fp, zcJ X pins H2 b)
 (W : Nat -> Nat -> List V -> Hp -> Prop) (m0 : Nat) (w0 : W 0 m0 [] H2)
 (turn : ∀ i m ys H, W i m ys H -> ys.length <= sizeLine /\ ((J.stop i H /\ ∀ p, H p = none -> Q (.ref p) (upd H p (.lst ys))) \/ (J.go i H /\ ∀ x H', J.yld i H x H' -> g x (vP cap σ) H' λ σ2 H2 => (∀ (j : Nat) v, (vP cap σ)[j]? = some (some v) -> σ2[j]? = some (some v)) /\
  tt σ2 H2 λ b H3 => if b = true then ys.length < sizeLine /\ te σ2 H3 λ y H4 => ∃ m', m' < m /\ W (i + 1) m' (ys ++ [y]) H4 else ∃ m', m' < m /\ W (i + 1) m' ys H3)))
 (fin : ∀ ys H3 s1 m, Inv X pins σ (upd H3 s2.heap.objs.size (.lst ys)) s1 -> s1.heap.Ns (s2.heap.objs.size + 1) m -> zcJ X pins (upd H3 s2.heap.objs.size (.lst ys)) (s2.heap.objs.size + 1) ->
  Q (.ref s2.heap.objs.size) (upd H3 s2.heap.objs.size (.lst ys)) -> R (.ref s2.heap.objs.size) (s2.heap.objs.size + 1) (.ok .next) s1) :
 wpAny (model X.prog X.w) X.A (newList []) (λ acc s₃ => wpAny (model X.prog X.w) X.A (newFunctionEnv scope X.env.globals (vd X.env scope.names []) [] X.env.qual none .none (some X.env)) (λ cenv s₄ =>
  codeAny (model X.prog X.w) X.A (.compStart (.ListComp elt [⟨tg, iter, ifs, 0⟩] scope pos) 0 (.ref it) acc { cenv with scope := relabel scope X.env }) (R acc cenv.locals) s₄) E s₃) E s2 := by
 refine zxI (zeg λ h' env' eE eL old hns hcells => ?_)
 have e1 : (s2.heap.push { cls := .type "list", dict := none, data := .seq ([] : List Value).toArray }).objs.size = s2.heap.objs.size + 1 := zxO ..
 dsimp only at eE eL old hns hcells
 rw [e1] at eE eL hns hcells
 have hD0 : (s2.heap.push { cls := .type "list", dict := none, data := .seq ([] : List Value).toArray }).get? s2.heap.objs.size = some (lobj []) := zxH _ rfl
 have hD : h'.get? s2.heap.objs.size = some (lobj []) := old _ _ hD0
 have old' : ∀ b o, s2.heap.get? b = some o -> h'.get? b = some o := λ b o q => old b o (zxF _ q)
 have fex : ∀ b ∈ fp, ∃ o, s2.heap.get? b = some o := λ b hb => by obtain ⟨o, e, _⟩ := T.obj _ _ st2 b hb; exact ⟨o, e⟩
 have flt : ∀ b ∈ fp, b < s2.heap.objs.size := λ b hb => by obtain ⟨o, e⟩ := fex b hb; exact zxG e
 have I' := zgC I2 C hk f2 fex old' hns hcells
 rw [eE, eL]
 generalize hX : wV X N scope (vd X.env scope.names []) s2 H2 fp = X' at I'
 have xP : X'.prog = X.prog := by rw [<- hX]
 have xw : X'.w = X.w := by rw [<- hX]
 have xK : X'.K = X.K := by rw [<- hX]
 have xA : X'.A = X.A := by rw [<- hX]
 have xe : X'.env = X6 scope X.env (vd X.env scope.names []) (s2.heap.objs.size + 1) := by rw [<- hX]
 have xL : X'.env.locals = s2.heap.objs.size + 1 := by rw [xe]; rfl
 have xfs : X'.fs = frs X.stack := by rw [<- hX]
 have xex : X'.ex = fp := by rw [<- hX]
 have xs : X'.s₀ = s2 := by rw [<- hX]
 have xH : X'.H₀ = H2 := by rw [<- hX]
 have xpn : X'.pn = [] := by rw [<- hX]
 have xc : X'.calm = true := by rw [<- hX]; exact hc
 have xE : X'.xe = λ _ _ => False := by rw [<- hX]
 have hg' : PG X' tg g := by rw [<- hX]; exact hg _ _ _ _
 have ht' : PTs X' ifs tt := by rw [<- hX]; exact ht _ _ _ _
 have he' : PE X' elt te := by rw [<- hX]; exact he _ _ _ _
 have H2D : H2 s2.heap.objs.size = none := I2.hok.fresh (zzK _)
 have Dfs : s2.heap.objs.size ∉ X'.fs := by
  rw [xfs]
  intro hm
  rcases zS.mp (I2.stkSub _ hm) with z | z
  · exact absurd I2.lt (by rw [<- z]; exact Nat.lt_irrefl _)
  · exact I2.nofs (zzK _) z
 have DL : s2.heap.objs.size ≠ X'.env.locals := by rw [xL]; exact zzN (Nat.lt_succ_self _)
 have pinD : ∀ {σ' : St} {H' : Hp} {s' : Shared} {its : List Value} {ps : List (Addr × Obj)}, Inv X' ps σ' H' s' -> s'.heap.get? s2.heap.objs.size = some (lobj its) -> H' s2.heap.objs.size = none -> Inv X' [(s2.heap.objs.size, lobj its)] σ' H' s' := λ I e n =>
  I.pins_of λ p hp => by
   cases zzO.mp hp
   exact ⟨e, n, DL, Dfs, λ v z => by cases z⟩
 have stat : ∀ {H' : Hp} {its : List Value}, (∀ b ∈ fp, H' b = none) -> ∀ b ∈ fp, zcJ X' [(s2.heap.objs.size, lobj its)] H' b := λ hn b hb => by
  refine ⟨hn b hb, ?_, ?_, .inl (by rw [xex]; exact hb), (I'.ok.exf b (by rw [xex]; exact hb)).2, λ p hp => ?_⟩
  · exact (I'.ok.exf b (by rw [xex]; exact hb)).1
  · exact I'.ok.exfs b (by rw [xex]; exact hb)
  · rw [xpn, List.nil_append] at hp
    cases zzO.mp hp
    exact Nat.ne_of_gt (flt b hb)
 have loop : ∀ (n : Nat) (s' : Shared), (∃ i ys its H3, Inv X' [(s2.heap.objs.size, lobj its)] (vP cap σ) H3 s' /\ tn i s'.heap /\ (∀ b ∈ fp, H3 b = none) /\ Vals ys its /\ W i n ys H3) ->
  codeAny (model X.prog X.w) X.A (.compLoop (.ListComp elt [⟨tg, iter, ifs, 0⟩] scope pos) 0 (.ref it) (.ref s2.heap.objs.size) (X6 scope X.env (vd X.env scope.names []) (s2.heap.objs.size + 1)))
   (R (.ref s2.heap.objs.size) (s2.heap.objs.size + 1)) s' := by
  intro n s' h0
  refine zdE (λ n s' => ∃ i ys its H3, Inv X' [(s2.heap.objs.size, lobj its)] (vP cap σ) H3 s' /\ tn i s'.heap /\ (∀ b ∈ fp, H3 b = none) /\ Vals ys its /\ W i n ys H3) ?_ n h0
  clear h0 n s'
  rintro n s3 E' ⟨i, ys, its, H3, I3, st3, fr3, rv3, w3⟩
  obtain ⟨hz, hstep⟩ := turn i n ys H3 w3
  rcases hstep with ⟨stop, qn⟩ | ⟨go, step⟩
  · have := T.done X' xP xw xK xc i _ s3 _ H3 E' I3 (stat fr3) st3 stop
    rw [xA] at this
    refine zxQ this (λ r s4 ⟨hr, I4⟩ => ?_) λ _ _ z => z
    subst hr
    obtain ⟨gD, nD, _⟩ := I4.pin (s2.heap.objs.size, lobj its) (by rw [xpn]; simp)
    obtain ⟨m, hn, _⟩ := I4.loc
    rw [xL] at hn
    have b4 := I4.base
    rw [xfs, xex, xH, xs] at b4
    have nL : H3 (s2.heap.objs.size + 1) = none := by have := I4.free; rw [xL] at this; exact this
    have neD : ∀ b o, s2.heap.get? b = some o -> b ≠ s2.heap.objs.size := λ b o e => zzN (zxG e)
    have neH : ∀ b u, H2 b = some u -> b ≠ s2.heap.objs.size := λ b u e z => by rw [z, H2D] at e; cases e
    have ne3 : ∀ b u, H3 b = some u -> b ≠ s2.heap.objs.size := λ b u e z => by rw [z, nD] at e; cases e
    have hok4 := I4.hok
    rw [xP, xw] at hok4
    refine fin ys H3 s4 m (I2.call' (ch := fp) ?_ ⟨b4.keep, b4.slot, λ b o e n hx => ?_, b4.there, λ b xs e => ?_, λ b o u e => ?_, λ b ps e => ?_⟩ ?_ I4.bare λ b hb => ?_) hn (I2.fpOk (zyU _) (by rw [zQ (Nat.ne_of_gt (Nat.lt_succ_self _))]; exact nL)) (qn _ nD)
    · have := I4.os; rw [xs] at this; exact this
    · rw [zQ (neD b o e)]; exact b4.free b o e n hx
    · rw [zQ (neH b _ e)]; exact b4.tups b xs e
    · rw [zQ (neH b _ e)]; exact b4.frzs b o u e
    · rw [zQ (neH b _ e)]; exact b4.tbls b ps e
    · intro b u e
      by_cases hb : b = s2.heap.objs.size
      · subst hb
        rw [yc] at e
        cases e
        exact ⟨hz, its, its.length, rv3, gD⟩
      · rw [zQ hb] at e
        exact (hok4 b u e).stay (λ c v _ q => q) (λ c q => by rw [zQ (ne3 c _ q)]; exact q) λ c xs q => by rw [zQ (ne3 c _ q)]; exact q
    · obtain ⟨f0, f1, f3, f4, f5, f6⟩ := f2 b hb
      exact ⟨f4, f1, f5, f6⟩
  · have := T.item X' xP xw xK xc i _ s3 _ H3 E' I3 (stat fr3) st3 go
    rw [xA] at this
    refine zxQ this (λ r s4 ⟨u, hr, h4⟩ => ?_) λ _ _ z => z
    subst hr
    refine zxQ h4 (λ _ s5 ⟨x, H5, I5, r5, y5, st5, fr5⟩ => ?_) λ _ _ z => z
    have I5' := I5.pinned (stat fr5) (T.obj _ _ st5)
    have h6 := hg' _ s5 _ H5 x u _ I5' r5 (step x H5 y5)
    rw [xP, xw, xA, xe, xE] at h6
    refine zxQ h6 (λ _ s6 ⟨σ6, H6, I6, cap6, q6⟩ => ?_) λ _ _ z => z.elim
    have h7 := ht' _ s6 σ6 H6 _ I6 q6
    rw [xP, xw, xA, xe, xE] at h7
    refine zxQ h7 (λ b s7 ⟨H7, I7, q7⟩ => ?_) λ _ _ z => z.elim
    have keep : ∀ {H8 : Hp} {s8 : Shared}, Inv X' ([(s2.heap.objs.size, lobj its)] ++ zbL fp s5.heap) σ6 H8 s8 -> Inv X' [(s2.heap.objs.size, lobj its)] (vP cap σ) H8 s8 /\ tn (i + 1) s8.heap /\ ∀ b ∈ fp, H8 b = none := λ {H8 s8} I8 => by
     refine ⟨I8.unpinned.weak ?_ cap6, T.keep _ _ _ st5 λ b hb o e => (I8.pin (b, o) (zzI _ (zzI _ (Xj hb e)))).1, λ b hb => ?_⟩
     · rw [I3.len]; exact I8.len.symm
     · obtain ⟨o, e, d⟩ := T.obj _ _ st5 b hb
       exact (I8.pin (b, o) (zzI _ (zzI _ (Xj hb e)))).2.1
    cases b with
    | false =>
     obtain ⟨m', hm, w7⟩ := q7
     obtain ⟨k1, k2, k3⟩ := keep I7
     exact ⟨m', hm, i + 1, ys, its, H7, k1, k2, k3, rv3, w7⟩
    | true =>
     obtain ⟨hz2, q7⟩ := q7
     have h8 := he' _ s7 σ6 H7 _ I7 q7
     rw [xP, xw, xA, xe, xE] at h8
     show wpAny _ _ _ _ _ _
     refine zxQ h8 (λ yv s8 ⟨y, H8, I8, ry, m', hm, w8⟩ => ?_) λ _ _ z => z.elim
     obtain ⟨k1, k2, k3⟩ := keep I8
     obtain ⟨gD, nD, _⟩ := k1.pin (s2.heap.objs.size, lobj its) (by rw [xpn]; simp)
     have hl := rv3.length
     refine append_at gD (λ h9 sb gD9 => ?_) (by rw [zzE]; omega)
     have I9 : Inv X' [] (vP cap σ) H8 { s8 with heap := h9 } := (k1.pins_of (pins' := []) (λ _ z => nomatch z)).turned (t' := s8.toks) (it := s2.heap.objs.size) (λ b o hb e => (sb.2 b hb).trans e) nD DL (.inr (by rw [xs]; exact zzK _)) (λ x c ec z => by
      obtain ⟨v, o, ho, hd⟩ := k1.cell x c ec
      rw [z, gD] at ho
      cases ho
      cases hd) (λ p hp => by rw [xpn] at hp; cases hp)
     have gD9' : h9.get? s2.heap.objs.size = some (lobj (its ++ [yv])) := by
      rw [gD9]
      congr 1
      show ({ cls := .type "list", data := .seq (its.toArray.push yv) (its.length + 1) } : Obj) = { cls := .type "list", data := .seq (its ++ [yv]).toArray (its ++ [yv]).length }
      rw [zzG, List.length_singleton, List.push_toArray]
     refine ⟨m', hm, i + 1, ys ++ [y], its ++ [yv], H8, pinD I9 gD9' nD, T.keep _ _ _ k2 λ b hb o e => (sb.2 b (zzN (flt b hb))).trans e, k3, rv3.append (.cons ry .nil), w8⟩
 have start : ∃ i ys its H3, Inv X' [(s2.heap.objs.size, lobj its)] (vP cap σ) H3 { s2 with heap := h' } /\ tn i h' /\ (∀ b ∈ fp, H3 b = none) /\ Vals ys its /\ W i m0 ys H3 :=
  ⟨0, [], [], H2, pinD I' hD H2D, T.keep _ _ _ st2 λ b hb o e => old' b o e, λ b hb => (f2 b hb).1, .nil, w0⟩
 exact codeAny_compStart_list (loop m0 _ start) (T.self _ 0 _ _ _ (T.keep _ _ _ st2 λ b hb o e => old' b o e) (loop m0 _ start))
theorem zlO (hc : X.calm = true) (hi : PI X tg iter wi) (hk : scope.kind = .function) (hcap : vz N X.N scope.names X.env.scope.names cap = true)
 (hg : ∀ cl s H fp, PG (wV X N scope cl s H fp) tg g) (ht : ∀ cl s H fp, PTs (wV X N scope cl s H fp) ifs tt) (he : ∀ cl s H fp, PE (wV X N scope cl s H fp) elt te)
 (hs : ∀ x, foldedSetIterable iter X.env x = pure x) : PE X (.ListComp elt [⟨tg, iter, ifs, 0⟩] scope pos) (zjJ wi cap g tt te) := by
 intro pins s σ H Q I h
 have C := zfu hcap
 rw [eval_ListComp]
 refine wpAny_comprehension_free (use := none) rfl hs (WL λ x m e => I.ok.has x.1 (C.fr x m e)) hk (λ y m e => zaE C.nd (by rw [<- e]; exact m)) ?_
 refine thn (hi pins s σ H _ I h) λ v s1 h1 => thn h1 λ itv s2 h2 => ?_
 obtain ⟨it, fp, tn, J, H2, e, I2, T, st2, f2, W, ⟨m0, w0⟩, turn⟩ := h2
 subst e
 refine zbM (R := λ acc C r s' => compPost (model X.prog X.w) X.A X.xe none (EP X pins σ Q) acc C r s') hc C hk hg ht he I2 T st2 f2 W m0 w0 turn λ ys H3 s3 m I3 hn fl q => ?_
 refine ⟨m, hn, λ h' sb => ?_⟩
 obtain ⟨f0, f1, f3, f4, f5, f6⟩ := fl
 exact ⟨.ref s2.heap.objs.size, _, I3.turned (t' := s3.toks) (λ b o hb e => (sb.2 b hb).trans e) f0 f1 f4 f5 f6, rfl, q⟩
theorem zlu {i : Nat} {y : Str} {py spos : Pos} (hN : X.N.Nodup) (hiy : X.N[i]? = some y) (hy : Loc X.env.scope y) (hf : X.fn y = true \/ X.env.scope.names.lookup y = some .local)
 (hsw : swapsWith (.ListComp elt [⟨tg, iter, ifs, 0⟩] scope pos) (some (.Name y py)) spos.line X.env = pure true)
 (hc : X.calm = true) (hi : PI X tg iter wi) (hk : scope.kind = .function) (hcap : vz N X.N scope.names X.env.scope.names cap = true)
 (hg : ∀ cl s H fp, PG (wV X N scope cl s H fp) tg g) (ht : ∀ cl s H fp, PTs (wV X N scope cl s H fp) ifs tt) (he : ∀ cl s H fp, PE (wV X N scope cl s H fp) elt te)
 (hs : ∀ x, foldedSetIterable iter X.env x = pure x) : PS X (.Assign [.Name y py] (.ListComp elt [⟨tg, iter, ifs, 0⟩] scope pos) spos) (znZ (zjJ wi cap g tt te) (zeF i)) := by
 intro pins s σ H D I h
 have C := zfu hcap
 rw [exec_Assign_Name_used _ _ _ _ hsw]
 refine zxD (wpAny_standAt (zxD ?_))
 show wpAny _ X.A (do let _ <- comprehension (.ListComp elt [⟨tg, iter, ifs, 0⟩] scope pos) scope X.env _ (newList []) false (eval iter X.env) (some (assign (.Name y py) X.env))) _ _ s
 refine zxD (zxQ (wpAny_comprehension_free (use := some (assign (.Name y py) X.env)) (Q := λ _ s' => SP X pins D .next s') rfl hs (WL λ x m e => I.ok.has x.1 (C.fr x m e)) hk (λ y m e => zaE C.nd (by rw [<- e]; exact m)) ?_) (λ _ s' hq => zxE (zxE hq)) λ _ _ e => e)
 refine thn (hi pins s σ H _ I h) λ v s1 h1 => thn h1 λ itv s2 h2 => ?_
 obtain ⟨it, fp, tn, J, H2, e, I2, T, st2, f2, W, ⟨m0, w0⟩, turn⟩ := h2
 subst e
 refine zbM (Q := λ x H1 => zeF i x σ H1 D.nx) (R := λ acc C r s' => compPost (model X.prog X.w) X.A X.xe (some (assign (.Name y py) X.env)) (λ _ s' => SP X pins D .next s') acc C r s') hc C hk hg ht he I2 T st2 f2 W m0 w0 turn λ ys H3 s3 m I3 hn fl q => ?_
 obtain ⟨f0, f1, f3, f4, f5, f6⟩ := fl
 refine wpAny_assign_Name (zdq I3 hN hiy hy (v := .ref s2.heap.objs.size) rfl (λ s4 I4 ⟨a, sb, ha⟩ => ?_) hf)
 refine ⟨m, hn.sameBut sb (λ z => ?_), λ h' sb' => ?_⟩
 · rcases ha with ha | ha
   · exact f1 (z.trans ha)
   · exact f5 y a ha z.symm
 · exact ⟨_, _, I4.turned (t' := s4.toks) (λ b o hb e => (sb'.2 b hb).trans e) f0 f1 f4 f5 f6, q⟩
end
structure ItC (K : zC) (kd : KD) (F : Addr -> Prop) (H : Hp) (J : It) (ds : List It1) : Prop where
 all : ∀ (H2 : Hp) (T : Addr -> Prop), (∀ b u, H b = some u -> H2 b = some u) -> (∀ a, T a -> H a = none /\ H2 a ≠ none) -> ∀ i, (i < ds.length -> J.go i H2) /\ (ds.length <= i -> J.stop i H2) /\
  ∀ v H3, J.yld i H2 v H3 -> (∀ b o, H2 b = some o -> H3 b = some o) /\ ∀ x, ds[i]? = some x -> Rp K kd (λ a => x.1 = true /\ (F a \/ T a)) H3 v x.2
def alC (K : zC) (kd : KD) (f : IF) : TI := λ σ H R => ∃ F B ad as ds as', Rel K kd F B [] ad as σ H /\ f as = some (ds, as') /\
 ∀ J ad' H', Rel K kd F B [] ad' as' σ H' -> Grow (Gw [] ad) H (Gw [] ad') H' -> ItC K kd (Lv F B (Gw [] ad') true) H' J ds -> R J H'
@[irreducible] def AIc (X : Cx) (kd : KD) (tg iter : Expr) (f : IF) : Prop := PI X tg iter (alC X.K kd f)
def XD (os : List O) : List It1 := os.map λ o => match o with | .lf st d => (st, d) | o => (false, o.toD)
def zrE (as : AS) : RV -> Option (List It1)
 | .ow o => zhu (o.str, o.toD)
 | .bo i => match as[i]? with
  | some (some (.nd .ls os)) => some (XD os)
  | some (some (.nd .tp os)) => some (XD os)
  | _ => none
def Yn (f : EF) : IF := λ as => (f as).bind λ p => (zrE p.2 p.1).bind λ ds => some (ds, p.2)
section
variable {K : zC} {kd : KD} {F B : Addr -> Prop} {G : Addr -> Prop} {T : List Addr} {ad : Ad} {as : AS} {σ : St} {H H' : Hp}
inductive RpC (K : zC) (kd : KD) (F : Addr -> Prop) (H : Hp) : List V -> List It1 -> Prop
 | nil : RpC K kd F H [] []
 | cons {v : V} {x : It1} {vs : List V} {ds : List It1} : Rp K kd (λ a => x.1 = true /\ F a) H v x.2 -> RpC K kd F H vs ds -> RpC K kd F H (v :: vs) (x :: ds)
theorem RpC.length {vs : List V} {ds : List It1} (h : RpC K kd F H vs ds) : vs.length = ds.length := by
 induction h with
 | nil => rfl
 | cons _ _ ih => exact congrArg (· + 1) ih
theorem RpC.get {vs : List V} {ds : List It1} {i : Nat} {x : It1} (h : RpC K kd F H vs ds) (e : ds[i]? = some x) : ∃ v, vs[i]? = some v /\ Rp K kd (λ a => x.1 = true /\ F a) H v x.2 := by
 induction h generalizing i with
 | nil => simp at e
 | cons h r ih =>
  cases i with
  | zero => simp at e; subst e; exact ⟨_, rfl, h⟩
  | succ i =>
   obtain ⟨v, h1, h2⟩ := ih (i := i) (by simpa using e)
   exact ⟨v, by simpa using h1, h2⟩
theorem Rp.since {Ob : Addr -> Prop} {v : V} {d : D} {T : Addr -> Prop} (k : ∀ b u, H b = some u -> H' b = some u) (hT : ∀ a, T a -> H a = none) (h : Rp K kd Ob H v d) : Rp K kd (Un2 Ob T) H' v d :=
 Rp.grow (F := Ob) (W := λ _ => False) (W' := T) (H' := H') ⟨λ b u q _ => k b u q, λ b z => .inr (hT b z)⟩ (h.less λ a z => z.elim id False.elim)
theorem zcB {st : Bool} {vs : List V} {ds : List D} (h : RpL K kd (Lv F B G st) H vs ds) : RpC K kd (Lv F B G true) H vs (kids st ds) :=
 RpL.ind (P := λ vs ds => RpC K kd (Lv F B G true) H vs (kids st ds)) .nil (λ {v d vs ds} h _ ih => by
  refine .cons (x := (zH d || st, d)) ?_ ih
  cases e : zH d with
  | true => exact h.flat e
  | false =>
   refine h.less λ a z => ?_
   have zs : st = true := z.1
   rw [zs]; exact z.2) h
theorem znj {vs : List V} {os : List O} {fp : List Addr} (h : wY K kd F B G H vs os fp) : RpC K kd (Lv F B G true) H vs (XD os) :=
 RoL.ind (P := λ vs os _ => RpC K kd (Lv F B G true) H vs (XD os)) .nil (λ {v o vs os fp fq} h _ ih => by
  have ha := zdP h
  refine .cons ?_ ih
  cases h with
  | lf rp => exact rp.less λ a z => (by have zs := z.1; dsimp only at zs; rw [zs]; exact z.2)
  | ls => exact ha.less λ a z => nomatch z.1
  | dc => exact ha.less λ a z => nomatch z.1
  | ob => exact ha.less λ a z => nomatch z.1
  | fz => exact ha.less λ a z => nomatch z.1
  | tp => exact ha.less λ a z => nomatch z.1) h
theorem zbT {a : Addr} {vs : List V} {ds : List It1} (h : SqL K H a vs) (r : RpC K kd F H vs ds) : ItC K kd F H (Itl K a) ds := ⟨λ H3 T k hT i => by
 have hr3 : SqL K H3 a vs := by
  rcases h with (h | ⟨o, h⟩) | h
  · exact .inl (.inl (k _ _ h))
  · exact .inl (.inr ⟨o, k _ _ h⟩)
  · exact .inr h
 refine ⟨λ hi => ?_, λ hi => ⟨_, hr3, by rw [r.length]; exact hi⟩, λ v H4 hy => ?_⟩
 · obtain ⟨u, hu, _⟩ := r.get (zzB hi)
   exact ⟨_, u, hr3, hu⟩
 · obtain ⟨rfl, hv⟩ := hy
   refine ⟨λ _ _ z => z, λ d hd => ?_⟩
   obtain ⟨u, hu, ru⟩ := r.get hd
   have := hv _ hr3
   rw [hu] at this
   cases this
   exact (ru.since k λ a z => (hT a z).1).less λ a z => z.2.elim (λ y => .inl ⟨z.1, y⟩) .inr⟩
theorem zhM {a : Addr} {vs : List V} {ds : List It1} (h : SqT K H a vs) (r : RpC K kd F H vs ds) : ItC K kd F H (Itt K a) ds := ⟨λ H3 T k hT i => by
 have hr3 : SqT K H3 a vs := by
  rcases h with (h | ⟨o, h⟩) | h
  · exact .inl (.inl (k _ _ h))
  · exact .inl (.inr ⟨o, k _ _ h⟩)
  · exact .inr h
 refine ⟨λ hi => ?_, λ hi => ⟨_, hr3, by rw [r.length]; exact hi⟩, λ v H4 hy => ?_⟩
 · obtain ⟨u, hu, _⟩ := r.get (zzB hi)
   exact ⟨_, u, hr3, hu⟩
 · obtain ⟨rfl, hv⟩ := hy
   refine ⟨λ _ _ z => z, λ d hd => ?_⟩
   obtain ⟨u, hu, ru⟩ := r.get hd
   have := hv _ hr3
   rw [hu] at this
   cases this
   exact (ru.since k λ a z => (hT a z).1).less λ a z => z.2.elim (λ y => .inl ⟨z.1, y⟩) .inr⟩
theorem zlR (lo : Int) (n : Nat) : ItC K kd F H (Itr lo n) (wI lo n) := ⟨λ H2 T k hT i => by
 have hl : (wI lo n).length = n := by unfold wI; simp
 refine ⟨λ hi => by rw [hl] at hi; exact hi, λ hi => by rw [hl] at hi; exact hi, λ v H3 hy => ?_⟩
 obtain ⟨rfl, rfl⟩ := hy
 refine ⟨λ _ _ z => z, λ d hd => ?_⟩
 have hi : i < n := by rw [<- hl]; exact (zzD.mp hd).1
 unfold wI at hd
 rw [zzF, List.getElem?_range hi] at hd
 cases hd
 exact .int _⟩
end
theorem Y6 {X : Cx} {kd : KD} {tg e : Expr} {fa : EF} (he : AE X kd e fa) : AIc X kd tg e (Yn fa) := by
 with_unfolding_all (
 intro pins s σ H R I h
 obtain ⟨F, B, ad, as, ds, as', Rl, e, q⟩ := h
 obtain ⟨⟨p, as1⟩, h1, e⟩ := bS_ (show (fa as).bind _ = _ from e)
 obtain ⟨ys, h2, e⟩ := bS_ e
 cases e
 cases p with
 | ow o =>
  have h2 : zhu (o.str, o.toD) = some ds := h2
  generalize hd : o.toD = d at h2
  cases d with
  | lst xs =>
   cases h2
   refine zdX he pins s σ H R I ⟨F, B, ad, as, _, as1, Rl, h1, λ v T1 ad1 H1 R1 rv1 g1 => ?_⟩
   have rp := zgk R1 rv1
   rw [hd] at rp
   cases rp with
   | lst hn hr rl => exact ⟨_, rfl, ⟨_, .inl hr⟩, q _ ad1 H1 R1.drop (g1.trans (Grow.less Gw.drop)) (zbT (.inl hr) (zcB rl))⟩
   | lstK a b c rl => exact ⟨_, rfl, ⟨_, .inr ⟨_, _, _, a, rfl, rfl, rfl, b, c⟩⟩, q _ ad1 H1 R1.drop (g1.trans (Grow.less Gw.drop)) (zbT (.inr ⟨_, _, _, a, rfl, rfl, rfl, b, c⟩) (zcB rl))⟩
  | tup xs =>
   cases h2
   refine zfx he pins s σ H R I ⟨F, B, ad, as, _, as1, Rl, h1, λ v T1 ad1 H1 R1 rv1 g1 => ?_⟩
   have rp := zgk R1 rv1
   rw [hd] at rp
   have go : ∃ a ys, v = .ref a /\ SqT X.K H1 a ys /\ RpL X.K kd (Lv F B (Gw [] ad1) o.str) H1 ys xs := by
    cases rp with
    | tup n h r => exact ⟨_, _, rfl, .inl h, r⟩
    | tupK a b c e f r => exact ⟨_, _, rfl, .inr ⟨_, _, _, a, b, c, e, f⟩, r⟩
   obtain ⟨a, ys, rfl, hs, rl⟩ := go
   exact ⟨_, rfl, ⟨_, hs⟩, q _ ad1 H1 R1.drop (g1.trans (Grow.less Gw.drop)) (zhM hs (zcB rl))⟩
  | _ => cases h2
 | bo i =>
  have h2 : (match as1[i]? with | some (some (.nd .ls os)) => some (XD os) | some (some (.nd .tp os)) => some (XD os) | _ => none) = some ds := h2
  cases k : as1[i]? with
  | none => rw [k] at h2; cases h2
  | some s0 =>
   rw [k] at h2
   match s0, h2, k with
   | some (.nd .ls os), h2, k =>
    cases h2
    refine zdX he pins s σ H R I ⟨F, B, ad, as, _, as1, Rl, h1, λ v T1 ad1 H1 R1 rv1 g1 => ?_⟩
    obtain ⟨rfl, hs⟩ := rv1
    obtain ⟨w, hw, ro⟩ := R1.sl i _ k
    rw [hs] at hw
    cases hw
    generalize hfp : ad1 i = fp at ro
    cases ro with
    | ls hH rl => exact ⟨_, rfl, ⟨_, .inl (.inl hH)⟩, q _ ad1 H1 R1 g1 (zbT (.inl (.inl hH)) (znj rl))⟩
   | some (.nd .tp os), h2, k =>
    cases h2
    refine zfx he pins s σ H R I ⟨F, B, ad, as, _, as1, Rl, h1, λ v T1 ad1 H1 R1 rv1 g1 => ?_⟩
    obtain ⟨rfl, hs⟩ := rv1
    obtain ⟨w, hw, ro⟩ := R1.sl i _ k
    rw [hs] at hw
    cases hw
    generalize hfp : ad1 i = fp at ro
    cases ro with
    | tp n hH rl => exact ⟨_, rfl, ⟨_, .inl (.inl hH)⟩, q _ ad1 H1 R1 g1 (zhM (.inl (.inl hH)) (znj rl))⟩)
theorem wK {X : Cx} {kd : KD} {tg a : Expr} {pos : Pos} {fr : AF} {p : Pos} (hg : Gl X "range") (hm : X.mg "range" = none) (ha : AA X kd [a] fr) (hs : starEach [a] X.env = [(false, eval a X.env)]) : AIc X kd tg (.Call (.Name "range" p) [a] [] pos) (yX fr xq) := by
 with_unfolding_all (
 intro pins s σ H R I h
 obtain ⟨F, B, ad, as, ds, as', Rl, e, q⟩ := h
 obtain ⟨⟨ps, as1⟩, h1, e⟩ := bS_ (show (fr as).bind _ = _ from e)
 obtain ⟨⟨xs, lv⟩, h2, e⟩ := bS_ e
 obtain ⟨ys, h3, e⟩ := bS_ e
 cases e
 obtain ⟨j, rfl, h3⟩ := zgZ h3
 · obtain ⟨hj, e3⟩ := zP h3
   cases e3
   refine zdk hg hm ha hs pins s σ H R I ⟨F, B, ad, as, ps, _, Rl, h1, λ vs ad1 H1 R1 rv1 g1 => ?_⟩
   have vl := Xg R1 rv1 h2
   cases vl with
   | cons v1 v2 =>
    cases v2
    cases v1
    exact ⟨j, rfl, hj.1, hj.2, q _ ad1 H1 R1 g1 (zlR 0 _)⟩)
def zra (as : AS) : Option Nat -> Option O
 | none => none
 | some j => match as[j]? with
  | some (some (.lf st d)) => some (.lf st d)
  | some (some (.nd (.fz ks) os)) => some (.lf (os.all O.isLf && O.strs os) (.dct (ks.zip (O.toDs os))))
  | some (some o) => some (.lf false o.toD)
  | _ => none
def ZP (cap : List (Option Nat)) (as : AS) : AS := cap.map (zra as)
def yW (g : GF) (tt : TF) (fe : EF) (as0 : AS) : List It1 -> Option (List O)
 | [] => some []
 | x :: r => (g x as0).bind λ as1 => (tt as1).bind λ b => if b.1 = true then (fe b.2).bind λ p => (toO p.2 p.1).bind λ q => if q.1.str = true then (yW g tt fe as0 r).bind λ os => some (q.1 :: os) else none
  else yW g tt fe as0 r
def yj (fi : IF) (cap : List (Option Nat)) (g : GF) (tt : TF) (fe : EF) : EF := λ as => (fi as).bind λ p => if p.1.length <= sizeLine then (yW g tt fe (ZP cap p.2) p.1).bind λ os => some (.ow (.nd .ls os), p.2) else none
def xX : TF := λ as => some (true, as)
section
variable {K : zC} {kd : KD} {F B : Addr -> Prop} {T : List Addr} {ad : Ad} {as : AS} {σ : St} {H H' : Hp} {cap : List (Option Nat)}
theorem zld (R : Rel K kd F B [] ad as σ H) (k : ∀ b u, H b = some u -> H' b = some u) (hT : ∀ a ∈ T, H a = none) (hT' : ∀ a ∈ T, H' a ≠ none) :
 Rel K kd (Un2 (Lv F B (Gw [] ad) true) (· ∈ T)) (λ _ => False) [] (λ _ => []) (ZP cap as) (vP cap σ) H' := by
 have no : ∀ a, ¬ Gw [] (λ _ => []) a := λ a z => z.elim (λ y => nomatch y) λ ⟨_, y⟩ => nomatch y
 have kn : ∀ a, H a ≠ none -> H' a ≠ none := λ a z => by
  cases e : H a with
  | none => exact absurd e z
  | some u => rw [k a u e]; simp
 have up : ∀ {st : Bool} {v : V} {d : D}, Rp K kd (λ a => st = true /\ Lv F B (Gw [] ad) true a) H v d -> Rp K kd (Lv (Un2 (Lv F B (Gw [] ad) true) (· ∈ T)) (λ _ => False) (Gw [] λ _ => []) st) H' v d := λ {st v d} h => by
  have := Rp.grow (F := λ a => st = true /\ Lv F B (Gw [] ad) true a) (W := λ _ => False) (W' := (· ∈ T)) (H' := H') ⟨λ b u q _ => k b u q, λ b z => .inr (hT b z)⟩ (h.less λ a z => z.elim id False.elim)
  refine this.less λ a z => ?_
  rcases z with (⟨z1, z2⟩ | z) | z
  · rcases z2 with z2 | z2
    · exact .inl ⟨z1, z2⟩
    · exact .inr z2
  · exact z.elim
  · exact (no a z).elim
 refine ⟨by unfold ZP vP; rw [zD, zD], λ _ _ => rfl, λ _ => zyG, (λ _ _ _ z => nomatch z), zyG, (λ _ _ _ z => nomatch z), λ a z => z.elim (λ y => kn a (R.trk true a y)) (hT' a), (λ _ z => z.elim), λ a z => (no a z).elim, λ i s e => ?_⟩
 unfold ZP at e
 rw [zzF] at e
 obtain ⟨c, hc, rfl⟩ := Option.map_eq_some_iff.mp e
 have es : (vP cap σ)[i]? = some (zpL σ c) := by
  unfold vP
  rw [zzF, hc]
  rfl
 rw [es]
 cases c with
 | none => rfl
 | some j =>
  show zck _ _ _ _ _ _ (match as[j]? with | some (some (.lf st d)) => some (.lf st d) | some (some (.nd (.fz ks) os)) => some (.lf (os.all O.isLf && O.strs os) (.dct (ks.zip (O.toDs os)))) | some (some o) => some (.lf false o.toD) | _ => none) _ _
  cases k2 : as[j]? with
  | none => rfl
  | some s0 =>
   cases s0 with
   | none => rfl
   | some o =>
    obtain ⟨v, hv, ro⟩ := R.sl j _ k2
    cases o with
    | lf st d =>
     have e0 : ad j = [] := by
      generalize hfp : ad j = fp at ro
      cases ro
      rfl
     rw [e0] at ro
     refine ⟨v, by show some ((σ[j]?).getD none) = _; rw [hv]; rfl, .lf (up ?_)⟩
     exact (zcA ro).less λ a z => by have zs : st = true := z.1; show Lv F B (Gw [] ad) st a; rw [zs]; exact z.2
    | nd kk os =>
     have ev : some ((σ[j]?).getD none) = some (some v) := by rw [hv]; rfl
     have an := (zdP ro)
     cases kk with
     | fz ks =>
      refine ⟨v, ev, .lf (up ?_)⟩
      cases hst : (os.all O.isLf && O.strs os) with
      | false => exact an.less λ a z => nomatch z.1
      | true =>
       rw [zzZ] at hst
       have e0 : ad j = [] := by
        generalize hfp : ad j = fp at ro
        cases ro with
        | fz n h l r => exact zeh r hst.1
       rw [e0] at ro
       exact (zcA ro).less λ a z => by show Lv F B (Gw [] ad) (O.strs os) a; rw [hst.2]; exact z.2
     | _ => exact ⟨v, ev, .lf (up (an.less λ a z => nomatch z.1))⟩
theorem zky {S : List Nat} {fi : IF} {g : GF} {tt : TF} {fe : EF} {Q : VK} (hS : ∀ i ∈ S, cap[i]? = some none) (h : al K kd (yj fi cap g tt fe) σ H Q) :
 zjJ (alC K kd fi) cap (alG K kd S g) (alT K kd tt) (al K kd fe) σ H Q := by
 obtain ⟨F, B, ad, as, r, as', R, e, q⟩ := h
 obtain ⟨⟨ds, as1⟩, h1, e⟩ := bS_ (show (fi as).bind _ = _ from e)
 by_cases hz : ds.length <= sizeLine
 · have e : (if ds.length <= sizeLine then (yW g tt fe (ZP cap as1) ds).bind λ os => some (RV.ow (.nd .ls os), as1) else none) = some (r, as') := e
   rw [if_pos hz] at e
   obtain ⟨os, h2, e⟩ := bS_ e
   cases e
   refine ⟨F, B, ad, as, ds, as', R, h1, λ J ad1 H1 R1 g1 it => ?_⟩
   refine ⟨λ i m ys H3 => m + i = ds.length /\ ∃ T os1 os2, os = os1 ++ os2 /\ yW g tt fe (ZP cap as') (ds.drop i) = some os2 /\ os1.length <= i /\ T.Nodup /\ (∀ a ∈ T, H1 a = none /\ H3 a ≠ none) /\ (∀ b u, H1 b = some u -> H3 b = some u) /\
    RoL (λ _ v d => Rp K kd (Un2 (Lv F B (Gw [] ad1) true) (· ∈ T)) H3 v d) (λ a => ¬ Un2 (Lv F B (Gw [] ad1) true) (· ∈ T) a) H3 ys os1 T, ⟨ds.length, rfl, [], [], os, rfl, h2, zzK _, zyG, (λ _ m => nomatch m), (λ _ _ z => z), .nil⟩, ?_⟩
   rintro i m ys H3 ⟨hm, T, os1, os2, eo, ec, hl, tnd, tf, k3, rl⟩
   obtain ⟨i1, i2, i3⟩ := it.all H3 (· ∈ T) k3 tf i
   have yl := rl.length
   refine ⟨by omega, ?_⟩
   by_cases hi : i < ds.length
   · refine .inr ⟨i1 hi, λ v H4 hy => ?_⟩
     obtain ⟨k4, rp⟩ := i3 v H4 hy
     rw [zyN hi] at ec
     obtain ⟨as2, e2, ec⟩ := bS_ (show (g _ _).bind _ = _ from ec)
     obtain ⟨⟨b, as3⟩, e3, ec⟩ := bS_ ec
     have k14 : ∀ b u, H1 b = some u -> H4 b = some u := λ b u h => k4 b u (k3 b u h)
     have kn4 : ∀ a, H3 a ≠ none -> H4 a ≠ none := λ a z => by
      cases e : H3 a with
      | none => exact absurd e z
      | some u => rw [k4 a u e]; simp
     have R4 := zld (cap := cap) (T := T) R1 k14 (λ a z => (tf a z).1) (λ a z => kn4 a (tf a z).2)
     have no : ∀ a, ¬ Gw [] (λ _ => []) a := λ a z => z.elim (λ y => nomatch y) λ ⟨_, y⟩ => nomatch y
     refine ⟨_, _, _, _, ds[i], as2, R4, (rp _ (zzB hi)).less λ a z => ?_, e2, λ σ5 ad5 H5 R5 g5 keep5 => ⟨λ j w hw => ?_, _, _, ad5, as2, b, as3, R5, e3, λ ad6 H6 R6 g6 => ?_⟩⟩
     · rcases z with (z | z) | z
       · exact z
       · exact z.elim
       · exact (no a z).elim
     · rw [keep5 j λ z => ?_]
       · exact hw
       · have := hS j z
         unfold vP at hw
         rw [zzF, this] at hw
         cases hw
     · -- what stood is kept
       have g46 := g5.trans g6
       have k46 : ∀ b u, H4 b = some u -> H6 b = some u := λ b u h => g46.keep b u h (no b)
       have k36 : ∀ b u, H3 b = some u -> H6 b = some u := λ b u h => k46 b u (k4 b u h)
       have kn6 : ∀ a, H3 a ≠ none -> H6 a ≠ none := λ a z => by
        cases e : H3 a with
        | none => exact absurd e z
        | some u => rw [k36 a u e]; simp
       have up : ∀ {H7 : Hp} {T2 : List Addr}, (∀ b u, H3 b = some u -> H7 b = some u) -> (∀ a ∈ T2, H3 a = none) -> RoL (λ _ v d => Rp K kd (Un2 (Lv F B (Gw [] ad1) true) (· ∈ T ++ T2)) H7 v d) (λ a => ¬ Un2 (Lv F B (Gw [] ad1) true) (· ∈ T ++ T2) a) H7 ys os1 T := λ {H7 T2} k7 f7 =>
        RoL.mono (λ st v d r => (r.since k7 f7).less λ a z => z.elim (λ y => .inl (.inl y)) λ y => (zzJ.mp y).elim (λ x => .inl (.inr x)) .inr)
         (λ a vs n e => ⟨λ z => z.elim (λ y => n (.inl y)) λ y => (zzJ.mp y).elim (λ x => n (.inr x)) λ x => (by have := f7 a x; rw [this] at e; cases e), k7 _ _ e⟩) (λ a _ u h => k7 a u h) rl
       cases b with
       | false =>
        have := up (T2 := []) k36 (λ _ m => nomatch m)
        rw [zyB] at this
        exact ⟨m - 1, by omega, by omega, T, os1, os2, eo, ec, Nat.le_succ_of_le hl, tnd, λ a z => ⟨(tf a z).1, kn6 a (tf a z).2⟩, λ b u h => k36 b u (k3 b u h), this⟩
       | true =>
        rw [if_pos rfl] at ec
        obtain ⟨⟨p, as7⟩, e7, ec⟩ := bS_ ec
        obtain ⟨⟨o, as8⟩, e8, ec⟩ := bS_ ec
        by_cases hs : o.str = true
        · have ec : (if o.str = true then (yW g tt fe (ZP cap as') (ds.drop (i + 1))).bind λ os => some (o :: os) else none) = some os2 := ec
          rw [if_pos hs] at ec
          obtain ⟨os3, e9, ec⟩ := bS_ ec
          cases ec
          refine ⟨by omega, _, _, ad6, as3, p, as7, R6, e7, λ y T2 ad7 H7 R7 rv7 g7 => ?_⟩
          obtain ⟨ad8, R8, ro8, le8⟩ := zcd R7 rv7 e8
          have g47 := g46.trans g7
          have k47 : ∀ b u, H4 b = some u -> H7 b = some u := λ b u h => g47.keep b u h (no b)
          have k37 : ∀ b u, H3 b = some u -> H7 b = some u := λ b u h => k47 b u (k4 b u h)
          have f42 : ∀ a ∈ T2, H4 a = none := λ a z => (g47.own a (.inl z)).resolve_left (no a)
          have f32 : ∀ a ∈ T2, H3 a = none := λ a z => by
             cases e : H3 a with
             | none => rfl
             | some u => have := k4 a u e; rw [f42 a z] at this; cases this
          have rt := zfD R8 R8.tnd (λ a z => .inl z) ro8 hs
          have ro9 : Ro (λ _ v d => Rp K kd (Un2 (Lv F B (Gw [] ad1) true) (· ∈ T ++ T2)) H7 v d) (λ a => ¬ Un2 (Lv F B (Gw [] ad1) true) (· ∈ T ++ T2) a) H7 y o T2 :=
             Ro.mono (λ st v d r => r.less λ a z => z.elim (λ y => .inl (.inl y)) λ y => (zzJ.mp y).elim (λ x => .inl (.inr x)) .inr)
              (λ a vs n e => ⟨λ z => n (z.elim (λ y => .inl (.inl y)) λ y => (zzJ.mp y).elim (λ x => .inl (.inr x)) .inr), e⟩) (λ _ _ _ h => h) rt.ro
          refine ⟨m - 1, by omega, by omega, T ++ T2, os1 ++ [o], os3, by rw [eo, zxA]; rfl, e9, by rw [zzG, List.length_singleton]; omega, zxC.mpr ⟨tnd, rt.nd, λ a z b z' e => ?_⟩, λ a z => ?_, λ b u h => k37 b u (k3 b u h), (up k37 f32).append (RoL.one ro9)⟩
          · subst e
            exact (tf a z).2 (f32 a z')
          · rcases zzJ.mp z with z | z
            · refine ⟨(tf a z).1, ?_⟩
              cases e : H3 a with
              | none => exact absurd e (tf a z).2
              | some u => rw [k37 a u e]; simp
            · refine ⟨?_, rt.tr a z⟩
              cases e : H1 a with
              | none => rfl
              | some u => have := k3 a u e; rw [f32 a z] at this; cases this
        · have ec : (if o.str = true then (yW g tt fe (ZP cap as') (ds.drop (i + 1))).bind λ os => some (o :: os) else none) = some os2 := ec
          rw [if_neg hs] at ec
          cases ec
   · refine .inl ⟨i2 (by omega), λ p hp => ?_⟩
     rw [List.drop_eq_nil_of_le (by omega)] at ec
     cases ec
     rw [zyB] at eo
     subst eo
     have pT : p ∉ T := λ z => (tf p z).2 hp
     have H1p : H1 p = none := by
      cases e : H1 p with
      | none => rfl
      | some u => have := k3 p u e; rw [hp] at this; cases this
     have kp : ∀ b u, H3 b = some u -> upd H3 p (.lst ys) b = some u := λ b u h => by rw [zQ (yH h hp)]; exact h
     obtain ⟨R9, g9⟩ := R1.news (T' := p :: T) (H' := upd H3 p (.lst ys)) (zzT.mpr ⟨pT, tnd⟩) (λ a z => (zS.mp z).elim (λ e => by rw [e]; exact H1p) λ z => (tf a z).1) (λ b u h => kp b u (k3 b u h)) (λ a z => by
      rcases zS.mp z with e | z
      · rw [e, yc]; simp
      · cases e : H3 a with
        | none => exact absurd e (tf a z).2
        | some u => rw [kp a u e]; simp)
     refine q _ (p :: T) ad1 _ R9 (.ls yc ?_) (g1.trans g9)
     have le : ∀ st a, Lv F B (Gw (p :: T) ad1) st a -> Un2 (Un2 (Lv F B (Gw [] ad1) true) (· ∈ T)) (· = p) a := λ st a z => by
      rcases z with (z | z) | z | z
      · exact .inl (.inl (.inl (.inl ⟨rfl, z.2⟩)))
      · exact .inl (.inl (.inl (.inr z)))
      · exact (zS.mp z).elim .inr λ y => .inl (.inr y)
      · exact .inl (.inl (.inr (.inr z)))
     exact RoL.mono (λ st v d r => (r.since kp (T := (· = p)) λ a z => by rw [z]; exact hp).less (le st)) (λ a vs n e => ⟨λ z => (le true a z).elim n λ y => (by rw [y, hp] at e; cases e), kp _ _ e⟩) (λ a _ u h => kp a u h) rl
 · have e : (if ds.length <= sizeLine then (yW g tt fe (ZP cap as1) ds).bind λ os => some (RV.ow (.nd .ls os), as1) else none) = some (r, as') := e
   rw [if_neg hz] at e
   cases e
end
section
variable {X : Cx} {kd : KD} {elt tg iter e a b c : Expr} {es ifs : List Expr} {scope : Scope} {pos : Pos} {N : List Str} {cap : List (Option Nat)} {g : GF} {tt : TF} {fe fa fb : EF} {fi : IF} {S : List Nat} {fr : AF} {fd : DF}
theorem xZ : PTs X [] (alT X.K kd xX) := λ pins s σ H Q I h => by
 obtain ⟨F, B, ad, as, b, as', R, e, q⟩ := h
 cases e
 exact zms pins s σ H Q I (q ad H R Grow.refl)
theorem zby (h : AT X kd c tt) : PTs X [c] (alT X.K kd tt) := by with_unfolding_all exact (zmz h)
theorem vN (hc : X.calm = true) (hi : AIc X kd tg iter fi) (hk : scope.kind = .function) (hcap : vz N X.N scope.names X.env.scope.names cap = true) (hS : S.all (λ i => cap[i]? == some none) = true)
 (hg : ∀ cl s H fp, AG (wV X N scope cl s H fp) kd tg S g) (ht : ∀ cl s H fp, PTs (wV X N scope cl s H fp) ifs (alT X.K kd tt)) (he : ∀ cl s H fp, AE (wV X N scope cl s H fp) kd elt fe)
 (hs : ∀ x, foldedSetIterable iter X.env x = pure x) : AE X kd (.ListComp elt [⟨tg, iter, ifs, 0⟩] scope pos) (yj fi cap g tt fe) := by with_unfolding_all exact (yF (zlO (g := alG X.K kd S g) (te := al X.K kd fe) hc hi hk hcap hg ht he hs) λ σ H Q h => zky (λ i m => by simpa using List.all_eq_true.mp hS i m) h)
theorem ZM {z : Bool} {i : Nat} {y : Str} {py spos : Pos} (hN : X.N.Nodup) (hiy : X.N[i]? = some y) (hy : Loc X.env.scope y) (hf : X.fn y = true \/ X.env.scope.names.lookup y = some .local)
 (hsw : swapsWith (.ListComp elt [⟨tg, iter, ifs, 0⟩] scope pos) (some (.Name y py)) spos.line X.env = pure true)
 (hc : X.calm = true) (hi : AIc X kd tg iter fi) (hk : scope.kind = .function) (hcap : vz N X.N scope.names X.env.scope.names cap = true) (hS : S.all (λ i => cap[i]? == some none) = true)
 (hg : ∀ cl s H fp, AG (wV X N scope cl s H fp) kd tg S g) (ht : ∀ cl s H fp, PTs (wV X N scope cl s H fp) ifs (alT X.K kd tt)) (he : ∀ cl s H fp, AE (wV X N scope cl s H fp) kd elt fe)
 (hs : ∀ x, foldedSetIterable iter X.env x = pure x) : ASt X kd (.Assign [.Name y py] (.ListComp elt [⟨tg, iter, ifs, 0⟩] scope pos) spos) (zJ z i (yj fi cap g tt fe)) := by with_unfolding_all exact (Zm (zlu (g := alG X.K kd S g) (te := al X.K kd fe) hN hiy hy hf hsw hc hi hk hcap hg ht he hs) λ D σ H h => by
 obtain ⟨F, B, ad, as, o, R, e, q⟩ := h
 obtain ⟨⟨p, as1⟩, h1, e⟩ := bS_ (show (yj fi cap g tt fe as).bind _ = _ from e)
 obtain ⟨⟨y, as2⟩, h2, e⟩ := bS_ e
 obtain ⟨hl, e⟩ := zP e
 cases e
 refine zky (Q := λ x H1 => zeF i x σ H1 D.nx) (λ i m => by simpa using List.all_eq_true.mp hS i m) ⟨F, B, ad, as, p, as1, R, h1, λ v T' ad' H' R' rv g => ?_⟩
 obtain ⟨ad2, R2, le⟩ := zge R' rv h2 hl
 exact q _ ad2 H' R2 (g.trans (Grow.less le)))
theorem yd {k : Nat} {f : Addr} {fdt : FuncData} {ps : List Str} {gg : List (Bool × D) -> Option O} {x : Str} {p : Pos} (F : FnOk X.prog X.w X.K X.mg X.base CX0 k f fdt ps (spD X.K kd gg)) (hr : Room k X.A) (hg : Gl X x) (hm : X.mg x = some (.ref f)) (hk : PySem.W.keepIn X.K (.ref f) = true)
 (hb : Binds X.K fdt ps []) (hx : zar CX0 X (λ _ _ _ => False)) (ha : AA X kd (e :: es) fr) (hdb : (x == ("__debug__" : Str)) = false) (he : starEach (e :: es) X.env = (false, eval e X.env) :: starEach es X.env) (hpl : (backTo pos (starEach es X.env)).any (·.1) = false) :
 AE X kd (.Call (.Name x p) (e :: es) [] pos) (zO fr gg) := by with_unfolding_all exact (yF (zlM F hr hg hm hk hb .nil hx ha hdb he hpl) λ σ H Q h => zpe h)
theorem zac {id : String} {gg : List D -> Option R0} {x : Str} {p : Pos} (hc : CallD X kd (.builtin id) gg) (hg : Gl X x) (hm : X.mg x = none) (hv : bootBuiltins x = some (.builtin id)) (ha : AA X kd (e :: es) fr) (hn : x ≠ "__name__") (hdb : (x == ("__debug__" : Str)) = false)
 (he : starEach (e :: es) X.env = (false, eval e X.env) :: starEach es X.env) (hpl : (backTo pos (starEach es X.env)).any (·.1) = false) : AE X kd (.Call (.Name x p) (e :: es) [] pos) (fP fr gg) := by with_unfolding_all exact (yF (zbS hc hg hm hv ha hn hdb he hpl) λ σ H Q h => alP (λ _ _ _ z => z) h)
theorem v9 {T : String} {gg : List D -> Option R0} {x : Str} {p : Pos} (hc : CallD X kd (.type T) gg) (hg : Gl X x) (hm : X.mg x = none) (hv : bootBuiltins x = some (.type T)) (ha : AA X kd (e :: es) fr) (hn : x ≠ "__name__") (hdb : (x == ("__debug__" : Str)) = false)
 (he : starEach (e :: es) X.env = (false, eval e X.env) :: starEach es X.env) (hpl : (backTo pos (starEach es X.env)).any (·.1) = false) : AE X kd (.Call (.Name x p) (e :: es) [] pos) (fP fr gg) := by with_unfolding_all exact (yF (zii hc hg hm hv ha hn hdb he hpl) λ σ H Q h => alP (λ _ _ _ z => z) h)
def zgf (fa : EF) (c : String) : EF := λ as => (fa as).bind λ p => (p.1.frz.view p.2).bind λ x => if ziO x.1 = true then some (.ow (.lf true (.bl (zfa (tyD x.1) c))), p.2) else none
theorem zkf (hk : KdOk X kd) : WM X (.builtin "isinstance") (λ xs H Q => ∃ x c O d, xs = [x, .ty c] /\ VM c = true /\ Vw X.K kd O H x d /\ ziO d = true /\ Q (.bl (zfa (tyD d) c)) H) := by
 intro pins s σ H xs us Q I r h
 obtain ⟨x, c, O, d, rfl, hc, vx, ho, q⟩ := h
 cases r with
 | cons r1 r2 =>
  cases r2 with
  | cons r2 r3 =>
   cases r3
   cases (show _ = Value.type c from r2)
   exact znu hk I r1 vx hc ho λ tk => ⟨.bl _, H, I.tok tk, rfl, q⟩
theorem zgG {c : String} {x y : Str} {p p2 : Pos} (hkd : KdOk X kd) (hc : VM c = true) (hg : Gl X x) (hm : X.mg x = none) (hv : bootBuiltins x = some (.builtin "isinstance")) (hg2 : Gl X y) (hm2 : X.mg y = none) (hv2 : bootBuiltins y = some (.type c)) (ha : AE X kd a fa)
 (hn : x ≠ "__name__") (hdb : (x == ("__debug__" : Str)) = false) (hn2 : y ≠ "__name__") (hdb2 : (y == ("__debug__" : Str)) = false)
 (he : starEach [a, .Name y p2] X.env = (false, eval a X.env) :: starEach [.Name y p2] X.env) (he2 : starEach [.Name y p2] X.env = (false, eval (.Name y p2) X.env) :: starEach [] X.env) (hpl : (backTo pos (starEach [.Name y p2] X.env)).any (·.1) = false) :
 AE X kd (.Call (.Name x p) [a, .Name y p2] [] pos) (zgf fa c) := by with_unfolding_all exact (yF (zbS (zkf hkd) hg hm hv (Vq ha (Vq (zlU (v := .ty c) hg2 hm2 hv2 rfl hn2 hdb2) zel he2) he) hn hdb he hpl) λ σ H Q h => by
 obtain ⟨F, B, ad, as, r, as', R, e, q⟩ := h
 obtain ⟨⟨p, as1⟩, h1, e⟩ := bS_ (show (fa as).bind _ = _ from e)
 obtain ⟨⟨d, lv⟩, h2, e⟩ := bS_ e
 obtain ⟨ho, e⟩ := zP e
 cases e
 exact Xe R h1 λ v ad1 H1 R1 rv1 g1 => ⟨v, c, _, d, rfl, hc, wU.vw R1 rv1 h2, ho, q _ [] ad1 H1 R1 (.lf (.bl _)) g1⟩)
def vC : MG := λ os es => match es with | [o] => if os.length < sizeLine then some (os ++ [o], .lf true .non) else none | _ => none
def YK : MG := λ os es => match es with | [.lf _ (.int i)] => if -(2 ^ 63) <= i /\ i < 2 ^ 63 then (seqIndex? i os.length).bind λ k => (os[k]?).bind λ o => some (os.eraseIdx k, o) else none | _ => none
theorem zlw {l f fo g : List Addr} (h : l.Nodup) (e : l = f ++ (fo ++ g)) : ((f ++ g) ++ fo).Nodup /\ ∀ a ∈ (f ++ g) ++ fo, a ∈ l := by
 subst e
 have p : (f ++ (fo ++ g)).Perm ((f ++ g) ++ fo) := by
  rw [zxA]
  exact (List.perm_append_comm).append_left f
 exact ⟨p.nodup_iff.mp h, λ a m => p.mem_iff.mpr m⟩
theorem Z1 : MuD X kd zhj vC := by
 intro F B G l vs ws os es os' o fp fq H Q hH rl rw' hn e k
 unfold vC at e
 split at e
 · obtain ⟨hz, e⟩ := zP e
   cases e
   cases rw' with
   | cons h1 h2 =>
    cases h2
    rw [zyB] at hn k
    exact ⟨l, vs, _, rfl, rfl, hH, by rw [rl.length]; exact hz, k _ _ _ [] (rl.append (RoL.one h1)) (.lf .non) (λ a m => by rwa [zyB] at m) (by rw [zyB]; exact hn)⟩
 · cases e
theorem zkx : MuD X kd ziT YK := by
 intro F B G l vs ws os es os' o fp fq H Q hH rl rw' hn e k
 unfold YK at e
 split at e
 · rename_i st i
   split at e
   · rename_i hi
     obtain ⟨j, hj, e⟩ := bS_ e
     obtain ⟨o1, ho, e⟩ := bS_ e
     cases e
     obtain ⟨v, f, fo, gg, hv, hf, ro, r1, r2⟩ := rl.at_ ho
     cases rw' with
     | cons h1 h2 =>
      cases h2
      cases h1 with
      | lf rp =>
       cases rp
       rw [zyB, zyB] at hn k
       obtain ⟨n1, n2⟩ := zlw hn hf
       refine ⟨l, vs, i, j, v, rfl, rfl, hH, hi.1, hi.2, by rw [rl.length]; exact hj, hv, k v _ (f ++ gg) fo ?_ ro n2 n1⟩
       rw [zbm, zbm]
       exact r1.append r2
   · cases e
 · cases e
theorem Zr {i : Nat} {x : Str} {gg : MG} {r : V -> List V -> Hp -> VK -> Prop} {name : Str} {id : String} {apos cpos p : Pos} (hm : MtM X id r) (hr : MuD X kd r gg) (slot : Slot "list" name id) (hty : typeOf (.builtin id) = pure (.type "method_descriptor")) (ho : PE X (.Name x p) (Vh i)) (ha : AD X kd (e :: es) fd)
 (hbase : attributeBase (.Name x p) name X.env (eval (.Name x p) X.env) = eval (.Name x p) X.env)
 (hfew : ((backTo cpos (starEach (e :: es) X.env)).all (λ x => !x.1) && (backToKw cpos (keywordEach [] X.env)).all (λ x => x.1.isSome)
  && decide ((e :: es).length + ([] : List Keyword).length + (if ([] : List Keyword).isEmpty then 0 else 1) < 30)) = true)
 (hline : (apos.endLine == cpos.line) = true) (hs : starEach (e :: es) X.env = (false, eval e X.env) :: starEach es X.env) (hplain : (backTo cpos (starEach es X.env)).any (·.1) = false) :
 AE X kd (.Call (.Attribute (.Name x p) name apos) (e :: es) [] cpos) (vg i fd gg) := by with_unfolding_all exact (yF (zpD PySem.F.plainAttrs_list slot hty hm ho ha hbase hfew hline hs hplain) λ σ H Q h => zpw hr h)
end
inductive Ty where
 | str | lst | dct | int
def Ty.nm : Ty -> String
 | .str => "str" | .lst => "list" | .dct => "dict" | .int => "int"
def ziI : Ty -> D -> Bool
 | .str, .str _ => true
 | .lst, .lst _ => true
 | .dct, .dct _ => true
 | .int, .int _ => true
 | _, _ => false
def tyS (X : Cx) (T : String) (x : V) (H : Hp) : Prop := ∀ (pins : List (Addr × Obj)) (σ : St) (s : Shared) (v : Value), Inv X pins σ H s -> RelV x v -> s.TypeIs v T /\ ∀ a, v = .ref a -> ∃ ob, s.heap.get? a = some ob /\ ob.dict = none
def tMD (X : Cx) (T : String) (r : V -> List V -> Hp -> VK -> Prop) (to : TE) (t : TA) : TE := λ σ H Q => to σ H λ x H1 => tyS X T x H1 /\ t σ H1 λ xs H2 => r x xs H2 Q
section
variable {X : Cx} {kd : KD} {o e : Expr} {es : List Expr} {to : TE} {t : TA} {name : Str} {apos cpos : Pos} {T id : String} {r : V -> List V -> Hp -> VK -> Prop}
theorem zmT (pa : PlainAttrs T) (slot : Slot T name id) (hty : typeOf (.builtin id) = pure (.type "method_descriptor")) (hm : MtR X id r) (ho : PE X o to) (ha : PA X (e :: es) t)
 (hbase : attributeBase o name X.env (eval o X.env) = eval o X.env)
 (hfew : ((backTo cpos (starEach (e :: es) X.env)).all (λ x => !x.1) && (backToKw cpos (keywordEach [] X.env)).all (λ x => x.1.isSome)
  && decide ((e :: es).length + ([] : List Keyword).length + (if ([] : List Keyword).isEmpty then 0 else 1) < 30)) = true)
 (hline : (apos.endLine == cpos.line) = true) (hs : starEach (e :: es) X.env = (false, eval e X.env) :: starEach es X.env) (hplain : (backTo cpos (starEach es X.env)).any (·.1) = false) :
 PE X (.Call (.Attribute o name apos) (e :: es) [] cpos) (tMD X T r to t) := by
 intro pins s σ H Q I h
 refine wpAny_Call_method_late hbase hfew hline rfl (thn (ho pins s σ H _ I h) λ v s1 ⟨x, H1, I1, r1, ty, q1⟩ => ?_)
 obtain ⟨h1, h2⟩ := ty _ _ _ _ I1 r1
 refine ⟨T, id, pa, slot, hty, h1, h2, ?_⟩
 have hA := ha cpos pins s1 σ H1 _ I1 q1
 rw [hs] at hA ⊢
 refine Calls.callWith_builtin (by show (false || (backTo cpos (starEach es X.env)).any (·.1)) = false; rw [hplain] <;> rfl) (Calls.evalArgs_plain ?_)
 exact thn hA λ us s2 ⟨vs, H2, I2, r2, q2⟩ => hm pins s2 σ H2 x vs v us Q I2 r1 r2 q2
def MtD (X : Cx) (kd : KD) (id : String) (g : D -> List D -> Option R0) : Prop :=
 MtR X id (λ x xs H Q => ∃ O d ds r, (∀ a, O a -> H a ≠ none) /\ Vw X.K kd O H x d /\ VwL X.K kd O H xs ds /\ g d ds = some r /\ RQ X.K kd O H Q r)
theorem zni (hk : KdOk X kd) {O : Addr -> Prop} {H : Hp} {x : V} {d : D} {ty : Ty} (h : Vw X.K kd O H x d) (e : ziI ty d = true) : tyS X ty.nm x H := by
 intro pins σ s v I rx
 cases h with
 | str z =>
  obtain ⟨t, rfl⟩ := rx
  cases ty <;> first | (cases e; done) | exact ⟨typeIs_str s z t, λ _ e => nomatch e⟩
 | int z =>
  obtain ⟨t, rfl⟩ := rx
  cases ty <;> first | (cases e; done) | exact ⟨typeIs_int s z t, λ _ e => nomatch e⟩
 | lst hr rl =>
  cases rx
  obtain ⟨its, _, pl, _⟩ := I.list hr.sq
  cases ty <;> first | (cases e; done) | skip
  refine ⟨pl.isList.typeIs, λ a e => ?_⟩
  cases e
  obtain ⟨o, n, e, c, hd, _⟩ := pl
  exact ⟨o, e, hd⟩
 | dct hr rm =>
  cases rx
  obtain ⟨z, hd, vs, rel, dd⟩ := zaX I hk hr
  cases ty <;> first | (cases e; done) | skip
  refine ⟨dd.typeIs, λ b q => ?_⟩
  cases q
  obtain ⟨ob, _, _, h1, h2, _⟩ := dd
  exact ⟨ob, h1, h2.2.1⟩
 | non => cases ty <;> cases e
 | bl => cases ty <;> cases e
 | tup => cases ty <;> cases e
 | cl => cases ty <;> cases e
 | ob => cases ty <;> cases e
def zcw (ty : Ty) (fa : EF) (fr : AF) (g : D -> List D -> Option R0) : EF := λ as => (fa as).bind λ p => (p.1.frz.view p.2).bind λ w => if ziI ty w.1 = true then (fr p.2).bind λ q => (p.1.frz.view q.2).bind λ x => (views q.2 q.1).bind λ y => (g x.1 y.1).bind λ r => (wrap (meet x.2 y.2) r).bind λ z => some (z, q.2) else none
theorem znB (hk : KdOk X kd) {ty : Ty} {fa : EF} {fr : AF} {g : D -> List D -> Option R0} {σ : St} {H : Hp} {Q : VK} (h : al X.K kd (zcw ty fa fr g) σ H Q) :
 tMD X ty.nm (λ x xs H Q => ∃ O d ds r, (∀ a, O a -> H a ≠ none) /\ Vw X.K kd O H x d /\ VwL X.K kd O H xs ds /\ g d ds = some r /\ RQ X.K kd O H Q r) (al X.K kd fa) (alA X.K kd fr) σ H Q := by
 obtain ⟨F, B, ad, as, r, as', R, e, q⟩ := h
 obtain ⟨⟨p, as1⟩, h1, e⟩ := bS_ (show (fa as).bind _ = _ from e)
 obtain ⟨⟨d0, l0⟩, h0, e⟩ := bS_ e
 obtain ⟨hty, e⟩ := ite_some' e
 obtain ⟨⟨ps, as2⟩, h2, e⟩ := bS_ e
 obtain ⟨⟨d, lv⟩, h3, e⟩ := bS_ e
 obtain ⟨⟨ds, lv2⟩, h4, e⟩ := bS_ e
 obtain ⟨r0, h5, e⟩ := bS_ e
 obtain ⟨z, h6, e⟩ := bS_ e
 cases e
 refine Xe R h1 λ v ad1 H1 R1 rv1 g1 => ⟨zni hk (wU.vw R1 rv1 h0) hty, F, B, ad1, as1, ps, _, R1, h2, λ vs ad2 H2 R2 rv2 g2 => ?_⟩
 exact ⟨_, d, ds, r0, R2.tr _, (wU.vw R2 (rv1.grow g2) h3).less Obl.meet1, (Xg R2 rv2 h4).less Obl.meet2, h5, Wo R2 h6 λ w T' H' R' rv' g' => q w T' ad2 H' R' rv' ((g1.trans g2).trans g')⟩
theorem zlh {ty : Ty} {a : Expr} {fa : EF} {fr : AF} {g : D -> List D -> Option R0} (hk : KdOk X kd) (hm : MtD X kd id g) (pa : PlainAttrs ty.nm) (slot : Slot ty.nm name id) (hty : typeOf (.builtin id) = pure (.type "method_descriptor")) (ho : AE X kd a fa) (ha : AA X kd (e :: es) fr)
 (hbase : attributeBase a name X.env (eval a X.env) = eval a X.env)
 (hfew : ((backTo cpos (starEach (e :: es) X.env)).all (λ x => !x.1) && (backToKw cpos (keywordEach [] X.env)).all (λ x => x.1.isSome)
  && decide ((e :: es).length + ([] : List Keyword).length + (if ([] : List Keyword).isEmpty then 0 else 1) < 30)) = true)
 (hline : (apos.endLine == cpos.line) = true) (hs : starEach (e :: es) X.env = (false, eval e X.env) :: starEach es X.env) (hplain : (backTo cpos (starEach es X.env)).any (·.1) = false) :
 AE X kd (.Call (.Attribute a name apos) (e :: es) [] cpos) (zcw ty fa fr g) := by with_unfolding_all exact (yF (zmT pa slot hty hm ho ha hbase hfew hline hs hplain) λ σ H Q h => znB hk h)
end
section
variable {K : zC} {kd : KD} {F B G : Addr -> Prop} {T : List Addr} {ad : Ad} {as : AS} {σ : St} {H H' : Hp}
theorem Rel.wrT {p : Addr} {u : HO} (R : Rel K kd F B T ad as σ H) (hp : p ∈ T) : Rel K kd F B T ad as σ (upd H p u) /\ Grow (Gw T ad) H (Gw T ad) (upd H p u) := by
 have g : Grow (Gw T ad) H (Gw T ad) (upd H p u) := Grow.wr (.inl hp)
 have kn : ∀ a, H a ≠ none -> upd H p u a ≠ none := λ a z => by
  by_cases e : a = p
  · subst e; rw [yc]; simp
  · rw [zQ e]; exact z
 exact ⟨⟨R.len, R.out, R.nd, R.inj, R.tnd, R.dis, λ a z => kn a (R.ftr a z), λ a z => ⟨kn a (R.btr a z).1, (R.btr a z).2⟩, λ a z => ⟨kn a (R.gtr a z).1, (R.gtr a z).2⟩, λ i s e => (R.sl i s e).grow g λ a m w h => by
  rw [zQ (λ z => R.dis i a m (by rw [z]; exact hp))]; exact h⟩, g⟩
inductive RPs (K : zC) (kd : KD) (F B G : Addr -> Prop) (H : Hp) : List (V × V) -> List (Key × O) -> Prop
 | nil : RPs K kd F B G H [] []
 | cons {k : Key} {v : V} {o : O} {ps : List (V × V)} {kos : List (Key × O)} : RoS K kd F B G H v o [] -> RPs K kd F B G H ps kos -> RPs K kd F B G H ((kV k, v) :: ps) ((k, o) :: kos)
end
def fD0 : EF := λ as => some (.ow (.nd (.dc []) []), as)
section
variable {X : Cx} {kd : KD} {e a b c o i : Expr} {pos pos' : Pos} {fa fb fk fv : EF}
theorem zmR : AE X kd (.Dict [] [] pos) fD0 := by with_unfolding_all exact (yF zjd λ σ H Q h => by
 obtain ⟨F, B, ad, as, r, as', R, e, q⟩ := h
 cases e
 intro p hp
 have k : ∀ b o, H b = some o -> upd H p (.dK []) b = some o := λ b o hb => by rw [zQ (yH hb hp)]; exact hb
 obtain ⟨R2, g2⟩ := R.news (T' := [p]) (by simp) (λ a m => by rw [zzO.mp m]; exact hp) k (λ a m => by rw [zzO.mp m, yc]; simp)
 exact q _ [p] ad _ R2 (.dc (vs := []) yc rfl .nil) g2)
def zgF (ks : List Key) (k : Key) : Bool := ks.any λ x => decide (x = k)
def Xq (ks : List Key) (k : Key) : List Key := if zgF ks k = true then ks else ks ++ [k]
def ZX {α : Type} (ks : List Key) (os : List α) (k : Key) (o : α) : List α := if zgF ks k = true then (ks.zip os).map (λ p => if p.1 = k then o else p.2) else os ++ [o]
theorem zgJ {α : Type} (k : Key) : ∀ (ks : List Key) (vs : List α), ks.length = vs.length -> ((ks.zip vs).any λ kv => decide (kv.1 = k)) = zgF ks k
 | [], _, _ => rfl
 | x :: r, [], h => by simp at h
 | x :: r, v :: vs, h => by
  show (decide (x = k) || (r.zip vs).any _) = (decide (x = k) || _)
  rw [zgJ k r vs (by simpa using h)]
  rfl
theorem zhK {v : V} {k : Key} : ∀ (ks : List Key) (vs : List V), ks.length = vs.length -> (ks.zip vs).map (λ kv => if kv.1 = k then (kv.1, v) else kv) = ks.zip ((ks.zip vs).map λ p => if p.1 = k then v else p.2)
 | [], _, _ => rfl
 | x :: r, [], h => by simp at h
 | x :: r, w :: vs, h => by
  show _ :: (r.zip vs).map _ = (x, _) :: r.zip ((r.zip vs).map _)
  rw [zhK r vs (by simpa using h)]
  congr 1
  by_cases e : x = k
  · simp [e]
  · simp [e]
theorem ziZ {ks : List Key} {vs : List V} {k : Key} {v : V} (h : ks.length = vs.length) : putK (ks.zip vs) k v = (Xq ks k).zip (ZX ks vs k v) := by
 unfold putK Xq ZX
 rw [zgJ k ks vs h]
 split
 · exact zhK ks vs h
 · rw [List.zip_append h]
   rfl
theorem zeo {α : Type} {ks : List Key} {os : List α} {k : Key} {o : α} (h : ks.length = os.length) : (Xq ks k).length = (ZX ks os k o).length := by
 unfold Xq ZX
 split
 · rw [zD, List.length_zip, h]; simp
 · rw [zzG, zzG, h]; rfl
theorem ziX {L : Bool -> V -> D -> Prop} {Nn : Addr -> Prop} {H : Hp} {k : Key} {v : V} {o : O} (ho : Ro L Nn H v o []) : ∀ {ks : List Key} {vs : List V} {os : List O} {fp : List Addr}, ks.length = vs.length -> RoL L Nn H vs os fp ->
 ∃ fp', fp'.Sublist fp /\ RoL L Nn H ((ks.zip vs).map λ p => if p.1 = k then v else p.2) ((ks.zip os).map λ p => if p.1 = k then o else p.2) fp'
 | [], [], _, _, _, .nil => ⟨[], .slnil, .nil⟩
 | x :: r, _, _, _, hl, .cons (fp := f) (fq := g) h t => by
  obtain ⟨fp', s, q⟩ := ziX ho (ks := r) (by simpa using hl) t
  by_cases e : x = k
  · refine ⟨fp', s.trans (List.sublist_append_right _ _), ?_⟩
    have := RoL.cons ho q
    simpa [e] using this
  · refine ⟨f ++ fp', List.Sublist.append (List.Sublist.refl _) s, ?_⟩
    have := RoL.cons h q
    simpa [e] using this
 | [], _ :: _, _, _, hl, _ => by simp at hl
def VG (i : Nat) (fk fv : EF) : SF := λ as => (fv as).bind λ p => (zax p.2 p.1).bind λ x => match x.2[i]? with
 | some (some (.nd (.dc _) _)) => (fk x.2).bind λ q => (q.1.frz.view q.2).bind λ kd => (zcv kd.1).bind λ k => match q.2[i]? with
  | some (some (.nd (.dc ks) os)) => if ks.length < sizeLine then some (.nx (q.2.set i (some (.nd (.dc (Xq ks k)) (ZX ks os k (.lf x.1.1 x.1.2)))))) else none
  | _ => none
 | _ => none
theorem zgn {j : Nat} {x : Str} {p : Pos} (hu : X.A.units + 1 < cLine) (ho : PE X (.Name x p) (Vh j)) (hk : AE X kd i fk) (hv : AE X kd e fv) (hs : swapsWith e (some (.Subscript (.Name x p) i pos')) pos.line X.env = pure false) :
 ASt X kd (.Assign [.Subscript (.Name x p) i pos'] e pos) (VG j fk fv) := by with_unfolding_all exact (Zm (zmg hu ho hk hv hs) λ D σ H h => by
 obtain ⟨F, B, ad, as, o, R, e, q⟩ := h
 obtain ⟨⟨p, as1⟩, h1, e⟩ := bS_ (show (fv as).bind _ = _ from e)
 obtain ⟨⟨⟨st, d⟩, as2⟩, h2, e⟩ := bS_ e
 cases k1 : as2[j]? with
 | none => rw [k1] at e; cases e
 | some a0 =>
  rw [k1] at e
  match a0, e, k1 with
  | some (.nd (.dc ks0) os0), e, k1 =>
   obtain ⟨⟨pk, as3⟩, h3, e⟩ := bS_ (show (fk as2).bind _ = _ from e)
   obtain ⟨⟨dk, lk⟩, h4, e⟩ := bS_ e
   obtain ⟨k, h5, e⟩ := bS_ e
   refine ⟨F, B, ad, as, p, as1, R, h1, λ v T1 ad1 H1 R1 rv1 g1 => ?_⟩
   obtain ⟨ad2, R2, rp, le⟩ := Wq R1 rv1 h2
   obtain ⟨v0, hs0, ro0⟩ := R2.sl j _ k1
   refine ⟨v0, hs0, Xe R2 h3 λ u ad3 H3 R3 rv3 g3 => ?_⟩
   cases k2 : as3[j]? with
   | none => rw [k2] at e; cases e
   | some a2 =>
    rw [k2] at e
    match a2, e, k2 with
    | some (.nd (.dc ks) os), e, k2 =>
     obtain ⟨hz, e⟩ := zP e
     cases e
     obtain ⟨v1, hs1, ro1⟩ := R3.sl j _ k2
     rw [hs0] at hs1
     cases hs1
     generalize hfp : ad3 j = fp1 at ro1
     cases ro1 with
     | dc hH hl rl =>
          rename_i l vs fp
          have ek : u = kV k := zdx (wU.vw R3 rv3 h4) h5
          have ro : RoS X.K kd F B (Gw [] ad3) H3 v (.lf st d) [] := .lf (Rp.grow g3 rp)
          have hlo : ks.length = os.length := by rw [hl, rl.length]
          have hex : ∃ fp', fp'.Sublist fp /\ wY X.K kd F B (Gw [] ad3) H3 (ZX ks vs k v) (ZX ks os k (.lf st d)) fp' := by
           unfold ZX
           split
           · exact ziX ro hl rl
           · exact ⟨fp, List.Sublist.refl _, by have := rl.append (RoL.one ro); rw [zyB] at this; exact this⟩
          obtain ⟨fp', hsub, rl'⟩ := hex
          have hnd := R3.nd j
          rw [hfp] at hnd
          refine ⟨l, _, rfl, .inl ⟨_, k, hH, ek, by rw [List.length_zip, hl, Nat.min_self, <- hl]; exact hz, rfl⟩, ?_⟩
          rw [ziZ hl]
          obtain ⟨R4, g4⟩ := R3.mut (fo := []) (n := .nd (.dc (Xq ks k)) (ZX ks os k (.lf st d))) (u := .dK ((Xq ks k).zip (ZX ks vs k v))) (zzD.mp k2).1 hfp hs0 (fp' := fp') (λ a m => by
           rw [zyB] at m ⊢; exact hsub.mem m) (by rw [zyB]; exact (zzT.mp hnd).2.sublist hsub) (by rw [hH]; simp) λ H' G' hl' gr kp => .dc hl' (zeo hl) (wY.grow gr kp rl')
          exact q σ _ _ R4 (((g1.trans (Grow.less le)).trans g3).trans g4))
end
abbrev Fn := List (Bool × D) -> Option O
section
variable {P : Program} {w : World} {K : zC} {mg : Str -> Option Value} {base : Heap} {kd : KD}
theorem yC {A : Around} {k : Nat} (hr : Room k A) : A.units + 100 < cLine := by have := hr.un; omega
def KD1 (P : Program) (w : World) (K : zC) (kd : KD) : Prop := ∀ X : Cx, X.prog = P -> X.w = w -> X.K = K -> KdOk X kd
theorem X7 {O : Addr -> Prop} {H : Hp} : ∀ ns : List Int, RpL K kd O H (ns.map V.int) (ns.map D.int)
 | [] => .nil
 | _ :: r => .cons (.int _) (X7 r)
theorem znU {H : Hp} {a : Addr} {ns : List Int} {g : Fn} {E : XK} (hg : g [(true, .lst (ns.map D.int))] = some (.lf true (.bl true))) (hS : RdL K H a (ns.map V.int)) : spD K kd g [.ref a] H (λ v _ => v = .bl true) E := by
 refine ⟨λ _ => False, [(true, .lst (ns.map D.int))], .lf true (.bl true), (λ _ z => z.elim), .cons ?_ .nil, hg, λ v T H' _ _ _ _ ro => ?_⟩
 · rcases hS with h | ⟨its, n, k, z, r⟩
   · exact .lst (λ z => z.2) h (X7 ns)
   · exact .lstK k z r (X7 ns)
 · cases ro with
   | lf rp => cases rp; rfl
end
namespace Bt
theorem len : bootBuiltins "len" = some (.builtin "len") := by decide +kernel
theorem max : bootBuiltins "max" = some (.builtin "max") := by decide +kernel
theorem min : bootBuiltins "min" = some (.builtin "min") := by decide +kernel
theorem sorted : bootBuiltins "sorted" = some (.builtin "sorted") := by decide +kernel
theorem isinstance : bootBuiltins "isinstance" = some (.builtin "isinstance") := by decide +kernel
theorem int : bootBuiltins "int" = some (.type "int") := by decide +kernel
theorem bool : bootBuiltins "bool" = some (.type "bool") := by decide +kernel
theorem list : bootBuiltins "list" = some (.type "list") := by decide +kernel
theorem dict : bootBuiltins "dict" = some (.type "dict") := by decide +kernel
theorem n (x : Str) (h : (x == ("__name__" : Str)) = false) : x ≠ "__name__" := λ e => by subst e; simp at h
end Bt
def WD (f : EF) (as : AS) (st : Bool) (d : D) : Prop := f as = some (.ow (.lf st d), as)
def WT (f : TF) (as : AS) (b : Bool) : Prop := f as = some (b, as)
def WA (f : AF) (as : AS) (rs : List (Bool × D)) : Prop := f as = some (rs.map (λ x => .ow (.lf x.1 x.2)), as)
def WO (f : DF) (as : AS) (os : List O) : Prop := f as = some (os, as)
section
variable {as : AS} {f a b : EF} {s t : Bool} {x y z : D} {i j : Int}
theorem zp : WD (fC x) as true x := rfl
theorem zb {i : Nat} (h : as[i]? = some (some (.lf s x))) : WD (fV i) as s x := by unfold WD fV; rw [h]
theorem znc {g : D -> D -> Option R0} (ha : WD a as s x) (hb : WD b as t y) (hg : g x y = some (.im z)) : WD (f2 a b g) as (zH z || (s && t)) z := by
 unfold WD f2 at *
 rw [ha]; show ((b as).bind _) = _
 rw [hb]; show ((g x y).bind _) = _
 rw [hg]
 show (if (zH z || (meet (some s) (some t)).isSome) = true then _ else _ : Option RV).bind _ = _
 rw [if_pos (by unfold meet; simp)]
 rfl
theorem zqA {g : D -> D -> Option R0} {oa ob : O} (ha : a as = some (.ow oa, as)) (hb : b as = some (.ow ob, as)) (hg : g oa.toD ob.toD = some (.im z)) : WD (f2 a b g) as (zH z || (oa.str && ob.str)) z := by
 unfold WD f2 at *
 rw [ha]; show ((b as).bind _) = _
 rw [hb]; show ((g oa.toD ob.toD).bind _) = _
 rw [hg]
 show (if (zH z || (meet (some oa.str) (some ob.str)).isSome) = true then _ else _ : Option RV).bind _ = _
 rw [if_pos (by unfold meet; simp)]
 rfl
theorem yO {g : D -> D -> Option R0} (ha : WD a as s x) (hb : WD b as t y) (hg : g x y = some (.im z)) (e : zH z = true) : WD (f2 a b g) as true z := by
 have := znc ha hb hg; rw [e] at this; exact this
theorem yN (ha : WD a as s (.int i)) (hb : WD b as t (.int j)) : WD (f2 a b (zak .Add)) as true (.int (i + j)) := yO ha hb rfl rfl
theorem vW (ha : WD a as s (.int i)) (hb : WD b as t (.int j)) (h1 : i.natAbs < big) (h2 : j.natAbs < big) : WD (f2 a b (zak .Mult)) as true (.int (i * j)) := yO ha hb (by show (if _ then _ else _) = _; rw [if_pos ⟨h1, h2⟩]) rfl
theorem wj (ha : WD a as s (.int i)) (hb : WD b as t (.int j)) (h1 : 0 < j) (h2 : j.natAbs < big) : WD (f2 a b (zak .FloorDiv)) as true (.int (i / j)) := yO ha hb (by show (if _ then _ else _) = _; rw [if_pos ⟨h1, h2⟩]) rfl
theorem yt (ha : WD a as s (.int i)) (hb : WD b as t (.int j)) (h1 : 0 < j) : WD (f2 a b (zak .Mod)) as true (.int (i % j)) := yO ha hb (by show (if _ then _ else _) = _; rw [if_pos h1]) rfl
theorem zaS {c : Bool} (ha : WD a as s x) (hb : WD b as t y) (h : eqF 60 x y = some c) : WD (f2 a b (Xh .Eq)) as true (.bl c) := yO ha hb (by show (eqF 60 x y).bind _ = _; rw [h]; rfl) rfl
theorem zkl (ha : WD a as s (.int i)) (hb : WD b as t (.int j)) : WD (f2 a b (Xh .Lt)) as true (.bl (decide (i < j))) := yO ha hb rfl rfl
theorem zpN (ha : WD a as s (.int i)) (hb : WD b as t (.int j)) : WD (f2 a b (Xh .Gt)) as true (.bl (decide (j < i))) := yO ha hb rfl rfl
theorem vq {c : Bool} (h : WD f as s x) (e : truth x = some c) : WT (fT f) as c := by
 unfold WT fT; unfold WD at h
 rw [h]; show ((truth x).bind _) = _
 rw [e]; rfl
theorem zfZ {c : TF} {k : Bool} (h : WT c as k) : WT (zbn c) as (!k) := by unfold WT zbn at *; rw [h]; rfl
theorem zgM {c e : TF} {k l : Bool} (h : WT c as k) (h2 : k = false -> WT e as l) (h3 : k = true -> l = true) : WT (zic c e) as l := by
 unfold WT zic at *; rw [h]
 cases k with
 | false => exact h2 rfl
 | true => rw [h3 rfl]; rfl
theorem zkI {k l : Bool} (h : WD a as s (.bl k)) (h2 : k = true -> WD b as true (.bl l)) (h3 : k = false -> l = false) : WD (zib a b) as true (.bl l) := by
 unfold WD zib at *; rw [h]
 cases k with
 | true => exact h2 rfl
 | false => rw [h3 rfl]; rfl
theorem zX : WA aN as [] := rfl
theorem zG {fr : AF} {rs : List (Bool × D)} (ha : WD a as s x) (hr : WA fr as rs) : WA (aC a fr) as ((s, x) :: rs) := by
 unfold WA aC at *; unfold WD at ha
 rw [ha]; show ((fr as).bind _) = _
 rw [hr]; rfl
theorem Wr : ∀ rs : List (Bool × D), Xa as (rs.map (λ x => .ow (.lf x.1 x.2))) = some (rs.map λ x => (zH x.2 || x.1, x.2))
 | [] => rfl
 | r :: rs => by
  show (zjN as (.ow (.lf r.1 r.2))).bind _ = _
  show (Xa as (rs.map _)).bind _ = _
  rw [Wr rs]; rfl
theorem YF : ∀ rs : List (Bool × D), views as (rs.map (λ x => .ow (.lf x.1 x.2))) = some (rs.map (·.2), some (rs.all (·.1)))
 | [] => rfl
 | r :: rs => by
  show (views as (rs.map _)).bind _ = _
  rw [YF rs]; rfl
theorem Yg {fr : AF} {rs : List (Bool × D)} {g : List (Bool × D) -> Option O} (ha : WA fr as rs) (hg : g (rs.map λ x => (zH x.2 || x.1, x.2)) = some (.lf s x)) : WD (zO fr g) as s x := by
 unfold WD zO; unfold WA at ha
 rw [ha]; show (Xa as _).bind _ = _
 rw [Wr]; show (g _).bind _ = _
 rw [hg]; rfl
theorem Wn {fr : AF} {rs : List (Bool × D)} {o : O} {g : List (Bool × D) -> Option O} (ha : WA fr as rs) (hg : g (rs.map λ x => (zH x.2 || x.1, x.2)) = some o) : zO fr g as = some (.ow o, as) := by
 unfold zO; unfold WA at ha
 rw [ha]; show (Xa as _).bind _ = _
 rw [Wr]; show (g _).bind _ = _
 rw [hg]; rfl
theorem zgX {fr : AF} {rs : List (Bool × D)} {g : List D -> Option R0} (ha : WA fr as rs) (hg : g (rs.map (·.2)) = some (.im x)) : WD (fP fr g) as (zH x || rs.all (·.1)) x := by
 unfold WD fP; unfold WA at ha
 rw [ha]; show (views as _).bind _ = _
 rw [YF]; show (g _).bind _ = _
 rw [hg]
 show (if (zH x || (some (rs.all (·.1))).isSome) = true then _ else _ : Option RV).bind _ = _
 rw [if_pos (by simp)]; rfl
theorem Zf {fr : AF} {rs : List (Bool × D)} {g : List D -> Option R0} (ha : WA fr as rs) (hg : g (rs.map (·.2)) = some (.im x)) (e : zH x = true) : WD (fP fr g) as true x := by
 have := zgX ha hg; rw [e] at this; exact this
theorem yM : WO dN as [] := rfl
theorem xf {fr : DF} {os : List O} (ha : WD a as s x) (hr : WO fr as os) : WO (dC a fr) as (.lf s x :: os) := by
 unfold WO dC at *; unfold WD at ha
 rw [ha]; show ((fr as).bind _) = _
 rw [hr]; rfl
theorem YH {fr : DF} {os : List O} (h : WO fr as os) (hl : os.length <= sizeLine) : xg fr as = some (.ow (.nd .ls os), as) := by
 unfold xg; unfold WO at h
 rw [h]; show (if os.length <= sizeLine then _ else _) = _
 rw [if_pos hl]
theorem zU {f g : SF} {as1 : AS} {o : Option Out} (h1 : f as = some (.nx as1)) (h2 : g as1 = o) : zE f g as = o := by unfold zE; rw [h1]; exact h2
theorem Zc {f g : SF} {o : O} (h1 : f as = some (.rt o)) : zE f g as = some (.rt o) := by unfold zE; rw [h1]; rfl
theorem v4 {c : TF} {f g : SF} {o : Option Out} (h : WT c as true) (h1 : f as = o) : sIf c f g as = o := by unfold sIf; unfold WT at h; rw [h]; exact h1
theorem wN {c : TF} {f g : SF} {o : Option Out} (h : WT c as false) (h1 : g as = o) : sIf c f g as = o := by unfold sIf; unfold WT at h; rw [h]; exact h1
theorem xQ {i : Nat} {st : Bool} (h : WD f as s x) (hi : i < as.length) : zJ st i f as = some (.nx (as.set i (some (.lf s x)))) := by
 unfold zJ; unfold WD at h
 rw [h]
 cases st <;> exact if_pos hi
theorem wX {i : Nat} {o : O} (h : f as = some (.ow o, as)) (hi : i < as.length) : zJ false i f as = some (.nx (as.set i (some o))) := by
 unfold zJ
 rw [h]
 exact if_pos hi
theorem zmC {i : Nat} {o : O} (h : f as = some (.ow o, as)) (hi : i < as.length) : zJ true i f as = some (.nx (as.set i (some o.frz))) := by
 unfold zJ
 rw [h]
 exact if_pos hi
theorem Zu (h : WD f as true x) : yZ f as = some (.rt (.lf true x)) := by unfold yZ; unfold WD at h; rw [h]; rfl
theorem Z8 {n m : Nat} {c : SF} {ds : List (Bool × D)} {o : O} (hl : ds.length = m) (h : c (vG n ds) = some (.rt o)) : fnR n m c ds = some o := by unfold fnR; rw [if_pos hl, h]; rfl
theorem xx {g : GF} {f : SF} (I : Nat -> AS -> Prop) : ∀ (xs : List It1) (k : Nat) (as : AS), (∀ i x as, xs[i]? = some x -> I (k + i) as -> ∃ as1, g x as = some as1 /\ ∃ as2, f as1 = some (.nx as2) /\ I (k + i + 1) as2) -> I k as -> ∃ as', forL g f xs as = some (.nx as') /\ I (k + xs.length) as'
 | [], k, as, _, h => ⟨as, rfl, h⟩
 | x :: r, k, as, st, h => by
  obtain ⟨as1, h1, as2, h2, h3⟩ := st 0 x as rfl h
  obtain ⟨as', h4, h5⟩ := xx I r (k + 1) as2 (λ i y as e q => by
   obtain ⟨u, k1, v, k2, k3⟩ := st (i + 1) y as e (by rw [show k + (i + 1) = k + 1 + i by omega]; exact q)
   exact ⟨u, k1, v, k2, by rw [show k + 1 + i + 1 = k + (i + 1) + 1 by omega]; exact k3⟩) h3
  refine ⟨as', ?_, by rw [zzQ, show k + (r.length + 1) = k + 1 + r.length by omega]; exact h5⟩
  show (g x as).bind _ = _
  rw [h1]; show (f as1).bind _ = _
  rw [h2]; exact h4
theorem wO {fi : IF} {g : GF} {f : SF} {xs : List It1} {as' : AS} {o : Option Out} (h : fi as = some (xs, as')) (h2 : forL g f xs as' = o) : wH fi g f as = o := by unfold wH; rw [h]; exact h2
theorem vQ {lo : Int} {n i : Nat} {x : It1} (h : (wI lo n)[i]? = some x) : x = (true, .int (lo + i)) /\ i < n := by
 unfold wI at h
 rw [zzF] at h
 cases e : (List.range n)[i]? with
 | none => rw [e] at h; cases h
 | some k =>
  rw [e] at h
  obtain ⟨h1, h2⟩ := zzD.mp e
  rw [zyR] at h1
  rw [List.getElem_range] at h2
  subst h2
  exact ⟨(zzW h).symm, h1⟩
theorem wR {fr : AF} {j : Int} {u : Bool} (h : WA fr as [(u, .int j)]) (h0 : 0 <= j) (h1 : j < 1000000) : yX fr xq as = some (wI 0 j.toNat, as) := by
 unfold yX; unfold WA at h
 rw [h]
 simp only [zyI, YF]
 show ((if -(2 ^ 62) <= j /\ j < 2 ^ 62 then some (wI 0 j.toNat) else none).bind _) = _
 rw [if_pos ⟨by omega, by omega⟩]; rfl
theorem zfh {fr : AF} {rs : List (Bool × D)} {o : O} (ha : a as = some (.ow o, as)) (hr : WA fr as rs) : WA (aC a fr) as ((o.str, o.toD) :: rs) := by
 unfold WA aC at *
 rw [ha]; show ((fr as).bind _) = _
 rw [hr]; rfl
theorem Y9 {i : Nat} {o : O} (h : as[i]? = some (some o)) : RV.view as (.bo i) = some (o.toD, o.kl) := by simp only [RV.view, h]
theorem zoW {i : Nat} {o : O} (h : as[i]? = some (some o)) : toO as (.bo i) = some (o.frz, as.set i (some o.frz)) := by simp only [toO, h]
theorem zlz {i : Nat} {o : O} (h : as[i]? = some (some o)) (hs : o.str = true) : zkQ as (.bo i) = some o := by simp only [zkQ, h, hs, if_true]
theorem W5 {i : Nat} {k : Kind} {os : List O} (h : as[i]? = some (some (.nd k os))) : fV i as = some (.bo i, as) := by unfold fV; rw [h]
theorem zoh {i : Nat} {os : List O} (h : as[i]? = some (some (.nd .ls os))) : WD (fP (aC (fV i) aN) zbI) as true (.int os.length) := by
 have e : views as [.bo i] = some ([.lst (O.toDs os)], meet (O.nd .ls os).kl (some true)) := by
  show (RV.view as (.bo i)).bind _ = _
  rw [Y9 h]; rfl
 unfold WD fP aC
 rw [W5 h]
 simp only [zyI, aN, RV.frz, e]
 rw [show zbI [.lst (O.toDs os)] = some (.im (.int os.length)) by show some (R0.im (.int ((O.toDs os).length : Nat))) = _; rw [zaM]]
 rfl
theorem zeS {g : GF} {f : SF} {d : It1} {r : List It1} {as1 : AS} {o : O} (h1 : g d as = some as1) (h2 : f as1 = some (.rt o)) : forL g f (d :: r) as = some (.rt o) := by
 show (g d as).bind _ = _
 rw [h1]; show (f as1).bind _ = _
 rw [h2]; rfl
theorem zfV {i : Nat} {os : List O} (h : as[i]? = some (some (.nd .ls os))) (hl : os.length < sizeLine) (ha : WD a as s x) : ww (vg i (dC a dN) vC) as = some (.nx (as.set i (some (.nd .ls (os ++ [.lf s x]))))) := by
 unfold ww vg; rw [h]
 have e : dC a dN as = some ([.lf s x], as) := xf ha yM
 show ((dC a dN as).bind _).bind _ = _
 rw [e]; show (Option.bind (match as[i]? with | some (some (.nd .ls os)) => _ | _ => none) _) = _
 rw [h]; show ((vC os [.lf s x]).bind _).bind _ = _
 have e2 : vC os [.lf s x] = some (os ++ [.lf s x], .lf true .non) := by unfold vC; exact if_pos hl
 rw [e2]; rfl
theorem zkN {i : Nat} {os : List O} {k : Int} {o : O} (h : as[i]? = some (some (.nd .ls os))) (ha : WD a as s (.int k)) (h0 : 0 <= k) (h1 : k < os.length) (hs : os.length < 2 ^ 60) (ho : os[k.toNat]? = some o) : vg i (dC a dN) YK as = some (.ow o, as.set i (some (.nd .ls (os.eraseIdx k.toNat)))) := by
 unfold vg; rw [h]
 have e : dC a dN as = some ([.lf s (.int k)], as) := xf ha yM
 show ((dC a dN as).bind _) = _
 rw [e]; show (match as[i]? with | some (some (.nd .ls os)) => _ | _ => none) = _
 rw [h]; show ((YK os [.lf s (.int k)]).bind _) = _
 have e2 : YK os [.lf s (.int k)] = some (os.eraseIdx k.toNat, o) := by
  unfold YK
  show (if -(2 ^ 63) <= k /\ k < 2 ^ 63 then _ else _) = _
  rw [if_pos ⟨by omega, by omega⟩]
  have e3 : seqIndex? k os.length = some k.toNat := by unfold seqIndex?; simp; omega
  rw [e3]; show ((os[k.toNat]?).bind _) = _
  rw [ho]; rfl
 rw [e2]; rfl
theorem zfM {g : GF} {o : O} {as' : AS} (h : f as = some (.ow o, as)) (hg : g (o.str, o.toD) as = some as') : zcI f g as = some (.nx as') := by
 unfold zcI; rw [h]
 show (g (o.str, o.toD) as).bind _ = _
 rw [hg]; rfl
theorem zbw {i : Nat} {o : O} (h : as[i]? = some (some o)) (hs : o.str = true) : yZ (fV i) as = some (.rt o) := by
 cases o with
 | lf st d => unfold yZ fV; rw [h]; have : st = true := hs; subst this; rfl
 | nd k os =>
  unfold yZ; rw [W5 h]; show (zkQ as (.bo i)).bind _ = _
  rw [zlz h hs]; rfl
theorem zpa {g : D -> D -> Option R0} {oa ob : O} {zs : List D} {as1 as2 : AS} (ha : a as = some (.ow oa, as1)) (hb : b as1 = some (.ow ob, as2)) (hg : g oa.toD ob.toD = some (.fl zs)) : f2 a b g as = some (.ow (.nd .ls (zs.map (lfs (oa.str && ob.str)))), as2) := by
 unfold f2
 rw [ha]; show ((b as1).bind _) = _
 rw [hb]; show ((g oa.toD ob.toD).bind _) = _
 rw [hg]
 show (if (zs.all zH || (meet (some oa.str) (some ob.str)).isSome) = true then _ else _ : Option RV).bind _ = _
 rw [if_pos (by unfold meet; simp)]
 rfl
theorem zcC {g : D -> D -> Option R0} (ha : WD a as true x) (hb : WD b as true y) (hg : g x y = some (.im z)) : WD (f2 a b g) as true z := by
 have := znc ha hb hg
 rw [show (zH z || (true && true)) = true by simp] at this
 exact this
theorem Vr : ∀ zs : List D, zs.map (lfs true) = zs.map (O.lf true)
 | [] => rfl
 | z :: r => by
  show lfs true z :: r.map (lfs true) = _
  rw [Vr r]; unfold lfs; rw [zyA]; rfl
theorem zlo {g : D -> D -> Option R0} {oa ob : O} {zs : List D} {as1 as2 : AS} (ha : a as = some (.ow oa, as1)) (hb : b as1 = some (.ow ob, as2)) (hg : g oa.toD ob.toD = some (.fl zs)) (h1 : oa.str = true) (h2 : ob.str = true) : f2 a b g as = some (.ow (.nd .ls (zs.map (O.lf true))), as2) := by
 have := zpa ha hb hg
 rw [h1, h2, show (true && true) = true from rfl, Vr] at this
 exact this
theorem wW {fr : DF} {o : O} {os : List O} {as1 as2 : AS} (ha : a as = some (.ow o, as1)) (hr : fr as1 = some (os, as2)) : dC a fr as = some (o :: os, as2) := by
 unfold dC
 rw [ha]; show ((fr as1).bind _) = _
 rw [hr]; rfl
theorem add_lists {xs ys : List D} (h : xs.length + ys.length <= sizeLine) : zak .Add (.lst xs) (.lst ys) = some (.fl (xs ++ ys)) := if_pos h
theorem zag (lo : Int) (n : Nat) : wI lo (n + 1) = (true, .int lo) :: wI (lo + 1) n := by
 unfold wI
 rw [List.range_succ_eq_map, zyP, zzY]
 congr 1
 · simp
 · apply List.map_congr_left
   intro i _
   show (true, D.int _) = (true, D.int _)
   congr 2
   show lo + ((i + 1 : Nat) : Int) = _
   omega
theorem zkB {fr : AF} {rs : List (Bool × D)} {g : List D -> Option R0} (ha : WA fr as rs) (hg : g (rs.map (·.2)) = some (.im x)) (e : rs.all (·.1) = true) : WD (fP fr g) as true x := by
 have := zgX ha hg; rw [e, zyA] at this; exact this
theorem zlb {ty : Ty} {fr : AF} {rs : List (Bool × D)} {g : D -> List D -> Option R0} (ha : WD a as s y) (ht : ziI ty y = true) (hr : WA fr as rs) (hg : g y (rs.map (·.2)) = some (.im x)) (e : zH x = true) : WD (zcw ty a fr g) as true x := by
 unfold WD zcw; unfold WD at ha; unfold WA at hr
 rw [ha]
 show (if ziI ty y = true then _ else _ : Option (RV × AS)) = _
 rw [if_pos ht, hr]
 simp only [zyI, YF]
 show ((g y (rs.map (·.2))).bind _) = _
 rw [hg]
 show (if (zH x || _) = true then _ else _ : Option RV).bind _ = _
 rw [if_pos (by rw [e]; rfl)]
 show some (RV.ow (.lf (zH x || _) x), as) = _
 rw [e]; rfl
theorem ziB {g : GF} {fe : EF} {as0 as1 : AS} {y : It1} {r : List It1} {os : List O} (h1 : g y as0 = some as1) (h2 : WD fe as1 true x) (h3 : yW g xX fe as0 r = some os) : yW g xX fe as0 (y :: r) = some (.lf true x :: os) := by
 show (g y as0).bind _ = _
 rw [h1]; show (fe as1).bind _ = _
 unfold WD at h2
 rw [h2]; show (yW g xX fe as0 r).bind _ = _
 rw [h3]; rfl
theorem zbz {fi : IF} {cap : List (Option Nat)} {g : GF} {tt : TF} {fe : EF} {xs : List It1} {os : List O} (h1 : fi as = some (xs, as)) (hl : xs.length <= sizeLine) (h2 : yW g tt fe (ZP cap as) xs = some os) : yj fi cap g tt fe as = some (.ow (.nd .ls os), as) := by
 unfold yj
 rw [h1]; show (if xs.length <= sizeLine then _ else _) = _
 rw [if_pos hl]; show (yW g tt fe (ZP cap as) xs).bind _ = _
 rw [h2]; rfl
theorem zoS {i : Nat} {fk fv : EF} {ks : List Key} {os : List O} {k : Key} (hv : WD fv as s x) (hi : as[i]? = some (some (.nd (.dc ks) os))) (hk : WD fk as t y) (ek : zcv y = some k) (hl : ks.length < sizeLine) : VG i fk fv as = some (.nx (as.set i (some (.nd (.dc (Xq ks k)) (ZX ks os k (.lf s x)))))) := by
 unfold VG; unfold WD at hv hk
 rw [hv]
 show (match as[i]? with | some (some (.nd (.dc _) _)) => _ | _ => none) = _
 rw [hi]
 show ((fk as).bind _) = _
 rw [hk]
 show ((zcv y).bind _) = _
 rw [ek]
 show (match as[i]? with | some (some (.nd (.dc ks) os)) => _ | _ => none) = _
 rw [hi]
 exact if_pos hl
end
theorem szl {n : Nat} (h : Nat.ble n 1000 = true) : n <= sizeLine := Nat.le_of_lt (zW (Nat.le_of_ble_eq_true h))
theorem zL {a b : Nat} (h : Nat.ble (a + 1) b = true) : a < b := Nat.le_of_ble_eq_true h
theorem zZ {i : Int} (h0 : -(10 ^ 200) < i) (h1 : i < 10 ^ 200) : i.natAbs < big := by
 have : (10 : Nat) ^ 200 < big := by unfold big; decide +kernel
 have e : ((10 ^ 200 : Nat) : Int) = (10 : Int) ^ 200 := by norm_cast
 have : (i.natAbs : Int) < ((10 ^ 200 : Nat) : Int) := by rw [e]; omega
 omega
theorem zlH {ns : List Int} {k : Int} (h0 : 0 <= k) (h1 : k < ns.length) : ∃ x, ixP (.lst (ns.map D.int)) (.int k) = some (.im (.int x)) := by
 have hk : k.toNat < ns.length := by omega
 refine ⟨ns[k.toNat], ?_⟩
 have h := xY (xs := ns.map D.int) (j := k.toNat) (v := D.int ns[k.toNat]) (by rw [zzF, zzB hk]; rfl)
 rw [show ((k.toNat : Nat) : Int) = k by omega] at h
 show imR (atI _ _) = _
 rw [h]; rfl
section
variable {X : Cx} {kd : KD} {K : zC} {mg : Str -> Option Value}
def spL (K : zC) (g : Fn) : Sp := λ vs H Q E => ∀ kd : KD, spD K kd g vs H Q E
end
def lfO : O -> Option (Bool × D)
 | .lf s d => some (s, d)
 | _ => none
theorem zjo {o : O} {p : Bool × D} (h : lfO o = some p) : o = .lf p.1 p.2 := by
 cases o with
 | lf s d => cases h; rfl
 | nd k os => cases h
def zpv (i j : Nat) (fd : DF) : SF := λ as => (fd as).bind λ p => (zot p.1).bind λ o => (lfO o.1).bind λ a => (lfO o.2).bind λ b => if i < p.2.length /\ j < p.2.length then some (.nx ((p.2.set i (some (.lf a.1 a.2))).set j (some (.lf b.1 b.2)))) else none
section
variable {X : Cx} {kd : KD} {a b : Expr} {fd : DF} {pos : Pos}
theorem zow {i j : Nat} {x y : Str} {px py pt : Pos} {kt k2 pt2} (hc : X.calm = true) (hN : X.N.Nodup) (hi : X.N[i]? = some x) (hj : X.N[j]? = some y) (hij : i ≠ j)
 (hx : X.env.scope.names.lookup x = some .local) (hy : X.env.scope.names.lookup y = some .local) (ha : AD X kd [a, b] fd)
 (hw : swappedStores [.Tuple [.Name x px, .Name y py] kt pt] (.Tuple [a, b] k2 pt2) X.env = pure (some [x, y]))
 (hs : swapsWithSole [.Tuple [.Name x px, .Name y py] kt pt] (.Tuple [a, b] k2 pt2) pos.line X.env = pure false) :
 ASt X kd (.Assign [.Tuple [.Name x px, .Name y py] kt pt] (.Tuple [a, b] k2 pt2) pos) (zpv i j fd) := by with_unfolding_all exact (Zm (zoP hc hN hi hj hij hx hy ha hw hs) λ D σ H h => by
 obtain ⟨F, B, ad, as, o, R, e, q⟩ := h
 obtain ⟨⟨os, as1⟩, h1, e⟩ := bS_ (show (fd as).bind _ = _ from e)
 obtain ⟨⟨o1, o2⟩, e1, e⟩ := bS_ e
 obtain ⟨⟨s1, d1⟩, e2, e⟩ := bS_ e
 obtain ⟨⟨s2, d2⟩, e3, e⟩ := bS_ e
 cases zhx e1
 cases zjo e2
 cases zjo e3
 · obtain ⟨⟨l1, l2⟩, e⟩ := zP e
   cases e
   refine ⟨F, B, ad, as, _, as1, R, h1, λ vs T' ad' H' R' rl g => ?_⟩
   cases rl with
   | cons ra rb =>
    cases rb with
    | cons rb rn =>
     cases rn
     cases ra with
     | lf ra =>
      cases rb with
      | lf rb =>
       refine ⟨_, _, rfl, ?_⟩
       have R2 := R'.put (T := []) (i := i) (o := .lf s1 d1) l1 (.lf ra)
       have R3 := R2.put (T := []) (i := j) (o := .lf s2 d2) (by rw [zzR]; exact l2) (RoS.less yV (.lf rb))
       exact q _ _ _ R3 (g.trans (Grow.less λ a z => yV a (yV a z))))
end
inductive Ents (w : World) : List DictEntry -> List (Key × V) -> Prop
 | nil : Ents w [] []
 | str {x : Str} {t : Tok} {v : V} {u : Value} {r : List DictEntry} {s : List (Key × V)} : RelV v u -> Ents w r s -> Ents w (⟨PyData.keyHash w.params x, .str x t, u⟩ :: r) ((.inr x, v) :: s)
theorem Ents.keys {P : Program} {w : World} : ∀ {es : List DictEntry} {kvs : List (Key × V)}, Ents w es kvs -> ∀ e ∈ es, ∃ k, (yz P w).is k e.key = true /\ e.hash = (yz P w).hash k
 | _, _, .nil, _, m => nomatch m
 | _, _, .str (x := x) (t := t) _ r, e, m => by
  rcases zS.mp m with rfl | m
  · exact ⟨.inr x, Xy P w x t, rfl⟩
  · exact r.keys e m
theorem Ents.pairs {P : Program} {w : World} : ∀ {es : List DictEntry} {kvs : List (Key × V)}, Ents w es kvs -> ∃ vs, KV kvs vs /\ Pairs (yz P w) es vs /\ vs.map (·.1) = kvs.map (·.1)
 | _, _, .nil => ⟨[], .nil, .nil, rfl⟩
 | _, _, .str (x := x) (t := t) (u := u) h r => by
  obtain ⟨vs, h1, h2, h3⟩ := r.pairs (P := P)
  exact ⟨(.inr x, u) :: vs, .cons ⟨rfl, h⟩ h1, .cons (Xy P w x t) rfl h2, by rw [zyP, zyP, h3]⟩
structure DctAt (w : World) (K : zC) (a : Addr) (kvs : List (Key × V)) : Prop where
 ex : ∃ es ep, K.lookup a = some { cls := .type "dict", data := .dict es ep } /\ Ents w es.toList kvs
 nd : (kvs.map (·.1)).Nodup
 le : kvs.length <= sizeLine
 ns : (a == sysModules) = false
def kdL (l : List (Addr × List (Key × V))) (c : Str -> Addr := λ _ => 0) : KD := ⟨λ a k => l.lookup a = some k, c⟩
theorem lookup_mem {l : List (Addr × List (Key × V))} {a : Addr} {k : List (Key × V)} (h : l.lookup a = some k) : (a, k) ∈ l := by
 induction l with
 | nil => cases h
 | cons p r ih =>
  rw [List.lookup_cons] at h
  by_cases e : a = p.1
  · subst e
    rw [beq_self_eq_true] at h
    cases h
    exact zzC
  · rw [show (a == p.1) = false from beq_eq_false_iff_ne.mpr e] at h
    exact zzA _ (ih h)
theorem znV {P : Program} {w : World} {K : zC} {l : List (Addr × List (Key × V))} {c : Str -> Addr} (h : ∀ p ∈ l, DctAt w K p.1 p.2) : KD1 P w K (kdL l c) := λ X e1 e2 e3 => by
 subst e1; subst e2; subst e3
 refine ⟨λ a k k' h1 h2 => zzW (h1.symm.trans h2), λ a k h1 => ?_, λ a k hp h1 hin => ?_⟩
 · obtain ⟨es, ep, e, _⟩ := (h _ (lookup_mem h1)).ex
   exact ⟨_, e⟩
 · have q := h _ (lookup_mem h1)
   obtain ⟨es, ep, e, en⟩ := q.ex
   obtain ⟨vs, h2, h3, h4⟩ := en.pairs (P := X.prog)
   refine ⟨q.le, q.ns, vs, h2, _, es, ep, hin _ _ e, ⟨rfl, rfl, rfl⟩, rfl, λ x m => en.keys x (by simpa using m), h3, by rw [h4]; exact q.nd⟩
def isStar : Expr -> Bool
 | .Starred .. => true
 | _ => false
theorem za {a : Expr} {es : List Expr} {env : Env} (h : isStar a = false) : starEach (a :: es) env = (false, eval a env) :: starEach es env := by
 cases a <;> first | rfl | cases h
section
variable {as : AS} {f a b c : EF} {s t u : Bool} {x y z : D} {i j k : Int}
theorem zoe {cc : TF} {g : SF} {n : Nat} {as1 : AS} {o : Option Out} (h : WT cc as true) (h1 : g as = some (.nx as1)) (h2 : whL cc g n as1 = o) : whL cc g (n + 1) as = o := by
 unfold WT at h
 show (cc as).bind _ = _
 rw [h]; show (g as).bind _ = _
 rw [h1]; exact h2
theorem zpn {cc : TF} {g : SF} {n : Nat} (h : WT cc as false) : whL cc g (n + 1) as = some (.nx as) := by
 unfold WT at h
 show (cc as).bind _ = _
 rw [h]; rfl
theorem ziG {g : GF} {tt : TF} {fe : EF} {as0 as1 : AS} {w : It1} {r : List It1} {o : Option (List O)} (h1 : g w as0 = some as1) (h2 : WT tt as1 false) (h3 : yW g tt fe as0 r = o) : yW g tt fe as0 (w :: r) = o := by
 unfold WT at h2
 show (g w as0).bind _ = _
 rw [h1]; show (tt as1).bind _ = _
 rw [h2]; exact h3
def WE (f : EF) (as : AS) (x : D) : Prop := ∃ o, f as = some (.ow o, as) /\ o.str = true /\ o.toD = x
def RE (r : Option O) (x : D) : Prop := ∃ o, r = some o /\ o.str = true /\ o.toD = x
theorem WD.e (h : WD f as true x) : WE f as x := ⟨_, h, rfl, rfl⟩
theorem RE.of (h : r = some (.lf true x)) : RE r x := ⟨_, h, rfl, rfl⟩
theorem Zd {fr : DF} {os : List O} (h : WO fr as os) (hl : os.length <= sizeLine) (hs : O.strs os = true) (e : D.lst (O.toDs os) = x) : WE (xg fr) as x := ⟨_, YH h hl, hs, e⟩
theorem Xu {fr : AF} {rs : List (Bool × D)} (h : WE a as x) (hr : WA fr as rs) : WA (aC a fr) as ((true, x) :: rs) := by
 obtain ⟨o, h1, h2, rfl⟩ := h
 have := zfh h1 hr
 rw [h2] at this
 exact this
theorem ziR {g : List (Bool × D) -> Option O} (ha : WE a as x) (hg : RE (g [(true, x)]) z) : WE (zO (aC a aN) g) as z := by
 obtain ⟨o, h1, h2, h3⟩ := hg
 exact ⟨o, Wn (Xu ha zX) (by show g [(zH x || true, x)] = _; rw [zyA]; exact h1), h2, h3⟩
theorem zfI {g : List (Bool × D) -> Option O} (ha : WE a as x) (hb : WE b as y) (hg : RE (g [(true, x), (true, y)]) z) : WE (zO (aC a (aC b aN)) g) as z := by
 obtain ⟨o, h1, h2, h3⟩ := hg
 exact ⟨o, Wn (Xu ha (Xu hb zX)) (by show g [(zH x || true, x), (zH y || true, y)] = _; rw [zyA, zyA]; exact h1), h2, h3⟩
theorem zdS {w : D} {g : List (Bool × D) -> Option O} (ha : WE a as x) (hb : WE b as y) (hc : WE c as w) (hg : RE (g [(true, x), (true, y), (true, w)]) z) : WE (zO (aC a (aC b (aC c aN))) g) as z := by
 obtain ⟨o, h1, h2, h3⟩ := hg
 exact ⟨o, Wn (Xu ha (Xu hb (Xu hc zX))) (by show g [(zH x || true, x), (zH y || true, y), (zH w || true, w)] = _; rw [zyA, zyA, zyA]; exact h1), h2, h3⟩
theorem f2E {g : D -> D -> Option R0} (ha : WE a as x) (hb : WE b as y) (hg : g x y = some (.im z)) : WD (f2 a b g) as true z := by
 obtain ⟨o, h1, h2, rfl⟩ := ha
 obtain ⟨p, h3, h4, rfl⟩ := hb
 have := zqA h1 h3 hg
 rw [h2, h4, Bool.and_true, zyA] at this
 exact this
theorem f2L {g : D -> D -> Option R0} {zs : List D} (ha : WE a as x) (hb : WE b as y) (hg : g x y = some (.fl zs)) : f2 a b g as = some (.ow (.nd .ls (zs.map (O.lf true))), as) := by
 obtain ⟨o, h1, h2, rfl⟩ := ha
 obtain ⟨p, h3, h4, rfl⟩ := hb
 exact zlo h1 h3 hg h2 h4
theorem V4 : ∀ zs : List D, O.strs (zs.map (O.lf true)) = true
 | [] => rfl
 | _ :: r => V4 r
theorem Vl : ∀ zs : List D, O.toDs (zs.map (O.lf true)) = zs
 | [] => rfl
 | z :: r => congrArg (z :: ·) (Vl r)
theorem zpE {g : D -> D -> Option R0} {zs : List D} (ha : WE a as x) (hb : WE b as y) (hg : g x y = some (.fl zs)) : WE (f2 a b g) as (.lst zs) := ⟨_, f2L ha hb hg, V4 zs, congrArg D.lst (Vl zs)⟩
theorem Yy {p : Nat} (h : WE f as x) (hi : p < as.length) : zJ true p f as = some (.nx (as.set p (some (.lf true x)))) := by
 obtain ⟨o, h1, h2, rfl⟩ := h
 have := zmC h1 hi
 rw [show o.frz = .lf true o.toD by unfold O.frz; rw [h2]] at this
 exact this
theorem zgy {q : Bool} (ha : WE a as x) (hb : WE b as y) (h : eqF 60 x y = some q) : WD (f2 a b (Xh .Eq)) as true (.bl q) := f2E ha hb (by show (eqF 60 x y).bind _ = _; rw [h]; rfl)
theorem zfC {q : Bool} (ha : WE a as x) (hb : WE b as y) (h : eqF 60 x y = some q) : WD (f2 a b (Xh .NotEq)) as true (.bl (!q)) := f2E ha hb (by show (eqF 60 x y).bind _ = _; rw [h]; rfl)
theorem zog {g : List D -> Option R0} (ha : WE a as x) (hg : g [x] = some (.im z)) : WD (fP (aC a aN) g) as true z := zkB (Xu ha zX) hg rfl
theorem znF {fr : DF} {o : O} {os : List O} (ha : a as = some (.ow o, as)) (hr : WO fr as os) : WO (dC a fr) as (o :: os) := wW ha hr
theorem zgE {fr : DF} {os : List O} (h : WO fr as os) (hl : os.length <= sizeLine) : Zo fr as = some (.ow (Z0 os), as) := by
 unfold Zo; unfold WO at h
 rw [h]; show (if os.length <= sizeLine then some (RV.ow (Z0 os), as) else _) = _
 rw [if_pos hl]
theorem zfP : ∀ ds : List D, kids true ds = ds.map λ d => (true, d)
 | [] => rfl
 | d :: r => by show (zH d || true, d) :: kids true r = _; rw [zfP r, zyA]; rfl
theorem zgR {ds : List D} (h : WE f as (.lst ds)) : Yn f as = some (ds.map λ d => (true, d), as) := by
 obtain ⟨o, h1, h2, h3⟩ := h
 unfold Yn
 rw [h1]; show (zhu (o.str, o.toD)).bind _ = _
 rw [h2, h3]; show some (kids true ds, as) = _
 rw [zfP]
theorem zhg {ds : List D} (h : WD f as true (.lst ds)) : Vk f as = some (ds.map λ d => (true, d), as) := by
 unfold Vk; unfold WD at h
 rw [h]; show some (kids true ds, as) = _
 rw [zfP]
end
def zaP : List D -> Option (List Str)
 | [] => some []
 | .str x :: r => (zaP r).bind λ s => some (x :: s)
 | _ :: _ => none
theorem zmy {K : zC} {kd : KD} {O : Addr -> Prop} {H : Hp} {vs : List V} {us : List Value} {ds : List D} {ns : List Str} (h : RpL K kd O H vs ds) (hv : Vals vs us) (e : zaP ds = some ns) : StrsAre us ns :=
 RpL.ind (P := λ vs ds => ∀ us ns, Vals vs us -> zaP ds = some ns -> StrsAre us ns) (λ us ns hv e => by cases e; cases hv; exact .nil) (λ {v d vs ds} a _ ih us ns hv e => by
  cases hv with
  | cons b t =>
   cases a with
   | str x =>
    obtain ⟨ys, h1, h2⟩ := bS_ (show (zaP _).bind _ = _ from e)
    cases h2
    obtain ⟨tk, rfl⟩ := b
    exact .cons _ _ (ih _ _ t h1)
   | _ => cases e) h us ns hv e
def zeD : D -> List D -> Option R0
 | .str sep, [.lst ds] => (zaP ds).bind λ ys => if (ys.map (·.length)).sum + ys.length * sep.length <= 16777216 then some (.im (.str (Txt.join sep ys))) else none
 | _, _ => none
section
variable {X : Cx} {kd : KD}
theorem zmo : MtD X kd "str.join" zeD := by
 intro pins s σ H x xs v us Q I rx r h
 obtain ⟨O, d, ds, r0, ht, vx, vl, he, q⟩ := h
 unfold zeD at he
 split at he
 · rename_i sep es
   obtain ⟨ys, h1, he⟩ := bS_ he
   obtain ⟨hz, he⟩ := zP he
   cases he
   cases vx
   obtain ⟨t, rfl⟩ := rx
   obtain ⟨y, rfl, vy⟩ := zhc vl
   cases vy with
   | lst hr rl =>
    obtain ⟨u, rfl, ru⟩ := vals1 r
    cases ru
    obtain ⟨its, rv, pl, _⟩ := I.list hr.sq
    exact join_list pl.isList (zmy rl (by simpa using rv) h1) hz λ t' k => ⟨.str _, H, I.tok _, ⟨t', rfl⟩, yo q (.str _)⟩
 · cases he
def zqT : D -> Option R0
 | .str x => if x.length <= 640 then (PySem.intText? x).bind λ n => some (.im (.int n)) else none
 | d => zrq d
def Yz : List D -> Option R0 := on1 zqT
theorem Z3 : CallD X kd (.type "int") Yz := by
 intro pins s σ H xs us Q I r h
 obtain ⟨O, ds, z, ht, vl, he, q⟩ := h
 obtain ⟨x, d, rfl, vx, he⟩ := Vd vl he
 cases vx with
 | str y =>
  obtain ⟨hl, he⟩ := ite_some' he
  obtain ⟨n, hn, he⟩ := bS_ he
  cases he
  obtain ⟨u, rfl, ru⟩ := vals1 r
  obtain ⟨t, rfl⟩ := ru
  exact PySem.W.KIN.call_text hn hl ⟨.int _, H, I.tok _, ⟨_, rfl⟩, yo q (.int _)⟩
 | int i => cases he; exact zdb pins s σ H _ us Q I r (.inl ⟨_, rfl, yo q (.int _)⟩)
 | bl b => cases he; exact zdb pins s σ H _ us Q I r (.inr ⟨_, rfl, yo q (.int _)⟩)
 | _ => cases he
end
theorem zjs (sep : Str) (ys : List Str) : Txt.join sep ys = Str.join sep ys := StrLaws.glued_eq_join sep ys
section
variable {as : AS} {f a b : EF} {s t : Bool} {x y z : D}
theorem znY {xs ys : List D} : slP (.lst (xs ++ ys)) none (some (xs.length : Int)) = some (.fl xs) := by
 show some (R0.fl (cutD (xs ++ ys) none (some (xs.length : Int)))) = _
 congr 2
 unfold cutD
 rw [HT.zmh, HT.zjW, zzG, Nat.min_eq_left (by omega), List.drop_zero, Nat.sub_zero, List.take_left]
end
section
variable {X : Cx} {kd : KD} {tg e : Expr} {fa : EF}
theorem zma {K : zC} {F B : Addr -> Prop} {ad : Ad} {H : Hp} {v : V} {st q : Bool} {ds : List D} (rp : Rp K kd (Lv F B (Gw [] ad) st) H v (.lst ds)) (hq : q = true -> st = true) : ∃ a vs, v = .ref a /\ (∀ (ad3 : Ad) (H3 : Hp), Grow (Gw [] ad) H (Gw [] ad3) H3 -> SqL K H3 a vs) /\ RpL K kd (Lv F B (Gw [] ad) q) H vs ds := by
 have le : ∀ a, Lv F B (Gw [] ad) q a -> Lv F B (Gw [] ad) st a := λ a z => z.imp (λ y => y.imp (λ x => ⟨hq x.1, x.2⟩) id) id
 cases rp with
 | lst hn hr rl => exact ⟨_, _, rfl, λ ad3 H3 g3 => .inl (Wu g3 (λ z => hn (.inr z)) hr), rl.less le⟩
 | lstK a b c rl => exact ⟨_, _, rfl, λ ad3 H3 g3 => .inr ⟨_, _, _, a, rfl, rfl, rfl, b, c⟩, rl.less le⟩
end
def insI (x : Int) : List Int -> List Int
 | [] => [x]
 | y :: r => if x <= y then x :: y :: r else y :: insI x r
def sortI : List Int -> List Int
 | [] => []
 | x :: r => insI x (sortI r)
theorem insI_perm (x : Int) : ∀ l : List Int, (insI x l).Perm (x :: l)
 | [] => List.Perm.refl _
 | y :: r => by
  unfold insI
  split
  · exact List.Perm.refl _
  · exact ((insI_perm x r).cons y).trans (List.Perm.swap x y r)
theorem sortI_perm : ∀ l : List Int, (sortI l).Perm l
 | [] => List.Perm.refl _
 | x :: r => (insI_perm x (sortI r)).trans ((sortI_perm r).cons x)
theorem zaN (x : Int) : ∀ l : List Int, l.Pairwise (· <= ·) -> (insI x l).Pairwise (· <= ·)
 | [], _ => by simp [insI]
 | y :: r, h => by
  unfold insI
  rw [List.pairwise_cons] at h
  split
  · rename_i hxy
    rw [List.pairwise_cons, List.pairwise_cons]
    refine ⟨λ z hz => ?_, h⟩
    rcases zS.mp hz with rfl | hz
    · exact hxy
    · exact Int.le_trans hxy (h.1 z hz)
  · rename_i hxy
    rw [List.pairwise_cons]
    refine ⟨λ z hz => ?_, zaN x r h.2⟩
    rcases zS.mp ((insI_perm x r).mem_iff.mp hz) with rfl | hz
    · omega
    · exact h.1 z hz
theorem ZL : ∀ l : List Int, (sortI l).Pairwise (· <= ·)
 | [] => List.Pairwise.nil
 | x :: r => zaN x _ (ZL r)
theorem zam : ∀ (a b : List Int), a.Perm b -> a.Pairwise (· <= ·) -> b.Pairwise (· <= ·) -> a = b
 | [], b, p, _, _ => by rw [List.nil_perm] at p; exact p.symm
 | x :: r, [], p, _, _ => by rw [List.perm_nil] at p; cases p
 | x :: r, y :: t, p, ha, hb => by
  rw [List.pairwise_cons] at ha hb
  have hxy : x = y := by
   have h1 : x ∈ y :: t := p.mem_iff.mp (zzC ..)
   have h2 : y ∈ x :: r := p.mem_iff.mpr (zzC ..)
   rcases zS.mp h1 with e | e
   · exact e
   · rcases zS.mp h2 with e' | e'
     · exact e'.symm
     · have := hb.1 x e
       have := ha.1 y e'
       omega
  subst hxy
  rw [zam r t (List.Perm.cons_inv p) ha.2 hb.2]
theorem ints_of {K : zC} {kd : KD} {O : Addr -> Prop} {H : Hp} {vs : List V} {us : List Value} {ds : List D} {ns : List Int} (h : RpL K kd O H vs ds) (hv : Vals vs us) (e : yL ds = some ns) : IntsAre us ns :=
 RpL.ind (P := λ vs ds => ∀ us ns, Vals vs us -> yL ds = some ns -> IntsAre us ns) (λ us ns hv e => by cases e; cases hv; exact .nil) (λ {v d vs ds} a _ ih us ns hv e => by
  cases hv with
  | cons b t =>
   cases a with
   | int x =>
    obtain ⟨ys, h1, h2⟩ := bS_ (show (yL _).bind _ = _ from e)
    cases h2
    obtain ⟨tk, rfl⟩ := b
    exact .cons _ _ (ih _ _ t h1)
   | _ => cases e) h us ns hv e
theorem ZW : ∀ {us : List Value} {ns : List Int}, IntsAre us ns -> Vals (ns.map V.int) us
 | _, _, .nil => .nil
 | _, _, .cons n t r => .cons ⟨t, rfl⟩ (ZW r)
theorem zbW {K : zC} {kd : KD} {O : Addr -> Prop} {H : Hp} : ∀ ns : List Int, RpL K kd O H (ns.map V.int) (ns.map D.int)
 | [] => .nil
 | y :: r => .cons (.int y) (zbW r)
def zmL : List D -> Option R0 := on1 λ x => (asL x).bind λ ds => (yL ds).bind λ ns => if ns.length < 64 then some (.fl ((sortI ns).map .int)) else none
section
variable {X : Cx} {kd : KD}
theorem zgj : CallD X kd (.builtin "sorted") zmL := by
 intro pins s σ H xs us Q I r h
 obtain ⟨O, ds, z, ht, vl, he, q⟩ := h
 obtain ⟨x, d, rfl, vx, he⟩ := Vd vl he
 obtain ⟨ds, h0, he2⟩ := bS_ (show (asL d).bind _ = _ from he)
 cases Xk h0
 · obtain ⟨ns, h1, he⟩ := bS_ he2
   obtain ⟨hz, he⟩ := zP he
   cases he
   cases vx with
   | lst hr rl =>
    obtain ⟨u, rfl, ru⟩ := vals1 r
    cases ru
    obtain ⟨its, rv, pl, _⟩ := I.list hr.sq
    have hI := ints_of rl rv h1
    have hl := hI.length
    refine sorted_ints pl.isList hI (by omega) λ out ns' a1 a2 a3 => ?_
    have e : ns' = sortI ns := zam _ _ (a2.trans (sortI_perm ns).symm) a3 (ZL ns)
    subst e
    obtain ⟨ee, hob⟩ := sortedAll_at s.heap its out
    have hn : H (s.heap.objs.size + 1) = none := I.hok.fresh (zyU _)
    refine ⟨.ref (s.heap.objs.size + 1), _, I.laid (t' := s.toks) (λ b o e => sortedAll_old e) (zyU _) (show yI X.prog X.w _ _ _ (.lst ((sortI ns).map V.int)) from ⟨?_, out.toList, ee, ZW a1, by simpa [seqObj] using hob⟩), rfl, Vf q (zbW _) _ hn⟩
    rw [zD, (sortI_perm ns).length_eq]
    exact Nat.le_of_lt (zW (by omega))
end
theorem zbb : ∀ {vs : List V} {us : List Value}, vs.length = us.length -> (∀ (i : Nat) v u, vs[i]? = some v -> us[i]? = some u -> RelV v u) -> Vals vs us
 | [], [], _, _ => .nil
 | [], _ :: _, h, _ => by simp at h
 | _ :: _, [], h, _ => by simp at h
 | v :: vs, u :: us, h, k => .cons (k 0 v u rfl rfl) (zbb (by simpa using h) λ i a b x y => k (i + 1) a b (by simpa using x) (by simpa using y))
section
variable {X : Cx} {tg : Expr}
def zql (ta : TA) : TE := λ σ H Q => ta σ H λ vs H1 => ∃ j : Int, vs = [.int j] /\ -(2 ^ 62) <= j /\ j < 2 ^ 62 /\ ∀ r, H1 r = none -> Q (.ref r) (upd H1 r (.rng 0 j))
theorem zjy {a : Expr} {ta : TA} {p pos : Pos} (hg : Gl X "range") (hm : X.mg "range" = none) (ha : PA X [a] ta) (hs : starEach [a] X.env = [(false, eval a X.env)]) : PE X (.Call (.Name "range" p) [a] [] pos) (zql ta) := by
 intro pins s σ H Q I h
 refine Call_ (YM I hg hm boot_range (PyProof.Rows.callWith_type1 (thn (ha pos pins s σ H _ I h) λ us s1 ⟨vs, H1, I1, r1, q1⟩ => ?_) hs rfl))
 obtain ⟨j, e, b1, b2, q⟩ := q1
 subst e
 cases r1 with
 | cons r rr =>
  cases rr
  obtain ⟨t, rfl⟩ := r
  exact call_range_1 ⟨.ref s1.heap.objs.size, _, I1.laid (λ b o e => zxF _ e) (zzK _) (show yI X.prog X.w _ _ _ (.rng 0 j) from ⟨_, _, _, zxH _ rfl⟩), rfl, q _ (I1.hok.fresh (zzK _))⟩
def tLR (ta : TA) : TE := λ σ H Q => zmJ (zql ta) zpK σ H λ vs H2 => ∃ r H1, ∃ j : Int, vs = [.ref r] /\ H1 r = none /\ H2 = upd H1 r (.rng 0 j) /\ 0 <= j /\ j <= 100000 /\ ∀ l, H2 l = none -> Q (.ref l) (upd H2 l (.lst ((List.range j.toNat).map λ (i : Nat) => V.int i)))
theorem zhZ {a : Expr} {ta : TA} {p p' pos pos' : Pos} (hc : X.calm = true) (hg : Gl X "range") (hm : X.mg "range" = none) (hgl : Gl X "list") (hml : X.mg "list" = none) (ha : PA X [a] ta) (hs : starEach [a] X.env = [(false, eval a X.env)])
 (hs' : starEach [.Call (.Name "range" p) [a] [] pos] X.env = [(false, eval (.Call (.Name "range" p) [a] [] pos) X.env)]) : PE X (.Call (.Name "list" p') [.Call (.Name "range" p) [a] [] pos] [] pos') (tLR ta) := by
 intro pins s σ H Q I h
 refine Call_ (YM I hgl hml Bt.list (PyProof.Rows.callWith_type1 (thn ((Vq (zjy hg hm ha hs) zel hs') pos' pins s σ H (λ vs H2 => ∃ r H1, ∃ j : Int, vs = [.ref r] /\ H1 r = none /\ H2 = upd H1 r (.rng 0 j) /\ 0 <= j /\ j <= 100000 /\ ∀ l, H2 l = none -> Q (.ref l) (upd H2 l (.lst ((List.range j.toNat).map λ (i : Nat) => V.int i)))) I ?_) λ us s1 ⟨vs, H2, I2, r1, q1⟩ => ?_) hs' rfl))
 · exact h
 obtain ⟨r, H1, j, rfl, hn, rfl, h0, h1, q⟩ := q1
 cases r1 with
 | cons rr rs =>
  cases rs
  cases rr
  obtain ⟨t, u, v, ho⟩ := I2.hok r _ (yc ..)
  have hsz : Builtin.Range.rangeSize 0 j 1 = (j.toNat : Nat) := by rw [rangeSize_one]; split <;> omega
  refine call_list_range (I2.ok.hd hc) ho (small_one (by omega) (by omega) (by omega) (by omega)) (n := j.toNat) (by exact_mod_cast hsz) (by omega) λ h' tk acc c' hk hob hit => ?_
  refine ⟨.ref s1.heap.objs.size, _, I2.laid hk (zzK _) (show yI X.prog X.w _ _ _ (.lst ((List.range j.toNat).map λ (i : Nat) => V.int i)) from ⟨?_, acc.toList, c', ?_, by simpa using hob⟩), rfl, q _ (I2.hok.fresh (zzK _))⟩
  · rw [zD, zyR]; exact zzL (show j.toNat <= 100000 by omega) (by decide)
  · refine zbb (by rw [zD, zyR]; simpa using hit.1.symm) λ i x y hx hy => ?_
    rw [zzF] at hx
    obtain ⟨tk', e⟩ := hit.2 i y (by simpa using hy)
    cases hr : (List.range j.toNat)[i]? with
    | none => rw [hr] at hx; cases hx
    | some k =>
     rw [hr] at hx
     obtain ⟨_, hk'⟩ := zzD.mp hr
     rw [List.getElem_range] at hk'
     subst hk'
     cases hx
     exact ⟨tk', by rw [e]; simp⟩
end
section
variable {X : Cx} {kd : KD}
def lrP : List D -> Option R0
 | [.int j] => if 0 <= j /\ j <= 100000 then some (.fl ((List.range j.toNat).map λ (i : Nat) => .int i)) else none
 | _ => none
theorem zgW {K : zC} {O : Addr -> Prop} {H : Hp} : ∀ l : List Nat, RpL K kd O H (l.map λ (i : Nat) => V.int i) (l.map λ (i : Nat) => D.int i)
 | [] => .nil
 | y :: r => .cons (.int y) (zgW r)
theorem ziK {a : Expr} {fr : AF} {p p' pos pos' : Pos} (hc : X.calm = true) (hg : Gl X "range") (hm : X.mg "range" = none) (hgl : Gl X "list") (hml : X.mg "list" = none) (ha : AA X kd [a] fr) (hs : starEach [a] X.env = [(false, eval a X.env)])
 (hs' : starEach [.Call (.Name "range" p) [a] [] pos] X.env = [(false, eval (.Call (.Name "range" p) [a] [] pos) X.env)]) : AE X kd (.Call (.Name "list" p') [.Call (.Name "range" p) [a] [] pos] [] pos') (fP fr lrP) := by
 with_unfolding_all exact (yF (zhZ hc hg hm hgl hml ha hs hs') λ σ H Q h => by
  obtain ⟨F, B, ad, as, r, as', R, e, q⟩ := h
  obtain ⟨⟨rs, as1⟩, h1, e⟩ := bS_ (show (fr as).bind _ = _ from e)
  obtain ⟨⟨ds, lv⟩, h2, e⟩ := bS_ e
  obtain ⟨r0, h3, e⟩ := bS_ e
  obtain ⟨z, h4, e⟩ := bS_ e
  cases e
  match ds, h3, h2 with
  | [.int j], h3, h2 =>
   obtain ⟨⟨b1, b2⟩, e3⟩ := zP (show (if 0 <= j /\ j <= 100000 then some (R0.fl ((List.range j.toNat).map λ (i : Nat) => .int i)) else none) = some r0 from h3)
   cases e3
   refine (show alA X.K kd fr σ H _ from ⟨F, B, ad, as, rs, as1, R, h1, λ vs ad1 H1 R1 rv1 g1 => ?_⟩)
   have vl := Xg R1 rv1 h2
   have rq := Wo R1 h4 (Q := Q) λ w T' H' R' rv' g' => q w T' ad1 H' R' rv' (g1.trans g')
   cases vl with
   | cons v1 v2 =>
    cases v2
    cases v1
    refine ⟨j, rfl, by omega, by omega, λ r hr => ⟨r, H1, j, rfl, hr, rfl, b1, b2, λ l hl => ?_⟩⟩
    have hlr : l ≠ r := λ e => by rw [e, yc] at hl; cases hl
    have hl1 : H1 l = none := by rw [zQ hlr] at hl; exact hl
    exact rq l _ _ hl1 (λ b o q => Wg hl b o (Wg hr b o q)) yc (zgW _))
end
theorem zlr {L : Bool -> V -> D -> Prop} {N : Addr -> Prop} {H : Hp} {vs : List V} {ls : List O} {fp : List Addr} (h : RoL L N H vs ls fp) : vs.length = ls.length := RoL.length h
def zil (i : Nat) (f : SF) : SF := λ as => match as[i]? with
 | some (some o) => f (as.set i (some o.frz))
 | _ => none
theorem zjE {K : zC} {kd : KD} {F B : Addr -> Prop} {ad : Ad} {i : Nat} {H : Hp} {D : Ends} : ∀ {o : Out}, zda K kd F B ad H D o -> zda K kd F B (xj ad i []) H D o
 | .nx _, q => λ σ' ad' H' R g => q σ' ad' H' R ((Grow.less yV).trans g)
 | .ct _, q => λ σ' ad' H' R g => q σ' ad' H' R ((Grow.less yV).trans g)
 | .bk _, q => λ σ' ad' H' R g => q σ' ad' H' R ((Grow.less yV).trans g)
 | .rt _, q => λ v T H' ro g => q v T H' ro ((Grow.less yV).trans g)
theorem zlv {X : Cx} {kd : KD} {i : Nat} {body : List Stmt} {f : SF} (h : ASs X kd body f) : ASs X kd body (zil i f) := by
 with_unfolding_all exact (zey h λ D σ H h => by
  obtain ⟨F, B, ad, as, o, R, e, q⟩ := h
  unfold zil at e
  cases k : as[i]? with
  | none => rw [k] at e; cases e
  | some s =>
   rw [k] at e
   cases s with
   | none => cases e
   | some oo =>
    exact ⟨F, B, xj ad i [], _, o, (R.frz k).1, e, zjE q⟩)
section
variable {K : zC} {kd : KD} {F B G : Addr -> Prop} {H : Hp}
theorem V7 {p : Addr} {u : HO} (hp : G p) : Grow G H G (upd H p u) := ⟨λ b w h n => by rw [zQ (λ e => n (by subst e; exact hp))]; exact h, λ b z => .inl z⟩
theorem zhf : ∀ (os : List O) {vs : List V} {fp : List Addr} {n : Nat} {o : O}, wY K kd F B G H vs os fp -> fp.Nodup -> (∀ a ∈ fp, G a) -> os[n]? = some o ->
 ∃ v f, vs[n]? = some v /\ RoS K kd F B G H v o f /\ f.Nodup /\ (∀ a ∈ f, a ∈ fp) /\ ∀ (p : Addr) (u : HO) (o' : O), p ∈ f -> RoS K kd F B G (upd H p u) v o' f -> wY K kd F B G (upd H p u) vs (os.set n o') fp
 | [], _, _, _, _, _, _, _, e => by simp at e
 | o1 :: os, _, _, n, o, r, hn, hG, e => by
  cases r with
  | cons a r =>
   rename_i v vs fp fq
   obtain ⟨n1, n2, n3⟩ := zxC.mp hn
   cases n with
   | zero =>
    simp at e
    subst e
    exact ⟨v, fp, rfl, a, n1, λ x m => zzM _ m, λ p u o' hp ro => .cons ro (wY.grow (V7 (hG p (zzM _ hp))) (λ x m w h => by rw [zQ (λ e => n3 p hp x m e.symm)]; exact h) r)⟩
   | succ n =>
    obtain ⟨v', f, h1, h2, h3, h4, h5⟩ := zhf os (n := n) (o := o) r n2 (λ x m => hG x (zzI _ m)) (by simpa using e)
    exact ⟨v', f, by simpa using h1, h2, h3, λ x m => zzI _ (h4 x m), λ p u o' hp ro => .cons (RoS.grow (V7 (hG p (zzI _ (h4 p hp)))) (λ x m w h => by rw [zQ (λ e => n3 x m p (h4 p hp) e)]; exact h) a) (h5 p u o' hp ro)⟩
theorem zdd {L : Bool -> V -> D -> Prop} {N : Addr -> Prop} {v : V} {st' : Bool} {d' : D} (h : L st' v d') : ∀ (os : List O) {vs : List V} {fp : List Addr} {n : Nat} {st : Bool} {d : D}, RoL L N H vs os fp -> os[n]? = some (.lf st d) -> RoL L N H (vs.set n v) (os.set n (.lf st' d')) fp
 | [], _, _, _, _, _, _, e => by simp at e
 | o1 :: os, _, _, n, st, d, r, e => by
  cases r with
  | cons a r =>
   cases n with
   | zero =>
    simp at e
    subst e
    cases a with
    | lf _ => exact .cons (.lf h) r
   | succ n => exact .cons a (zdd h os (n := n) (st := st) (d := d) r (by simpa using e))
theorem zlI {v : V} {inner : List O} {fp : List Addr} {n : Nat} {st : Bool} {d : D} (c : Int) (r : RoS K kd F B G H v (.nd .ls inner) fp) (hn : fp.Nodup) (hG : ∀ a ∈ fp, G a) (e : inner[n]? = some (.lf st d)) :
 ∃ p ivs, v = .ref p /\ p ∈ fp /\ H p = some (.lst ivs) /\ n < ivs.length /\ RoS K kd F B G (upd H p (.lst (ivs.set n (.int c)))) v (.nd .ls (inner.set n (.lf true (.int c)))) fp := by
 cases r with
 | ls hp ir =>
  rename_i p ivs ifp
  have hpfp : p ∉ ifp := (zzT.mp hn).1
  refine ⟨p, ivs, rfl, zzC .., hp, by rw [zlr ir]; exact (zzD.mp e).1, .ls yc (zdd (.int c) inner (wY.grow (V7 (hG p (zzC ..))) (λ x m w h => by rw [zQ (λ e => hpfp (by subst e; exact m))]; exact h) ir) e)⟩
theorem znA {v : V} {os : List O} {fp : List Addr} {n : Nat} {o : O} (r : RoS K kd F B G H v (.nd .ls os) fp) (hn : fp.Nodup) (hG : ∀ a ∈ fp, G a) (e : os[n]? = some o) :
 ∃ l vs w f, v = .ref l /\ H l = some (.lst vs) /\ vs[n]? = some w /\ RoS K kd F B G H w o f /\ f.Nodup /\ (∀ a ∈ f, a ∈ fp) /\ ∀ (p : Addr) (u : HO) (o' : O), p ∈ f -> RoS K kd F B G (upd H p u) w o' f -> RoS K kd F B G (upd H p u) v (.nd .ls (os.set n o')) fp := by
 cases r with
 | ls hp ir =>
  rename_i l vs ifp
  obtain ⟨w, f, h1, h2, h3, h4, h5⟩ := zhf os ir (zzT.mp hn).2 (λ a m => hG a (zzA _ m)) e
  exact ⟨l, vs, w, f, rfl, hp, h1, h2, h3, λ a m => zzA _ (h4 a m), λ p u o' hpf ro => .ls (by rw [zQ (λ e => (zzT.mp hn).1 (by rw [e]; exact h4 p hpf))]; exact hp) (h5 p u o' hpf ro)⟩
end
section
variable {K : zC} {kd : KD} {F B : Addr -> Prop} {ad : Ad} {as : AS} {σ : St} {H : Hp} {i : Nat} {o : O}
theorem Rel.slotU (R : Rel K kd F B [] ad as σ H) (k : as[i]? = some (some o)) :
 ∃ v, σ[i]? = some (some v) /\ RoS K kd F B (Gw [] ad) H v o (ad i) /\ (ad i).Nodup /\ (∀ a ∈ ad i, Gw [] ad a) /\
  ∀ (p : Addr) (u : HO) (o' : O), p ∈ ad i -> RoS K kd F B (Gw [] ad) (upd H p u) v o' (ad i) -> Rel K kd F B [] ad (as.set i (some o')) σ (upd H p u) /\ Grow (Gw [] ad) H (Gw [] ad) (upd H p u) := by
 obtain ⟨v, hv, ro⟩ := R.sl i _ k
 have hi : i < as.length := (zzD.mp k).1
 refine ⟨v, hv, ro, R.nd i, λ a m => .inr ⟨i, m⟩, λ p u o' hp ro' => ?_⟩
 have g : Grow (Gw [] ad) H (Gw [] ad) (upd H p u) := V7 (.inr ⟨i, hp⟩)
 have kn : ∀ a, H a ≠ none -> upd H p u a ≠ none := λ a z => by
  by_cases e : a = p
  · subst e; rw [yc]; simp
  · rw [zQ e]; exact z
 refine ⟨⟨by rw [zzR]; exact R.len, λ j hj => R.out j (by rw [zzR] at hj; exact hj), R.nd, R.inj, R.tnd, R.dis, λ a z => kn a (R.ftr a z), λ a z => ⟨kn a (R.btr a z).1, (R.btr a z).2⟩, λ a z => ⟨kn a (R.gtr a z).1, (R.gtr a z).2⟩, λ j s e => ?_⟩, g⟩
 by_cases q : j = i
 · subst q
   rw [zyH hi] at e
   cases e
   exact ⟨v, hv, ro'⟩
 · rw [zzV (Ne.symm q)] at e
   exact (R.sl j s e).grow g λ a m u h => by rw [zQ (λ e => q (R.inj j i a m (by rw [e]; exact hp)))]; exact h
end
abbrev IXF := AS -> Option Int
def tSt (K : zC) (kd : KD) (f : IXF) : TE := λ σ H Q => ∃ F B ad as k, Rel K kd F B [] ad as σ H /\ f as = some k /\ Q (.int k) H
@[irreducible] def AK (X : Cx) (kd : KD) (e : Expr) (f : IXF) : Prop := PE X e (tSt X.K kd f)
def zfR : O -> Option (List O)
 | .nd .ls os => some os
 | _ => none
def zca : O -> Option D
 | .lf _ d => some d
 | _ => none
def atO {α : Type} (f : O -> Option α) (os : List O) (k : Nat) : Option α := os[k]?.bind f
def slO {α : Type} (f : O -> Option α) (as : AS) (i : Nat) : Option α := as[i]?.bind λ s => s.bind f
theorem zhm {o : O} {os : List O} (h : zfR o = some os) : o = .nd .ls os := by
 cases o with
 | lf s d => cases h
 | nd k os => cases k <;> cases h; rfl
theorem zho {o : O} {d : D} (h : zca o = some d) : ∃ st, o = .lf st d := by
 cases o with
 | lf s d => cases h; exact ⟨s, rfl⟩
 | nd k os => cases h
theorem zkg {α : Type} {f : O -> Option α} {os : List O} {k : Nat} {a : α} (h : atO f os k = some a) : ∃ o, os[k]? = some o /\ f o = some a := bS_ h
theorem ziQ {α : Type} {f : O -> Option α} {as : AS} {k : Nat} {a : α} (h : slO f as k = some a) : ∃ o, as[k]? = some (some o) /\ f o = some a := by
 obtain ⟨s, h1, h⟩ := bS_ h
 obtain ⟨o, rfl, h⟩ := bS_ h
 exact ⟨o, h1, h⟩
theorem zqR {os inner : List O} {k : Nat} (h : atO zfR os k = some inner) : os[k]? = some (.nd .ls inner) := by
 obtain ⟨o, h1, h⟩ := zkg h
 cases zhm h
 exact h1
theorem zrH {os : List O} {d : D} {k : Nat} (h : atO zca os k = some d) : ∃ st, os[k]? = some (.lf st d) := by
 obtain ⟨o, h1, h⟩ := zkg h
 obtain ⟨st, rfl⟩ := zho h
 exact ⟨st, h1⟩
theorem zrB {as : AS} {inner : List O} {k : Nat} (h : slO zfR as k = some inner) : as[k]? = some (some (.nd .ls inner)) := by
 obtain ⟨o, h1, h⟩ := ziQ h
 cases zhm h
 exact h1
theorem zpF {as : AS} {d : D} {k : Nat} (h : slO zca as k = some d) : ∃ st, as[k]? = some (some (.lf st d)) := by
 obtain ⟨o, h1, h⟩ := ziQ h
 obtain ⟨st, rfl⟩ := zho h
 exact ⟨st, h1⟩
theorem zhD {α : Type} {f : O -> Option α} {os : List O} {k : Nat} {o : O} {a : α} (h : os[k]? = some o) (e : f o = some a) : atO f os k = some a := by unfold atO; rw [h]; exact e
theorem zgV {α : Type} {f : O -> Option α} {as : AS} {k : Nat} {o : O} {a : α} (h : as[k]? = some (some o)) (e : f o = some a) : slO f as k = some a := by unfold slO; rw [h]; exact e
def xV (i : Nat) : IXF := λ as => (slO zca as i).bind asI
def xAt (i : Nat) (f : IXF) : IXF := λ as => (f as).bind λ k => if 0 <= k then (slO zca as i).bind λ d => (asL d).bind λ ds => ds[k.toNat]?.bind asI else none
section
variable {X : Cx} {kd : KD} {f g : IXF} {a b : Expr}
theorem zay {i : Nat} {x : Str} {p : Pos} (hv : PE X (.Name x p) (Vh i)) : AK X kd (.Name x p) (xV i) := by
 with_unfolding_all exact (yF hv λ σ H Q h => by
  obtain ⟨F, B, ad, as, k, R, e, q⟩ := h
  obtain ⟨d, e1, e⟩ := bS_ (show (slO zca as i).bind _ = _ from e)
  cases zdN e
  obtain ⟨st, k1⟩ := zpF e1
  obtain ⟨v, hv, ro⟩ := R.sl i _ k1
  generalize ad i = fp at ro
  cases ro with
  | lf rp => cases rp; exact ⟨_, hv, q⟩)
theorem zfq {i : Nat} {x : Str} {p pos : Pos} (hv : PE X (.Name x p) (Vh i)) (hb : AK X kd b f) (hs : V8 b) : AK X kd (.Subscript (.Name x p) b pos) (xAt i f) := by
 with_unfolding_all exact (yF (zjn zer hv hb hs) λ σ H Q h => by
  obtain ⟨F, B, ad, as, c, R, e, q⟩ := h
  obtain ⟨k, h1, e⟩ := bS_ (show (f as).bind _ = _ from e)
  obtain ⟨hk, e⟩ := ite_some' e
  obtain ⟨d0, e1, e3⟩ := bS_ e
  obtain ⟨ds, e2, e4⟩ := bS_ e3
  obtain ⟨d, k2, e5⟩ := bS_ e4
  cases Xk e2
  cases zdN e5
  obtain ⟨st, k1⟩ := zpF e1
  obtain ⟨v, hv, ro⟩ := R.sl i _ k1
  generalize ad i = fp at ro
  cases ro with
  | lf rp =>
   obtain ⟨l, vs, rfl, hq, rl⟩ := zma (ad := ad) (q := st) rp (λ z => z)
   obtain ⟨w, hw, rw'⟩ := rl.get k2
   cases rw'
   refine ⟨_, hv, F, B, ad, as, k, R, h1, l, vs, k, _, rfl, rfl, hq ad H Grow.refl, ?_, q⟩
   have := xY hw
   rw [zyW hk] at this
   exact this)
end
def Vm (i : Nat) (f1 f2 fv : IXF) : SF := λ as => (f1 as).bind λ k1 => (f2 as).bind λ k2 => (fv as).bind λ c => if 0 <= k1 /\ 0 <= k2 then (slO zfR as i).bind λ os => (atO zfR os k1.toNat).bind λ inner => (atO zca inner k2.toNat).bind λ _ => some (.nx (as.set i (some (.nd .ls (os.set k1.toNat (.nd .ls (inner.set k2.toNat (.lf true (.int c))))))))) else none
theorem zlV {n j : Nat} (h : j < n) : ixN n (j : Int) = some j := by
 unfold ixN
 rw [if_pos (by omega), if_pos (by omega)]; simp
theorem zlP {n : Nat} {k : Int} (h0 : 0 <= k) (h : k.toNat < n) : ixN n k = some k.toNat := by
 have := zlV h
 rw [show ((k.toNat : Nat) : Int) = k by omega] at this
 exact this
theorem zlq {α : Type} {xs : List α} {k : Int} {v : α} (h0 : 0 <= k) (h : xs[k.toNat]? = some v) : atI xs k = some v := by
 have := xY h
 rw [show ((k.toNat : Nat) : Int) = k by omega] at this
 exact this
section
variable {X : Cx} {kd : KD} {f f1 f2 f3 fv : IXF} {e1 e2 e3 ev : Expr} {i y : Nat}
theorem zgK {x : Str} {p p1 tpos pos : Pos} (ho : PE X (.Name x p) (Vh i)) (h1 : AK X kd e1 f1) (hp1 : V8 e1) (h2 : AK X kd e2 f2) (hv : AK X kd ev fv)
 (ha : ∀ v, assign (.Subscript (.Subscript (.Name x p) e1 p1) e2 tpos) X.env v = (do
  let ov <- holding [v] (eval (.Subscript (.Name x p) e1 p1) X.env)
  let iv <- holding [v, ov] (eval e2 X.env)
  standAt tpos
  holding [v, ov, iv] (setItem ov iv v)
  release [v, ov, iv] []))
 (hs : swapsWithSole [.Subscript (.Subscript (.Name x p) e1 p1) e2 tpos] ev pos.line X.env = pure false) (hw : swappedStores [.Subscript (.Subscript (.Name x p) e1 p1) e2 tpos] ev X.env = pure none)
 (hm : (assignEach [.Subscript (.Subscript (.Name x p) e1 p1) e2 tpos] X.env).map (·.2) = [assign (.Subscript (.Subscript (.Name x p) e1 p1) e2 tpos) X.env]) :
 ASt X kd (.Assign [.Subscript (.Subscript (.Name x p) e1 p1) e2 tpos] ev pos) (Vm i f1 f2 fv) := by
 with_unfolding_all exact (Zm (ziS hv (znL (zjn zer ho h1 hp1) h2 set_list ha) hs hw hm) λ D σ H h => by
  obtain ⟨F, B, ad, as, o, R, e, q⟩ := h
  obtain ⟨n1, j1, e⟩ := bS_ (show (f1 as).bind _ = _ from e)
  obtain ⟨n2, j2, e⟩ := bS_ e
  obtain ⟨c, j3, e⟩ := bS_ e
  obtain ⟨⟨hk1, hk2⟩, e⟩ := ite_some' e
  obtain ⟨os, e1, e⟩ := bS_ e
  obtain ⟨inner, e2, e⟩ := bS_ e
  obtain ⟨d, e3, e⟩ := bS_ e
  have k1 := zrB e1
  have k2 := zqR e2
  obtain ⟨st, k3⟩ := zrH e3
  cases e
  obtain ⟨v, sv, ro, hn, hG, up⟩ := R.slotU k1
  obtain ⟨l, vs, w, fw, rfl, hH, hvs, rw1, fn, fs, up1⟩ := znA ro hn hG k2
  obtain ⟨p, ivs, rfl, hp, hHp, hl, ro'⟩ := zlI c rw1 fn (λ a m => hG a (fs a m)) k3
  obtain ⟨R2, g2⟩ := up p _ _ (fs p hp) (up1 p _ _ hp ro')
  exact ⟨F, B, ad, as, c, R, j3, _, sv, F, B, ad, as, n1, R, j1, l, vs, n1, _, rfl, rfl, .inl (.inl hH), zlq hk1 hvs, F, B, ad, as, n2, R, j2, p, ivs, n2, n2.toNat, rfl, rfl, hHp, zlP hk2 hl, q σ ad _ R2 g2⟩)
end
theorem zdU : typeLookup (.type "list") "keys" = pure none := am_miss_of_fast (by decide +kernel)
theorem zfO {prog : Program} {w : World} {A : Around} {E : Value -> Shared -> Prop} {s : Shared} {a : Addr} {o : Obj} {xs : Array Value} {k : Nat} {Q : Option Value -> Shared -> Prop}
 (hx : s.heap.get? a = some o) (hc : o.cls = .type "list") (hdat : o.data = .seq xs k) (hd : o.dict = none) (hA : A.handled = none)
 (h : ∀ h' tk, (∀ b o, s.heap.get? b = some o -> h'.get? b = some o) -> Q none { s with heap := h', toks := tk }) :
 wpAny (model prog w) A (getAttr? (.ref a) "keys") Q E s := by
 obtain ⟨c, dct, dat, sl⟩ := o
 simp only at hc hdat hd
 subst hc hdat hd
 obtain ⟨hp, g, d, tk, os⟩ := s
 have hT : ∀ tk', (⟨hp, g, d, tk', os⟩ : Shared).TypeIs (.ref a) "list" := λ _ => ⟨_, hx, rfl⟩
 have f1 := sub_AttributeError
 have f3 := F.slot_list_getattribute.lookup
 have f4 := F.slot_list_getattribute.bind (.ref a)
 have f5 := am_list_getattr_none
 unfold getAttr? getAttrBy? getAttrBy
 repeat (any_goals (first | assumption | exact hT _ | ((with_reducible show wpAny _ _ (call (Value.builtin "list.__getattribute__") _ _) _ _ _); refine call_meets F.slot_list_getattribute (hT _) am_entry_list_getattribute (F.args_list_getattribute_2 _ _) (meets_getattribute_miss_list a xs k sl "keys" _ zdU (by decide +kernel)) ⟨hx, hA, λ h' tk' e hx' => ?_⟩) | wp_step))
 obtain ⟨t', u', he⟩ := hx'.there
 show wpAny _ _ (getattributeRaised _ _ _ _ _ _ _) _ _ _
 unfold getattributeRaised
 repeat (any_goals (first | assumption | wp_step))
 exact h _ _ hx'.keeps
theorem v8 : plainId "dict.update.loop" = true := by decide +kernel
theorem Wf : entryFor table "dict.update.loop" = some Builtin.«dict.update.loop» := entryFor_of_fast (by kernel_rfl)
section
variable {prog : Program} {w : World} {κ : Type} [DecidableEq κ] {knd : KeyKind prog w κ} {A : Around} {R : Result -> Shared -> Prop} {d I l : Addr} {items : Array Value} {N : Nat}
def putAll (kvs : List (κ × Value)) : List (κ × Value) -> List (κ × Value)
 | [] => kvs
 | p :: r => putAll (stored kvs p.1 p.2) r
theorem zfF (kvs : List (κ × Value)) (k : κ) (v : Value) : (stored kvs k v).length <= kvs.length + 1 := by
 unfold stored
 split
 · rw [zD]; omega
 · rw [zzG]; exact zzK _
theorem zcu (hh : A.handled = none) (hdN : N <= d) (hIN : N <= I) (hdI : d ≠ I) (hlN : l < N) : ∀ (rest : List (κ × Value)) (i : Nat) (s : Shared) (kvs : List (κ × Value)), s.heap.IsListIter I l i -> s.heap.IsList l items -> s.heap.DictOf knd d kvs -> kvs.length + rest.length <= sizeLine ->
 (∀ j p, rest[j]? = some p -> ∃ q key, items[i + j]? = some (.ref q) /\ q < N /\ IsTup s.heap q #[key, p.2] /\ knd.is p.1 key = true) -> items[i + rest.length]? = none ->
 (∀ h' tk, h'.DictOf knd d (putAll kvs rest) -> (∀ b o, b < N -> s.heap.get? b = some o -> h'.get? b = some o) -> R (.ok (.ret .none)) { s with heap := h', toks := tk }) ->
 codeAny (model prog w) A (.builtin "dict.update.loop" ⟨[.ref d, .ref I, rawInt i, .none], []⟩) R s := by
 intro rest
 induction rest with
 | nil =>
  intro i s kvs hit hl hm hz hp he hR
  refine zxM Wf ?_
  rw [zxJ v8 _]
  show wpAny _ A.in1 (pyNext (.ref I) >>= _) _ _ s
  refine zxD (wpAny_pyNext_list_end hh hit hl he λ h' hx => ?_)
  show wpAny _ _ (Builtin.Dict.addKeywords d [] >>= _) _ _ _
  refine zxD (zxE (zxE ?_))
  obtain ⟨o, es, ep, ho, r⟩ := hm
  exact hR h' s.toks ⟨o, es, ep, hx d o hdI ho, r⟩ λ b o hb e => hx b o (zzN (zzH hb hIN)) e
 | cons p rest ih =>
  intro i s kvs hit hl hm hz hp he hR
  obtain ⟨q, key, hq, hqN, ht, hkey⟩ := hp 0 p rfl
  refine zxM Wf ?_
  rw [zxJ v8 _]
  show wpAny _ A.in1 (pyNext (.ref I) >>= _) _ _ s
  refine zxD (wpAny_pyNext_list_item hit hl hq λ h' hit' hs => ?_)
  have sm : ∀ b o, b ≠ I -> s.heap.get? b = some o -> h'.get? b = some o := λ b o hb e => (hs.2 b hb).trans e
  obtain ⟨oq, hoq, hcq, nq, hdq⟩ := ht
  have hoq' := sm q oq (zzN (zzH hqN hIN)) hoq
  have hm' : h'.DictOf knd d kvs := let ⟨o, es, ep, ho, r⟩ := hm; ⟨o, es, ep, sm d o hdI ho, r⟩
  have hl' : h'.IsList l items := let ⟨o, ho, r⟩ := hl; ⟨o, sm l o (zzN (zzH hlN hIN)) ho, r⟩
  have hT : ({ s with heap := h' } : Shared).TypeIs (.ref q) "tuple" := ⟨oq, hoq', hcq⟩
  show wpAny _ _ (holding [.ref q] _ >>= _) _ _ _
  refine zxD (zxK (zxD (wpAny_tryCatch ?_)))
  unfold Builtin.Dict.pairItems
  refine zxD (wpAny_typeOf hT ?_)
  show wpAny _ _ (if (Value.type "tuple" == Value.type "list" || Value.type "tuple" == Value.type "tuple") = true then _ else _) _ _ _
  rw [if_pos (by decide)]
  refine zxD (wpAny_seqItems hoq' hdq (zxE ?_))
  show wpAny _ _ (holding [key, p.2] (dictSet d key p.2)) _ _ _
  refine zxK (wpAny_dictSet_pairs (hsz := by simp only [zzQ] at hz; omega) hkey hm' λ h'' hm'' hs'' => ?_)
  have sm2 : ∀ b o, b ≠ d -> h'.get? b = some o -> h''.get? b = some o := λ b o hb e => (hs''.2 b hb).trans e
  refine zxE ⟨zxN v8 _, ?_⟩
  have hit'' : h''.IsListIter I l (i + 1) := let ⟨o, ho, r⟩ := hit'; ⟨o, sm2 I o (Ne.symm hdI) ho, r⟩
  have hl'' : h''.IsList l items := let ⟨o, ho, r⟩ := hl'; ⟨o, sm2 l o (zzN (zzH hlN hdN)) ho, r⟩
  have keep : ∀ b o, b < N -> s.heap.get? b = some o -> h''.get? b = some o := λ b o hb e => sm2 b o (zzN (zzH hb hdN)) (sm b o (zzN (zzH hb hIN)) e)
  have := ih (i + 1) { s with heap := h'', toks := s.toks + 1 } (stored kvs p.1 p.2) hit'' hl'' hm'' (by have := zfF kvs p.1 p.2; simp only [zzQ] at hz; omega)
   (λ j p' hj => by
    obtain ⟨q', key', a1, a2, ⟨o', a3, a4⟩, a5⟩ := hp (j + 1) p' (by simpa using hj)
    exact ⟨q', key', by rw [show i + 1 + j = i + (j + 1) by omega]; exact a1, a2, ⟨o', keep q' o' a2 a3, a4⟩, a5⟩)
   (by rw [show i + 1 + rest.length = i + (p :: rest).length by simp only [zzQ]; omega]; exact he)
   (λ h3 tk hm3 k3 => hR h3 tk hm3 λ b o hb e => k3 b o hb (keep b o hb e))
  exact this
end
theorem zbO {prog : Program} {w : World} {κ : Type} [DecidableEq κ] {knd : KeyKind prog w κ} {A : Around} {E : Value -> Shared -> Prop} {s : Shared} {l : Addr} {o : Obj} {items : Array Value} {n : Nat} {ps : List (κ × Value)} {Q : Value -> Shared -> Prop} (hh : A.handled = none)
 (ho : s.heap.get? l = some o) (hc : o.cls = .type "list") (hd : o.data = .seq items n) (hn : o.dict = none) (hsz : ps.length <= sizeLine)
 (hp : ∀ (j : Nat) (p : κ × Value), ps[j]? = some p -> ∃ (q : Addr) (key : Value), items[j]? = some (Value.ref q) /\ IsTup s.heap q #[key, p.2] /\ knd.is p.1 key = true) (he : items[ps.length]? = none)
 (h : ∀ h' tk, h'.DictOf knd s.heap.objs.size (putAll [] ps) -> (∀ b o, s.heap.get? b = some o -> h'.get? b = some o) -> Q (.ref s.heap.objs.size) { s with heap := h', toks := tk }) : wpAny (model prog w) A (call (.type "dict") [.ref l]) Q E s := by
 refine callType_codes (Q₁ := λ obj s₁ => obj = .ref s.heap.objs.size /\ s₁ = { s with heap := s.heap.push { cls := .type "dict", data := .dict #[] } }) F.kt_called_dict (F.kt_typeCall_dict_1 _) F.entry_dict_init (kt_code_dict_new _ ⟨rfl, rfl⟩) ?_
 rintro obj s₁ ⟨rfl, rfl⟩
 have hnew : (s.heap.push { cls := .type "dict", data := .dict #[] }).DictOf knd s.heap.objs.size [] := Heap.DictOf.new s.heap
 have k1 : ∀ b o, s.heap.get? b = some o -> (s.heap.push { cls := .type "dict", data := .dict #[] }).get? b = some o := λ b o e => zxF _ e
 have hT : ({ s with heap := s.heap.push { cls := .type "dict", data := .dict #[] } } : Shared).TypeIs (.ref l) "list" := ⟨o, k1 l o ho, hc⟩
 refine ⟨hnew.typeIs, F.args_dict_init_2 _ _, ?_⟩
 unfold Builtin.«dict.__init__»
 refine zxD ?_
 unfold Builtin.Dict.selfAndRest
 refine zxD (wpAny_notOrdered_dict hnew.typeIs ?_)
 show wpAny _ _ (pure (s.heap.objs.size, [Value.ref l])) _ _ _
 refine zxE ?_
 show wpAny _ _ (Builtin.Dict.updateFrom "dict.__init__" s.heap.objs.size (.ref l) [] .none) _ _ _
 unfold Builtin.Dict.updateFrom
 refine zxD (wpAny_typeOf hT ?_)
 rw [if_pos (by decide)]
 refine zxD (zfO (k1 l o ho) hc hd hn hh λ h2 tk2 k2 => ?_)
 rw [if_pos (by decide)]
 refine zxD (wpAny_rule ?_)
 have ho2 := k2 l o (k1 l o ho)
 have hl2 : h2.IsList l items := ⟨o, ho2, hc, n, hd⟩
 refine zxD (wpAny_pyIter_list hl2 ?_)
 have k3 : ∀ b o, h2.get? b = some o -> (h2.push { cls := .type "list_iterator", data := .fields #[.ref l, .int 0 0] }).get? b = some o := λ b o e => zxF _ e
 have hd2 : s.heap.objs.size < h2.objs.size := by
  obtain ⟨o', _, _, ho', _⟩ := hnew
  exact zxG (k2 _ _ ho')
 refine zxE ⟨zxN v8 _, ?_⟩
 refine zcu (A := A.in1) (N := s.heap.objs.size) (knd := knd) (items := items) hh (zzK _) (Nat.le_of_lt hd2) (zzN hd2) (zxG ho) ps 0 { s with heap := h2.push { cls := .type "list_iterator", data := .fields #[.ref l, .int 0 0] }, toks := tk2 } [] ⟨_, zxH _ rfl, rfl, rfl⟩ ⟨o, k3 l o ho2, hc, n, hd⟩ ?_ (by rw [List.length_nil]; omega) (λ j p hj => ?_) (by rw [zyV]; exact he) (λ h' tk dd kk => ?_)
 · obtain ⟨o', es, ep, ho', r⟩ := hnew
   exact ⟨o', es, ep, k3 _ _ (k2 _ _ ho'), r⟩
 · obtain ⟨q, key, a1, ⟨o', a3, a4⟩, a5⟩ := hp j p hj
   exact ⟨q, key, by rw [zyV]; exact a1, zxG a3, ⟨o', k3 _ _ (k2 _ _ (k1 _ _ a3)), a4⟩, a5⟩
 · exact ⟨rfl, h h' tk dd λ b o e => kk b o (zxG e) (k3 _ _ (k2 _ _ (k1 _ _ e)))⟩
def Yq : List D -> Option (List (Key × D))
 | [] => some []
 | d :: r => (asT d).bind λ l => (zot l).bind λ p => (zcv p.1).bind λ k => (Yq r).bind λ t => some ((k, p.2) :: t)
def zrl : D -> Option R0
 | .dct kvs => some (.fd kvs)
 | .lst ds => (Yq ds).bind λ kvs => if (kvs.map (·.1)).Nodup then some (.fd kvs) else none
 | _ => none
def zbJ : List D -> Option R0 := on1 zrl
theorem zcE {κ : Type} [DecidableEq κ] : ∀ (ps acc : List (κ × Value)), ((acc ++ ps).map (·.1)).Nodup -> putAll acc ps = acc ++ ps
 | [], acc, _ => (zyB acc).symm
 | p :: r, acc, h => by
  have hs : stored acc p.1 p.2 = acc ++ [p] := by
   unfold stored
   rw [if_neg]
   rw [zyJ, zyP] at h
   obtain ⟨_, _, n3⟩ := zxC.mp h
   intro z
   obtain ⟨q, m, e⟩ := List.any_eq_true.mp z
   exact n3 q.1 (List.mem_map_of_mem m) p.1 (zzC ..) (of_decide_eq_true e)
  show putAll (stored acc p.1 p.2) r = _
  rw [hs, zcE r (acc ++ [p]) (by rw [zxA]; exact h), zxA]; rfl
section
variable {X : Cx} {kd : KD} {O : Addr -> Prop} {pins : List (Addr × Obj)} {σ : St} {H : Hp} {s : Shared}
theorem zcn (I : Inv X pins σ H s) : ∀ {vs : List V} {us : List Value} {ds : List D} {dk : List (Key × D)}, RpL X.K kd O H vs ds -> Vals vs us -> Yq ds = some dk ->
 ∃ (kvs : List (Key × V)) (ps : List (Key × Value)), KV kvs ps /\ RpM X.K kd O H kvs dk /\ ps.length = us.length /\ ps.map (·.1) = dk.map (·.1) /\ kvs.length = ps.length /\
  ∀ (j : Nat) (p : Key × Value), ps[j]? = some p -> ∃ (q : Addr) (key : Value), us[j]? = some (Value.ref q) /\ IsTup s.heap q #[key, p.2] /\ (yz X.prog X.w).is p.1 key = true
 | _, _, [], _, rl, r, e => by
  cases rl
  cases r
  cases e
  exact ⟨[], [], .nil, .nil, rfl, rfl, rfl, λ j p h => by simp at h⟩
 | _, _, d :: ds, dk, rl, r, e => by
  cases rl with
  | cons rp rl =>
   rename_i v vs
   cases r with
   | cons r0 r =>
    rename_i u us
    obtain ⟨l0, e0, e2⟩ := bS_ (show (asT d).bind _ = _ from e)
    obtain ⟨⟨k, dv⟩, e1, e3⟩ := bS_ e2
    cases zjr e0
    cases zhx e1
    · obtain ⟨kk, h1, e⟩ := bS_ e3
      obtain ⟨t, h2, e⟩ := bS_ e
      cases e
      obtain ⟨kvs, ps, a1, a2, a3, a4, a5, a6⟩ := zcn I (ds := ds) (dk := t) rl r h2
      cases rp.vw with
      | tup rp' hq rl' =>
       rename_i q ws
       cases rl' with
       | cons k1 rl' =>
        cases rl' with
        | cons k2 rl' =>
         cases rl'
         rename_i kv' vv'
         have ek := zdx k1.vw h1
         subst ek
         obtain ⟨its, rv, ht, _⟩ := I.tuple hq
         obtain ⟨u1, u2, rfl, r1, r2⟩ := vals2 rv
         cases r0
         refine ⟨(kk, vv') :: kvs, (kk, u2) :: ps, .cons ⟨rfl, r2⟩ a1, .cons k2 a2, congrArg (· + 1) a3, congrArg (kk :: ·) a4, congrArg (· + 1) a5, λ j p h => ?_⟩
         cases j with
         | zero =>
          simp at h
          subst h
          exact ⟨q, u1, rfl, ht, zce r1⟩
         | succ j => simpa using a6 j p (by simpa using h)
theorem zcj (hc : X.calm = true) (hk : KdOk X kd) : CallD X kd (.type "dict") zbJ := by
 intro pins s σ H xs us Q I r h
 obtain ⟨O, ds, z, ht, vl, he, q⟩ := h
 obtain ⟨x, d, rfl, vx, he⟩ := Vd vl he
 cases vx with
 | dct hr rm => exact zie hk pins s σ H _ us Q I r ⟨O, [.dct _], z, ht, .cons (.dct hr rm) .nil, he, q⟩
 | lst hr rl =>
  obtain ⟨dk, h1, he⟩ := bS_ (show (Yq _).bind _ = _ from he)
  obtain ⟨hn, he⟩ := zP he
  cases he
  obtain ⟨u, rfl, ru⟩ := vals1 r
  cases ru
  obtain ⟨its, rv, ⟨o, n, ho, hcl, hdi, hda⟩, hz⟩ := I.list hr.sq
  obtain ⟨kvs, ps, a1, a2, a3, a4, a5, a6⟩ := zcn I rl rv h1
  have hlen := rv.length
  refine zbO (knd := yz X.prog X.w) (ps := ps) (I.ok.hd hc) ho hcl hda hdi (by omega) (λ j p hj => ?_) (by rw [a3]; simp) λ h' tk dd kp => ?_
  · obtain ⟨q', key, b1, b2, b3⟩ := a6 j p hj
    exact ⟨q', key, by simpa using b1, b2, b3⟩
  · rw [zcE ps [] (by rw [List.nil_append, a4]; exact hn), List.nil_append] at dd
    exact ⟨.ref _, _, I.laid (a := s.heap.objs.size) (o := .dK kvs) (t' := tk) kp (zzK _) (zgo (by omega) (beq_eq_false_iff_ne.mpr (Ne.symm (zzN I.big))) a1 dd), rfl, zjY q a2 _ (I.hok.fresh (zzK _))⟩
 | _ => cases he
end
theorem l1_ {α : Type} {P : List α -> Prop} (h : ∀ a, P [a]) : ∀ us : List α, us.length = 1 -> P us
 | [a], _ => h a
theorem l2_ {α : Type} {P : List α -> Prop} (h : ∀ a b, P [a, b]) : ∀ us : List α, us.length = 2 -> P us
 | [a, b], _ => h a b
theorem l3_ {α : Type} {P : List α -> Prop} (h : ∀ a b c, P [a, b, c]) : ∀ us : List α, us.length = 3 -> P us
 | [a, b, c], _ => h a b c
theorem l4_ {α : Type} {P : List α -> Prop} (h : ∀ a b c d, P [a, b, c, d]) : ∀ us : List α, us.length = 4 -> P us
 | [a, b, c, d], _ => h a b c d
theorem l5_ {α : Type} {P : List α -> Prop} (h : ∀ a b c d e, P [a, b, c, d, e]) : ∀ us : List α, us.length = 5 -> P us
 | [a, b, c, d, e], _ => h a b c d e
section
variable {X : Cx} {kd : KD}
theorem aI {c : Int} {j pos} : AE X kd (.Constant (.int c) j pos) (fC (.int c)) := zew zkM λ _ _ => .int _
theorem aS {c : Str} {j pos} : AE X kd (.Constant (.str c) j pos) (fC (.str c)) := zew znv λ _ _ => .str _
theorem aZ {j pos} : AE X kd (.Constant .none j pos) (fC .non) := zew zoF λ _ _ => .non
theorem aB {c : Bool} {j pos} : AE X kd (.Constant (.bool c) j pos) (fC (.bl c)) := zew zqC λ _ _ => .bl _
theorem ax {P : Program} {w : World} {K : zC} {a b : Expr} {fa fb : EF} {pos : Pos} (hkd : KD1 P w K kd) (ha : AE X kd a fa) (hb : AE X kd b fb) (h1 : X.prog = P := by rfl) (h2 : X.w = w := by rfl) (h3 : X.K = K := by rfl) (hm : V8 b := by exact λ _ _ => rfl) : AE X kd (.Subscript a b pos) (f2 fa fb ixP) := zpB (zrp (hkd _ h1 h2 h3)) ha hb hm
theorem sv (z : Bool) (i : Nat) {x : Str} {pos pos' : Pos} {e : Expr} {fa : EF} (hN : X.N.Nodup) (he : AE X kd e fa) (hi : X.N[i]? = some x := by rfl) (hx : Loc X.env.scope x := by first | exact Or.inl rfl | exact Or.inr rfl) (hs : swapsWith e (some (.Name x pos')) pos.line X.env = pure false := by rfl) (hf : X.fn x = true \/ X.env.scope.names.lookup x = some .local := by first | exact Or.inl rfl | exact Or.inr rfl) :
 ASt X kd (.Assign [.Name x pos'] e pos) (zJ z i fa) := zoX hN hi hx he hs hf
theorem an (i : Nat) {x : Str} {pos : Pos} (hN : X.N.Nodup) (hi : X.N[i]? = some x := by rfl) (hx : Loc X.env.scope x := by first | exact Or.inl rfl | exact Or.inr rfl) (hf : X.fn x = true \/ X.env.scope.names.lookup x = some .local := by first | exact Or.inl rfl | exact Or.inr rfl) : AG X kd (.Name x pos) [i] (gN i) := zmu hN hi hx hf
theorem av (i : Nat) {x : Str} {pos : Pos} (hN : X.N[i]? = some x := by rfl) (hv : Vis X.env.scope x := by first | exact Or.inl rfl | exact Or.inr (Or.inl rfl) | exact Or.inr (Or.inr rfl)) (hd : (x == ("__debug__" : Str)) = false := by decide)
 (hcd : (x == ("__classdict__" : Str)) = false := by decide) : AE X kd (.Name x pos) (fV i) := zom (zke hN hv hd hcd)
end
structure CI (K : zC) (kd : KD) (mg : Str -> Option Value) (c : Str) (C : Addr) : Prop where
 eq : kd.c c = C
 cl : Cls K C
 mks : PySem.W.makesIn K C = true
 kp : PySem.W.keepIn K (.ref C) = true
 mg : mg c = some (.ref C)
theorem szs {n : Nat} (h : n <= 1000000) : n <= sizeLine := zzL h (by decide)
section
variable {as : AS} {f fo a b : EF} {fr : AF} {s t : Bool} {x y z d : D} {c m : Str} {ns cs : List Str} {ds : List D} {tbl : List (Str × Fn)} {g : Fn} {o : O}
inductive SqD : D -> List D -> Prop
 | l (ds : List D) : SqD (.lst ds) ds
 | t (ds : List D) : SqD (.tup ds) ds
theorem zdm {α : Type} {h : α -> D} {it : α -> It1} {gg : GF} {fe : EF} {as0 : AS} : ∀ (l : List α), (∀ q ∈ l, ∃ as1, gg (it q) as0 = some as1 /\ WE fe as1 (h q)) -> ∃ os, yW gg xX fe as0 (l.map it) = some os /\ O.strs os = true /\ O.toDs os = l.map h
 | [], _ => ⟨[], rfl, rfl, rfl⟩
 | q :: l, H => by
  obtain ⟨os, e1, e2, e3⟩ := zdm l λ p m => H p (zzA _ m)
  obtain ⟨as1, h1, o, h2, h3, h4⟩ := H q zzC
  refine ⟨o :: os, ?_, by show (o.str && O.strs os) = true; rw [h3, e2]; rfl, by show o.toD :: O.toDs os = _; rw [h4, e3]; rfl⟩
  show yW gg xX fe as0 (it q :: l.map it) = _
  unfold yW
  rw [h1]; show ((fe as1).bind _) = _
  rw [h2]; show (if o.str = true then _ else _) = _
  rw [if_pos h3, e1]; rfl
theorem zan {α : Type} {h : α -> D} {p : α -> Bool} {it : α -> It1} {gg : GF} {tt : TF} {fe : EF} {as0 : AS} : ∀ (l : List α), (∀ q ∈ l, ∃ as1, gg (it q) as0 = some as1 /\ WT tt as1 (p q) /\ (p q = true -> WE fe as1 (h q))) -> ∃ os, yW gg tt fe as0 (l.map it) = some os /\ O.strs os = true /\ O.toDs os = (l.filter p).map h
 | [], _ => ⟨[], rfl, rfl, rfl⟩
 | q :: l, H => by
  obtain ⟨os, e1, e2, e3⟩ := zan l λ p m => H p (zzA _ m)
  obtain ⟨as1, h1, h2, h3⟩ := H q zzC
  cases hp : p q with
  | false =>
   rw [hp] at h2
   refine ⟨os, ziG h1 h2 e1, e2, ?_⟩
   rw [List.filter_cons_of_neg (by simp [hp])]; exact e3
  | true =>
   rw [hp] at h2
   obtain ⟨o, k1, k2, k3⟩ := h3 hp
   refine ⟨o :: os, ?_, by show (o.str && O.strs os) = true; rw [k2, e2]; rfl, ?_⟩
   · unfold WT at h2
     show yW gg tt fe as0 (it q :: l.map it) = _
     unfold yW
     rw [h1]; show (tt as1).bind _ = _
     rw [h2]; show ((fe as1).bind _) = _
     rw [k1]; show (if o.str = true then _ else _) = _
     rw [if_pos k2, e1]; rfl
   · rw [List.filter_cons_of_pos hp]
     show o.toD :: O.toDs os = _
     rw [k3, e3]; rfl
theorem zeM {fi : IF} {cap : List (Option Nat)} {gg : GF} {tt : TF} {fe : EF} {xs : List It1} {os : List O} {zs : List D} (h1 : fi as = some (xs, as)) (hl : xs.length <= 1000000) (h2 : yW gg tt fe (ZP cap as) xs = some os) (hs : O.strs os = true) (e : O.toDs os = zs) : WE (yj fi cap gg tt fe) as (.lst zs) := by
 refine ⟨.nd .ls os, ?_, hs, congrArg D.lst e⟩
 unfold yj
 rw [h1]; show (if xs.length <= sizeLine then _ else _) = _
 rw [if_pos (szs hl), h2]; rfl
theorem zdO {α : Type} {h : α -> D} {it : α -> It1} {fi : IF} {cap : List (Option Nat)} {gg : GF} {fe : EF} (l : List α) (h1 : fi as = some (l.map it, as)) (hl : l.length <= 1000000) (H : ∀ q ∈ l, ∃ as1, gg (it q) (ZP cap as) = some as1 /\ WE fe as1 (h q)) : WE (yj fi cap gg xX fe) as (.lst (l.map h)) := by
 obtain ⟨os, e1, e2, e3⟩ := zdm l H
 exact zeM h1 (by rw [zD]; exact hl) e1 e2 e3
theorem zgp {α : Type} {h : α -> D} {p : α -> Bool} {it : α -> It1} {fi : IF} {cap : List (Option Nat)} {gg : GF} {tt : TF} {fe : EF} (l : List α) (h1 : fi as = some (l.map it, as)) (hl : l.length <= 1000000) (H : ∀ q ∈ l, ∃ as1, gg (it q) (ZP cap as) = some as1 /\ WT tt as1 (p q) /\ (p q = true -> WE fe as1 (h q))) : WE (yj fi cap gg tt fe) as (.lst ((l.filter p).map h)) := by
 obtain ⟨os, e1, e2, e3⟩ := zan l H
 exact zeM h1 (by rw [zD]; exact hl) e1 e2 e3
def Rt (r : Option Out) (x : D) : Prop := ∃ o, r = some (.rt o) /\ o.str = true /\ o.toD = x
theorem WW {n m : Nat} {c : SF} {ds : List (Bool × D)} {x : D} (hl : ds.length = m) (h : Rt (c (vG n ds)) x) : RE (fnR n m c ds) x := by
 obtain ⟨o, h1, h2, h3⟩ := h
 exact ⟨o, Z8 hl h1, h2, h3⟩
theorem yf {f g : SF} {as as1 : AS} {x : D} (h1 : f as = some (.nx as1)) (h2 : Rt (g as1) x) : Rt (zE f g as) x := by
 obtain ⟨o, e, h⟩ := h2
 exact ⟨o, zU h1 e, h⟩
theorem zll {f g : SF} {as : AS} {x : D} (h1 : Rt (f as) x) : Rt (zE f g as) x := by
 obtain ⟨o, e, h⟩ := h1
 exact ⟨o, Zc e, h⟩
theorem zoi {c : TF} {f g : SF} {as : AS} {x : D} (h : WT c as true) (h1 : Rt (f as) x) : Rt (sIf c f g as) x := by
 obtain ⟨o, e, h2⟩ := h1
 exact ⟨o, v4 h e, h2⟩
theorem zen {f : EF} {as : AS} {x : D} (h : WE f as x) : Rt (yZ f as) x := by
 obtain ⟨o, h1, h2, h3⟩ := h
 refine ⟨o, ?_, h2, h3⟩
 unfold yZ; rw [h1]
 show ((if o.str = true then some o else none).bind _) = _
 rw [if_pos h2]; rfl
theorem zki {fd : DF} {os : List O} {zs : List D} (h : WO fd as os) (hl : os.length <= 1000000) (hs : O.strs os = true) (e : O.toDs os = zs) : WE (Zo fd) as (.tup zs) := by
 refine ⟨Z0 os, zgE h (szs hl), ?_, ?_⟩
 · unfold Z0; split
   · exact hs
   · exact hs
 · subst e
   unfold Z0; split
   · rfl
   · rfl
theorem zeI {fd : DF} {os : List O} (h : WE a as x) (hr : WO fd as os) : ∃ o, o.str = true /\ o.toD = x /\ WO (dC a fd) as (o :: os) := by
 obtain ⟨o, h1, h2, h3⟩ := h
 exact ⟨o, h2, h3, znF h1 hr⟩
theorem zdQ (ha : WE a as x) (hb : WE b as y) : WE (Zo (dC a (dC b dN))) as (.tup [x, y]) := by
 obtain ⟨p, k1, rfl, k3⟩ := zeI hb yM
 obtain ⟨o, h1, rfl, h3⟩ := zeI ha k3
 exact zki h3 (by show 2 <= _; omega) (by show (o.str && (p.str && true)) = true; rw [h1, k1]; rfl) rfl
theorem zpr {g : D -> D -> Option R0} (ha : WE a as x) (hb : WE b as y) (hg : g x y = some (.im z)) : WE (f2 a b g) as z := WD.e (f2E ha hb hg)
end
open AutoSeq1 (wpAny_loadPart')
section
variable {X : Cx} {kd : KD}
def zct (x y : D) : Option R0 := onI (λ i j => if 0 <= j /\ j <= 1000000 /\ i.natAbs < 2 ^ 64 then some (.im (.int (i * 2 ^ j.toNat))) else none) x y
theorem zhr : OpD X kd (binaryOp .LShift) zct := by
 intro pins s σ H x y v u Q I rx ry h
 obtain ⟨O, d, e, r, ht, vx, vy, he, q⟩ := h
 obtain ⟨i, j, rfl, rfl, he⟩ := Yt vx vy he
 obtain ⟨c, rfl⟩ := zP he
 exact zox pins s σ H _ _ v u Q I rx ry ⟨_, _, rfl, rfl, c, yo q (.int _)⟩
end
def zbp (ns : List Int) : List Int := ns.foldl step_dedup []
def ssP : List D -> Option R0 := on1 λ x => (asL x).bind λ ds => (yL ds).bind λ ns => if ns.length < 64 /\ ns.all (λ n => decide (0 <= n) && decide (n < 8)) = true then some (.fl ((sortI (zbp ns)).map .int)) else none
def ltI : List Int -> List Int -> Bool
 | _, [] => false
 | [], _ :: _ => true
 | x :: xs, y :: ys => decide (x < y) || (x == y && ltI xs ys)
def keyOf : Key -> D
 | .inl i => .int i
 | .inr s => .str s
def zit (i : Nat) (k : Int) : SF := λ as => match as[i]? with
 | some (some (.lf _ (.int n))) => some (.nx (as.set i (some (.lf true (.int (n + k))))))
 | _ => none
section
variable {X : Cx} {kd : KD} {e : Expr} {fa : EF} {pos pos' : Pos}
theorem zoV {i : Nat} {x : Str} {k : Int} {z : Nat} {p2 : Pos} (hN : X.N.Nodup) (hi : X.N[i]? = some x) (hx : Loc X.env.scope x) (hf : X.fn x = true \/ X.env.scope.names.lookup x = some .local) :
 ASt X kd (.AugAssign (.Name x pos') .Add (.Constant (.int k) z p2) pos) (zit i k) := by with_unfolding_all exact (Zm (zpg hN hi hx zkM zoD hf) λ D σ H h => by
 obtain ⟨F, B, ad, as, o, R, e, q⟩ := h
 cases k1 : as[i]? with
 | none => unfold zit at e; rw [k1] at e; cases e
 | some a0 =>
  unfold zit at e
  rw [k1] at e
  match a0, e, k1 with
  | some (.lf st (.int n)), e, k1 =>
   cases e
   obtain ⟨v, hs, ro⟩ := R.sl i _ k1
   generalize ad i = fp1 at ro
   cases ro with
   | lf rp =>
    cases rp
    obtain ⟨ad2, R2, le⟩ := zge (v := .int (n + k)) (z := true) (r := .ow (.lf true (.int (n + k)))) (o := .lf true (.int (n + k))) (i := i) R (show RoS _ _ _ _ _ _ _ _ _ from .lf (.int _)) rfl (zzD.mp k1).1
    exact ⟨_, hs, _, _, rfl, rfl, q _ ad2 H R2 (Grow.less le)⟩)
end
end PF
end
section
namespace L2
open PySem PySem.Spec PyProof.Rows
theorem W3 {prog : Program} {w : World} {A : Around} {E : Value -> Shared -> Prop} {s : Shared} {d : Addr} {o : Obj} {es : Array DictEntry} {ep : Nat} {Q : Value -> Shared -> Prop} (hd : (d == sysModules) = false) (hT : s.TypeIs (.ref d) "dict") (ho : s.heap.get? d = some o) (hdat : o.data = .dict es ep) (hQ : Q (.ref s.heap.objs.size) { s with heap := s.heap.push { cls := .type "dict_keyiterator", data := .fields #[.ref d, .int 0 0, .int (es.size : Nat) 0, .int (ep : Nat) 0] } }) : wpAny (model prog w) A (pyIter (.ref d)) Q E s := by
 refine wpAny_pyIter_slot hT F.slot_dict_iter (zxR F.slot_dict_iter hT F.entry_dict_iter ?_ (F.args_dict_iter_1 _))
 unfold Builtin.«dict.__iter__»
 refine zxD ?_
 unfold Builtin.Dict.dictSlotNone
 refine zxD (wpAny_notOrdered_dict hT ?_)
 refine zxE ?_
 refine zxD (zxE ?_)
 unfold Builtin.Dict.showsAll
 rw [if_neg (by rw [hd]; exact zyT)]
 refine zxD (zxE (zxD (wpAny_dictEntries ho hdat (zxD (wpAny_dictEpoch ho hdat (zxD (zxI (zxE ⟨_, rfl, "dict_keyiterator", _, ⟨_, zxH _ rfl, rfl⟩, F.slot_dict_keyiterator_next.lookup, hQ⟩) ?_)))))))
 show (#[Value.ref d, rawInt 0, rawInt es.size, rawInt ep] : Array Value).size <= sizeLine + 2
 exact zzL (show 4 <= 1000 by decide) (zzL (by decide : 1000 <= sizeLine) (Nat.le_add_right _ _))
theorem zkd {prog : Program} {w : World} {A : Around} {E : Value -> Shared -> Prop} {s : Shared} {it d : Addr} {i ep : Nat} {es : Array DictEntry} {od : Obj} {x : DictEntry} {Q : Option Value -> Shared -> Prop} (hit : s.heap.IsKeyIter it d i es.size ep) (hod : s.heap.get? d = some od) (hdd : od.data = .dict es ep) (hx : es[i]? = some x) (hQ : ∀ h' : Heap, h'.IsKeyIter it d (i + 1) es.size ep -> Heap.SameBut it s.heap h' -> Q (some x.key) { s with heap := h' }) : wpAny (model prog w) A (pyNext (.ref it)) Q E s := by
 obtain ⟨o, ho, hc, hd⟩ := id hit
 unfold pyNext
 refine zxD (wpAny_attempt (wpAny_callSpecial?_slot hit.typeIs F.slot_dict_keyiterator_next (zxR F.slot_dict_keyiterator_next hit.typeIs F.entry_dict_keyiterator_next (zxD (zxE (zxD (zxD (zxD (wpAny_typeNameOfWhole_keyiter hit.typeIs (zxE (zxD (wpAny_fieldsOf ho hd ?_))))))))))))
 rw [show List.take 4 (List.drop (if Builtin.Dict_items.ownsTuple "dict_keyiterator" = true then 2 else 0) #[Value.ref d, Value.int (i : Nat) 0, Value.int (es.size : Nat) 0, Value.int (ep : Nat) 0].toList) = [Value.ref d, Value.int (i : Nat) 0, Value.int (es.size : Nat) 0, Value.int (ep : Nat) 0] from rfl]
 show wpAny _ _ (if (Value.ref d == Value.none) = true then _ else _) _ _ _
 rw [if_neg (λ h => by cases h)]
 refine zxD (zxE (zxD (wpAny_dictEntries hod hdd ?_)))
 rw [if_neg (by simp)]
 refine zxD (zxE (zxD (wpAny_dictEpoch hod hdd ?_)))
 rw [if_neg (by simp)]
 refine zxE ?_
 show wpAny _ _ (match (if (i : Int) < 0 then none else es[(i : Int).toNat]?) with | some e => _ | none => _) _ _ _
 rw [if_neg (by omega), zyF, hx]
 refine zxD (zxD (wpAny_typeNameOfWhole_keyiter hit.typeIs (zxE (zxD (wpAny_isOneOf_keyiter hit.typeIs ?_)))))
 refine zxD (wpAny_setField ho hd (show 1 < 4 by decide) ?_)
 have hit' : (s.heap.update it (Obj.mapFields λ x => x.setIfInBounds 1 (rawInt ((i : Int) + 1)))).IsKeyIter it d (i + 1) es.size ep := by
  refine ⟨_, zxP _ ho (Obj.isFreed_of_fields (Obj.data_mapFields hd _)), (Obj.cls_mapFields o _).trans hc, ?_⟩
  rw [Obj.data_mapFields hd]
  rfl
 refine zxD (zxK (zxD (wpAny_isOneOf_keyiter hit'.typeIs (zxE (zxE ⟨_, rfl, zxE (hQ _ hit' (Heap.SameBut.update _ _ _))⟩)))))
theorem zmk {prog : Program} {w : World} {A : Around} {E : Value -> Shared -> Prop} {s : Shared} {it d : Addr} {i ep : Nat} {es : Array DictEntry} {od : Obj} {Q : Option Value -> Shared -> Prop} (hh : A.handled = none) (hit : s.heap.IsKeyIter it d i es.size ep) (hod : s.heap.get? d = some od) (hdd : od.data = .dict es ep) (hx : es[i]? = none) (hQ : ∀ h' : Heap, Heap.ExtBut it s.heap h' -> Q none { s with heap := h' }) : wpAny (model prog w) A (pyNext (.ref it)) Q E s := by
 obtain ⟨o, ho, hc, hd⟩ := id hit
 unfold pyNext
 refine zxD (wpAny_attempt (wpAny_callSpecial?_slot hit.typeIs F.slot_dict_keyiterator_next (zxR F.slot_dict_keyiterator_next hit.typeIs F.entry_dict_keyiterator_next (zxD (zxE (zxD (zxD (zxD (wpAny_typeNameOfWhole_keyiter hit.typeIs (zxE (zxD (wpAny_fieldsOf ho hd ?_))))))))))))
 rw [show List.take 4 (List.drop (if Builtin.Dict_items.ownsTuple "dict_keyiterator" = true then 2 else 0) #[Value.ref d, Value.int (i : Nat) 0, Value.int (es.size : Nat) 0, Value.int (ep : Nat) 0].toList) = [Value.ref d, Value.int (i : Nat) 0, Value.int (es.size : Nat) 0, Value.int (ep : Nat) 0] from rfl]
 show wpAny _ _ (if (Value.ref d == Value.none) = true then _ else _) _ _ _
 rw [if_neg (λ h => by cases h)]
 refine zxD (zxE (zxD (wpAny_dictEntries hod hdd ?_)))
 rw [if_neg (by simp)]
 refine zxD (zxE (zxD (wpAny_dictEpoch hod hdd ?_)))
 rw [if_neg (by simp)]
 refine zxE ?_
 show wpAny _ _ (match (if (i : Int) < 0 then none else es[(i : Int).toNat]?) with | some e => _ | none => _) _ _ _
 rw [if_neg (by omega), zyF, hx]
 refine zxD (zxD (wpAny_typeNameOfWhole_keyiter hit.typeIs (zxE ?_)))
 refine zxD (wpAny_setField ho hd (show 0 < 4 by decide) ?_)
 refine zxD ?_
 unfold newExc
 refine zxD (zxI (zxD (wpAny_of_eq (Eq.refl (firstArgMember (Value.type "StopIteration") [])) (zxI ?_ (sizeOk_excFields _ _ _ _ _ _ _ _)))) ?_)
 · unfold raiseNew
   refine zxD (wpAny_handled ?_)
   have hh' : A.in1.handled = none := hh
   rw [hh']
   refine zxD (zxE ?_)
   refine wpAny_throw (zxD (wpAny_isInstance ⟨_, zxH _ rfl, rfl⟩ isSubtype_stop (zxE (hQ _ λ b u hb e => zxF _ (zxF _ ?_)))))
   exact ((Heap.SameBut.update s.heap it _).2 b hb).trans e
 · exact Nat.zero_le _
def Itk (a : Addr) (o : Obj) (kvs : List (Key × V)) : It :=
 ⟨λ i H => H a = some (.frz o (.dK kvs)) /\ i < kvs.length, λ i H x H' => H' = H /\ (kvs.map λ p => kV p.1)[i]? = some x, λ i H => H a = some (.frz o (.dK kvs)) /\ kvs.length <= i⟩
end L2
namespace PF
open PySem PySem.Spec PyProof.Rows L2
section
variable {K : zC} {kd : KD} {F B : Addr -> Prop} {T : List Addr} {ad : Ad} {as : AS} {σ : St} {H : Hp} {i : Nat} {o : O} {v : V}
theorem zbG {a : Addr} : Gw (ad i) (xj ad i []) a ↔ Gw [] ad a := by
 constructor
 · rintro (z | ⟨j, z⟩)
   · exact .inr ⟨i, z⟩
   · by_cases e : j = i
     · subst e; rw [zM] at z; cases z
     · rw [zT e] at z; exact .inr ⟨j, z⟩
 · rintro (z | ⟨j, z⟩)
   · cases z
   · by_cases e : j = i
     · subst e; exact .inl z
     · exact .inr ⟨j, by rw [zT e]; exact z⟩
theorem Rel.mv (R : Rel K kd F B [] ad as σ H) (h : as[i]? = some (some o)) :
 Rel K kd F B (ad i) (xj ad i []) (as.set i none) σ H /\ ∃ v, σ[i]? = some (some v) /\ RoS K kd F B (Gw (ad i) (xj ad i [])) H v o (ad i) := by
 have hi : i < as.length := (zzD.mp h).1
 obtain ⟨v, hv, ro⟩ := R.sl i _ h
 refine ⟨⟨by rw [zzR]; exact R.len, λ j hj => ?_, λ j => ?_, λ j k a h1 h2 => ?_, R.nd i, λ j a h1 h2 => ?_, R.ftr, λ a h1 => ?_, λ a h1 => R.gtr a (zbG.mp h1), λ j s e => ?_⟩, v, hv, ro.less λ a z => zbG.mp z⟩
 · rw [zzR] at hj
   rw [zT (by omega)]; exact R.out j hj
 · by_cases e : j = i
   · subst e; rw [zM]; exact zyG
   · rw [zT e]; exact R.nd j
 · by_cases e : j = i
   · subst e; rw [zM] at h1; cases h1
   · rw [zT e] at h1
     by_cases e' : k = i
     · subst e'; rw [zM] at h2; cases h2
     · rw [zT e'] at h2; exact R.inj j k a h1 h2
 · by_cases e : j = i
   · subst e; rw [zM] at h1; cases h1
   · rw [zT e] at h1
     exact e (R.inj j i a h1 h2)
 · obtain ⟨b1, b2, b3⟩ := R.btr a h1
   exact ⟨b1, b2, λ z => b3 (zbG.mp z)⟩
 · by_cases q : j = i
   · subst q
     rw [zyH hi] at e
     cases e
     rw [zM]; exact (rfl : ([] : List Addr) = [])
   · rw [zzV (Ne.symm q)] at e
     rw [zT q]
     have := R.sl j s e
     cases s with
     | none => exact this
     | some o' =>
      obtain ⟨w, hw, rw'⟩ := this
      exact ⟨w, hw, rw'.less λ a z => zbG.mp z⟩
end
end PF
end
section
namespace L2
open PySem PySem.Spec PyProof.Rows
theorem zeB {P : Program} {w : World} : ∀ {kvs : List (Key × V)} {vs : List (Key × Value)} {es : List DictEntry}, KV kvs vs -> Pairs (yz P w) es vs -> es.length = kvs.length /\ ∀ (i : Nat) (k : Key), (kvs.map (·.1))[i]? = some k -> ∃ x : DictEntry, es[i]? = some x /\ RelV (kV k) x.key
 | _, _, _, .nil, .nil => ⟨rfl, λ i k h => by simp at h⟩
 | p :: kvs, q :: vs, e :: es, .cons h1 h2, .cons g1 g2 g3 => by
  obtain ⟨l, ih⟩ := zeB h2 g3
  refine ⟨congrArg (· + 1) l, λ i k hk => ?_⟩
  cases i with
  | zero =>
   simp at hk
   refine ⟨e, rfl, ?_⟩
   rw [<- hk, h1.1]
   rcases yQ (show zcF q.1 e.key = true from g1) with ⟨j, t, e1, e2⟩ | ⟨y, t, e1, e2⟩
   · rw [e1, e2]; exact ⟨t, rfl⟩
   · rw [e1, e2]; exact ⟨t, rfl⟩
  | succ i => exact ih i k (by simpa using hk)
theorem ziY {P : Program} {w : World} {H : Hp} {h : Heap} {a : Addr} {kvs : List (Key × V)} {u : HO} (hu : yI P w H h a (.dK kvs)) :
 (a == sysModules) = false /\ ∃ o es ep, h.get? a = some o /\ o.ExactDict /\ o.data = .dict es ep /\ es.size = kvs.length /\ ∀ (i : Nat) (k : Key), (kvs.map (·.1))[i]? = some k -> ∃ x : DictEntry, es[i]? = some x /\ RelV (kV k) x.key := by
 obtain ⟨_, y, vs, r, o, es, ep, h1, h2, h3, _, h4, _⟩ := hu
 obtain ⟨l, ks⟩ := zeB r h4
 refine ⟨y, o, es, ep, h1, h2, h3, by rw [<- zyQ]; exact l, λ i k hk => ?_⟩
 obtain ⟨x, hx, rx⟩ := ks i k hk
 exact ⟨x, by rw [<- Array.getElem?_toList]; exact hx, rx⟩
theorem zhl {P : Program} {w : World} {K : zC} {tg : Expr} {kvs : List (Key × V)} {o : Obj} {es : Array DictEntry} {ep : Nat} (a it : Addr) (hd : o.data = .dict es ep) (hz : es.size = kvs.length) (hk : ∀ (i : Nat) (k : Key), (kvs.map (·.1))[i]? = some k -> ∃ x : DictEntry, es[i]? = some x /\ RelV (kV k) x.key) : Turn P w K tg (Itk a o kvs) [it] it (λ i h => h.IsKeyIter it a i kvs.length ep) where
 mem := by simp
 obj := λ i h st b hb => by
  have e : b = it := by simpa using hb
  subst e
  obtain ⟨o, e, c, d⟩ := st
  exact ⟨o, e, λ v z => by rw [d] at z; cases z⟩
 keep := λ i h h' st k => st.at λ o e => k it (by simp) o e
 item := by
  intro X hP hw hK hc i pins s σ H E I hf st hg
  subst hP hw hK
  obtain ⟨e, hi⟩ := hg
  obtain ⟨h1, _⟩ := (show yI X.prog X.w H s.heap a (.frz o (.dK kvs)) from I.hok a _ e)
  have gk : (kvs.map (·.1))[i]? = some (kvs[i]).1 := by rw [zzF, zzB hi]; rfl
  obtain ⟨x, hx, kx⟩ := hk i _ gk
  obtain ⟨f0, f1, f2, f3, f4, f5⟩ := hf it (by simp)
  rw [<- hz] at st
  refine zkd st h1 hd hx λ h' st' sb => ?_
  rw [hz] at st'
  have I1 : Inv X pins σ H { s with heap := h' } := I.turned (t' := s.toks) (λ b o hb e => (sb.2 b hb).trans e) f0 f1 f3 f4 f5
  obtain ⟨o', e', c, d⟩ := id st'
  exact ⟨_, rfl, zhN (s := { s with heap := h' }) e' c d (by decide) ⟨kV (kvs[i]).1, H, I1, kx, ⟨rfl, by rw [zzF, zzB hi]; rfl⟩, st', λ b hb => (hf b hb).1⟩⟩
 done := by
  intro X hP hw hK hc i pins s σ H E I hf st hg
  subst hP hw hK
  obtain ⟨e, hi⟩ := hg
  obtain ⟨h1, _⟩ := (show yI X.prog X.w H s.heap a (.frz o (.dK kvs)) from I.hok a _ e)
  obtain ⟨f0, f1, f2, f3, f4, f5⟩ := hf it (by simp)
  rw [<- hz] at st
  exact zmk (I.ok.hd hc) st h1 hd (Array.getElem?_eq_none (by omega)) λ h' eb => ⟨rfl, I.turned (t' := s.toks) (λ b o hb e => eb b o hb e) f0 f1 f3 f4 f5⟩
 self := λ _ _ _ _ _ st h => wpAny_pyIter_keyiter st h
def zoA (i : Nat) : TI := λ σ H R => ∃ a kvs, σ[i]? = some (some (.ref a)) /\ H a = some (.dK kvs) /\ ∀ o, R (Itk a o kvs) (upd H a (.frz o (.dK kvs)))
theorem zfk {X : Cx} {tg l : Expr} {i : Nat} (hl : PE X l (Vh i)) : PI X tg l (zoA i) := by
 intro pins s σ H R I h
 obtain ⟨a, kvs, hs, hq, q⟩ := h
 refine thn (hl pins s σ H (λ v H1 => v = .ref a /\ H1 = H) I ⟨.ref a, hs, rfl, rfl⟩) λ v s1 ⟨x, H1, I1, r1, e1, e2⟩ => ?_
 subst e1 e2
 cases r1
 obtain ⟨hy, o, es, ep, h1, h2, h3, hz, hk⟩ := ziY (u := .dK kvs) (show yI X.prog X.w H1 s1.heap a (.dK kvs) from I1.hok a _ hq)
 refine W3 hy ⟨o, h1, h2.1⟩ h1 h3 ?_
 rw [hz]
 have kp : ∀ b u, s1.heap.get? b = some u -> (s1.heap.push { cls := .type "dict_keyiterator", data := .fields #[.ref a, .int 0 0, .int (kvs.length : Nat) 0, .int (ep : Nat) 0] }).get? b = some u := λ b u e => zxF _ e
 have I2 : Inv X pins σ (upd H1 a (.frz o (.dK kvs))) { s1 with heap := s1.heap.push { cls := .type "dict_keyiterator", data := .fields #[.ref a, .int 0 0, .int (kvs.length : Nat) 0, .int (ep : Nat) 0] } } := I1.write (t' := s1.toks) (by rw [hq]; exact True.intro) (.inl rfl) (λ b u _ e => kp b u e) ⟨o, kp a o h1⟩ ⟨kp a o h1, ?_⟩
 · refine ⟨s1.heap.objs.size, [s1.heap.objs.size], _, _, _, rfl, I2, zhl a _ h3 hz hk, ⟨_, zxH _ rfl, rfl, rfl⟩, λ b hb => ?_, q o⟩
   have e : b = s1.heap.objs.size := by simpa using hb
   subst e
   have ha : a ≠ s1.heap.objs.size := zzN (zxG h1)
   exact I1.fpOk (zzK _) (by rw [zQ (Ne.symm ha)]; exact I1.hok.fresh (zzK _))
 · obtain ⟨z1, z2, vs, z3, z4⟩ := (show yI X.prog X.w H1 s1.heap a (.dK kvs) from I1.hok a _ hq)
   obtain ⟨o', es', ep', y1, y2⟩ := z4
   exact ⟨z1, z2, vs, z3, o', es', ep', kp a o' y1, y2⟩
end L2
end
section
namespace PF
open PySem PySem.Spec PyProof.Rows L2
def iKO (i : Nat) : IF := λ as => match as[i]? with
 | some (some (.nd (.dc ks) os)) => if os.all O.isLf = true /\ O.strs os = true then some (ks.map λ k => (true, keyOf k), as.set i (some (.lf true (.dct (ks.zip (O.toDs os)))))) else none
 | _ => none
theorem zhO {K : zC} {kd : KD} {F B G : Addr -> Prop} {H : Hp} : ∀ {os : List O} {vs : List V} {fp : List Addr}, wY K kd F B G H vs os fp -> os.all O.isLf = true -> O.strs os = true -> fp = [] /\ RpL K kd (Lv F B G true) H vs (O.toDs os)
 | [], _, _, .nil, _, _ => ⟨rfl, .nil⟩
 | o :: os, _, _, .cons a r, h1, h2 => by
  cases o with
  | lf st d =>
   have h2' : (st && O.strs os) = true := h2
   rw [zzZ] at h2'
   have h1' : os.all O.isLf = true := h1
   obtain ⟨e, ih⟩ := zhO r h1' h2'.2
   cases a with
   | lf rp =>
    obtain ⟨rfl, _⟩ := h2'
    exact ⟨by rw [e]; rfl, .cons rp ih⟩
  | nd k os' => cases h1
theorem zfi {K : zC} {kd : KD} {O : Addr -> Prop} {H : Hp} : ∀ {ks : List Key} {vs : List V} {ds : List D}, ks.length = vs.length -> RpL K kd O H vs ds -> RpM K kd O H (ks.zip vs) (ks.zip ds)
 | [], _, _, _, _ => .nil
 | k :: ks, v :: vs, _, h, .cons a r => .cons a (zfi (by simpa using h) r)
theorem zji {X : Cx} {kd : KD} {tg : Expr} {i : Nat} {x : Str} {p : Pos} (hv : PE X (.Name x p) (Vh i)) : AI X kd tg (.Name x p) (iKO i) := by
 with_unfolding_all (
 intro pins s σ H R I h
 obtain ⟨F, B, ad, as, ds, as', Rl, e, q⟩ := h
 unfold iKO at e
 cases k0 : as[i]? with
 | none => rw [k0] at e; cases e
 | some s0 =>
  rw [k0] at e
  match s0, e, k0 with
  | some (.nd (.dc ks) os), e, k0 =>
   obtain ⟨⟨ha, hst⟩, e⟩ := ite_some' e
   cases e
   have hi : i < as.length := (zzD.mp k0).1
   obtain ⟨R1, v, hs, ro⟩ := Rl.mv k0
   have h0 : (xj ad i []) i = [] := zM
   generalize hT : ad i = T at R1 ro
   cases ro with
   | dc hH hl rl =>
    rename_i a vs fp
    obtain ⟨rfl, rp⟩ := zhO rl ha hst
    refine zfk hv pins s σ H R I ⟨a, _, hs, hH, λ o => ?_⟩
    obtain ⟨R2, g2⟩ := R1.wrT (u := .frz o (.dK (ks.zip vs))) (show a ∈ [a] by simp)
    have g1 : Grow (Gw [] ad) H (Gw [a] (xj ad i [])) H := Grow.less λ b z => by have := zbG (ad := ad) (i := i) (a := b); rw [hT] at this; exact this.mp z
    have nG : ¬ Gw [] (xj ad i []) a := λ z => by
     rcases z with z | ⟨j, z⟩
     · cases z
     · exact R1.dis j a z (by simp)
    have ga : Gw [] ad a := .inr ⟨i, by rw [hT]; simp⟩
    have nB : ¬ ((true = true /\ F a) \/ B a) := λ z => z.elim (λ y => (Rl.gtr a ga).2 y.2) λ y => (Rl.btr a y).2.2 ga
    have R3 := R2.drop
    have rp2 : RpL X.K kd (Lv F B (Gw [] (xj ad i [])) true) (upd H a (.frz o (.dK (ks.zip vs)))) vs (O.toDs os) := RpL.less (λ b z => z.elim .inl λ y => .inr (Gw.drop b y)) (RpL.grow g2 rp)
    have R4 := Rel.put (i := i) (v := .ref a) (o := .lf true (.dct (ks.zip (O.toDs os)))) R3 (by rw [zzR]; exact hi) (.lf (.dct (λ z => z.elim nB nG) (.inr ⟨o, yc⟩) (zfi hl rp2)))
    have es : σ.set i (some (.ref a)) = σ := List.ext_getElem? λ j => by
     by_cases e : j = i
     · subst e
       rw [zyH (zzD.mp hs).1, hs]
     · rw [zzV (Ne.symm e)]
    rw [List.set_set, es] at R4
    have le : ∀ b, Gw [] (xj (xj ad i []) i []) b -> Gw [] (xj ad i []) b := λ b z => by
     rcases z with z | ⟨j, z⟩
     · cases z
     · by_cases e : j = i
       · subst e; rw [zM] at z; cases z
       · rw [zT e] at z; exact .inr ⟨j, z⟩
    refine q (Itk a o (ks.zip vs)) _ _ R4 ((g1.trans g2).trans (Grow.less λ b z => Gw.drop b (le b z))) ⟨λ ad3 H3 g3 _ j => ?_⟩
    have h3 : H3 a = some (.frz o (.dK (ks.zip vs))) := g3.keep a _ yc λ z => nG (le a z)
    have hz : (ks.zip vs).length = ks.length := by rw [List.length_zip, hl, Nat.min_self]
    refine ⟨λ hj => ⟨h3, by rw [zD] at hj; omega⟩, λ hj => ⟨h3, by rw [zD] at hj; omega⟩, λ u H4 hy => ?_⟩
    obtain ⟨rfl, hu⟩ := hy
    refine ⟨λ _ _ z => z, λ x hx => ?_⟩
    have ek : (ks.zip vs).map (λ p => kV p.1) = ks.map kV := by
     rw [show (λ p : Key × V => kV p.1) = kV ∘ Prod.fst from rfl, <- zzY, List.map_fst_zip (by rw [hl]; exact zzK _)]
    rw [ek, zzF] at hu
    rw [zzF] at hx
    cases hk : ks[j]? with
    | none => rw [hk] at hu; cases hu
    | some k =>
     rw [hk] at hu hx
     cases hu
     cases hx
     cases k with
     | inl n => exact .int n
     | inr s => exact .str s
  | some (.nd .ls _), e, _ => cases e
  | some (.nd .tp _), e, _ => cases e
  | some (.nd (.ob _ _) _), e, _ => cases e
  | some (.nd (.fz _) _), e, _ => cases e
  | some (.lf _ _), e, _ => cases e
  | none, e, _ => cases e)
end PF
end
section
namespace L2
open PySem PySem.Spec PyProof.Rows
def ls (b : Nat) : List Nat := (List.range 8).filter b.testBit
def tbl (led : Bool) (l : List Nat) : SetTable := { mask := if l.length < 5 then 7 else 31, place := l.toArray, dummies := #[], finger := 0, led := led, moves := if l.length < 5 then 0 else 1, plain := true }
def zaq (led : Bool) (l : List Nat) : SetTable := { mask := if l.length < 6 then 7 else 31, place := l.toArray, dummies := #[], finger := 0, led := led, moves := if l.length < 6 then 0 else 1, plain := true }
theorem zqg : ∀ led : Bool, ∀ b, b < 256 -> ∀ v : Nat, v < 8 -> b.testBit v = false -> (tbl led (ls b)).freeSlot (v : Int) = some (v, false) := by decide +kernel
theorem zmW : ∀ b, b < 256 -> ∀ v, v < 8 -> b.testBit v = false -> (ls b).take (SetTable.below (ls b).toArray v) ++ v :: (ls b).drop (SetTable.below (ls b).toArray v) = ls (b ||| 2 ^ v) := by decide +kernel
theorem Xr : ∀ b, b < 256 -> ∀ v, v < 8 -> (b.testBit v = true -> b ||| 2 ^ v = b) /\ b ||| 2 ^ v < 256 /\ (b.testBit v = false -> (ls (b ||| 2 ^ v)).length = (ls b).length + 1) /\ (ls b).length <= 8 /\ (v ∈ ls b ↔ b.testBit v = true) := by decide +kernel
theorem zpO : ∀ led : Bool, ∀ b, b < 256 -> (ls b).length = 5 -> SetTable.laid 31 0 1 led true ((ls b).map Int.ofNat).toArray = some (tbl led (ls b), (List.range 5).toArray) := by decide +kernel
theorem zpu : ∀ b, b < 256 -> ∀ i, i < (ls b).length -> SetTable.below (ls b).toArray (match i with | 0 => 0 | j + 1 => (ls b).getD j 0 + 1) = i := by decide +kernel
theorem zpA : ∀ b, b < 256 -> SetTable.below (ls b).toArray (match (ls b).length with | 0 => 0 | j + 1 => (ls b).getD j 0 + 1) = (ls b).length := by decide +kernel
theorem zqI : ∀ led : Bool, ∀ b, b < 256 -> ((ls b).length = 5 /\ (zaq led (ls b)).tooFull = true) \/ (zaq led (ls b) = tbl led (ls b) /\ (zaq led (ls b)).tooFull = false) := by decide +kernel
theorem zdr : ∀ led : Bool, ∀ b, b < 256 -> (tbl led (ls b)).fits (ls b).length = true /\ (zaq led (ls b)).fits (ls b).length = true := by decide +kernel
theorem zjH : ∀ v : Nat, v < 8 -> hashInt v = (v : Int) := by decide +kernel
def Xz (h : Heap) (a : Addr) (led : Bool) (b : Nat) : Prop := ∃ o es ep, h.get? a = some o /\ o.ExactSet /\ o.data = .set es ep (tbl led (ls b)) /\ es.toList.map Prod.fst = (ls b).map Int.ofNat /\ ∀ e ∈ es.toList, ∃ tk, e.2 = .int e.1 tk
end L2
namespace L2
open PySem PySem.Spec PyProof.Rows
section
variable {es : Array (Int × Value)} {led : Bool} {b v : Nat} {x : Value}
theorem Wm (h : es.toList.map Prod.fst = (ls b).map Int.ofNat) : es.size = (ls b).length := by
 have := congrArg List.length h
 rwa [zD, zD, zyQ] at this
theorem zoz (h : es.toList.map Prod.fst = (ls b).map Int.ofNat) (hb : b < 256) (hv : v < 8) (hn : b.testBit v = false) :
 ∃ es', layNew (tbl led (ls b)) es (v : Int) x = (es', zaq led (ls (b ||| 2 ^ v)), false, false) /\ es'.toList.map Prod.fst = (ls (b ||| 2 ^ v)).map Int.ofNat /\ List.Perm es'.toList (es.toList ++ [((v : Int), x)]) := by
 have hp : (SetTable.insertAt es (SetTable.below (ls b).toArray v) ((v : Int), x)).toList.map Prod.fst = (ls (b ||| 2 ^ v)).map Int.ofNat := by
  rw [SetTable.toList_insertAt, <- zmW b hb v hv hn, zyJ, zyJ, zyP, zyP, List.map_take, List.map_drop, List.map_take, List.map_drop, h]; rfl
 have hz : (SetTable.insertAt es (SetTable.below (ls b).toArray v) ((v : Int), x)).size = (ls (b ||| 2 ^ v)).length := Wm hp
 have ht : (tbl led (ls b)).put v = (zaq led (ls (b ||| 2 ^ v)), SetTable.below (ls b).toArray v) := by
  have e : SetTable.insertAt (ls b).toArray (SetTable.below (ls b).toArray v) v = (ls (b ||| 2 ^ v)).toArray := by
   rw [<- zmW b hb v hv hn]
   refine Array.ext' ?_
   rw [SetTable.toList_insertAt]
  have el := (Xr b hb v hv).2.2.1 hn
  unfold SetTable.put tbl zaq
  dsimp only
  rw [e, el]
  have q : ((ls b).length + 1 < 6) = ((ls b).length < 5) := propext ⟨λ h => by omega, λ h => by omega⟩
  simp only [q]
  rfl
 refine ⟨_, ?_, hp, by have := SetTable.insertAt_perm es (SetTable.below (ls b).toArray v) ((v : Int), x); rwa [Array.toList_push] at this⟩
 have f8 := (zdr led _ (Xr b hb v hv).2.1).2
 unfold layNew
 rw [zqg led b hb v hv hn]
 dsimp only
 rw [ht]
 dsimp only
 rw [hz]
 unfold SetTable.orStandIn
 rw [f8]
 rfl
theorem zjq (h : es.toList.map Prod.fst = (ls b).map Int.ofNat) (hb : b < 256) (h5 : (ls b).length = 5) :
 relayAll (zaq led (ls b)) es (SetTable.grown es.size) = (es, tbl led (ls b), false) := by
 have hz : es.size = 5 := (Wm h).trans h5
 have e1 : (zaq led (ls b)).relaid (es.map (·.1)) (SetTable.grown es.size) = some (tbl led (ls b), (List.range 5).toArray) := by
  rw [<- zpO led b hb h5, hz]
  have e2 : es.map (·.1) = ((ls b).map Int.ofNat).toArray := by
   refine Array.ext' ?_
   rw [Array.toList_map]; exact h
  rw [e2]
  unfold SetTable.relaid zaq
  rw [h5]
  rfl
 unfold relayAll
 rw [e1]
 dsimp only
 have e3 : (List.range 5).toArray.filterMap (es[·]?) = es := by
  refine Array.ext' ?_
  rw [Array.toList_filterMap]
  show (List.range 5).filterMap (λ i => es[i]?) = es.toList
  rw [<- hz]
  exact filterMap_getElem?_range es
 rw [e3, hz]
 have f8 := (zdr led b hb).1
 rw [h5] at f8
 rw [f8, show coversAll (List.range 5).toArray 5 = true by decide +kernel]
 rfl
end
section
variable {prog : Program} {w : World} {A : Around} {E : Value -> Shared -> Prop} {s : Shared} {a : Addr} {led : Bool} {b v : Nat} {tk : Tok}
theorem zkR {es : List (Int × Value)} (hf : es.map Prod.fst = (ls b).map Int.ofNat) (ht : ∀ e ∈ es, ∃ tk, e.2 = .int e.1 tk) : ElemsOf (intKind prog w) es := λ e he => by
 obtain ⟨t, h⟩ := ht e he
 have : e.1 ∈ (ls b).map Int.ofNat := by rw [<- hf]; exact zxB.mpr ⟨e, he, rfl⟩
 obtain ⟨n, hn, hn'⟩ := zxB.mp this
 have h8 : n < 8 := List.mem_range.mp (List.mem_filter.mp hn).1
 exact ⟨⟨e.1, by rw [h]; exact intKind_is _ _ _ _, by rw [<- hn']; exact (zjH n h8).symm⟩, by rw [h]; rfl⟩
theorem zeK {h : Heap} {o : Obj} {es : Array (Int × Value)} {ep : Nat} {t : SetTable} (ho : h.get? a = some o) (hd : o.data = .set es ep t) (es' : Array (Int × Value)) (t' : SetTable) :
 (h.update a (Obj.putSet es' t')).get? a = some { o with data := .set es' (ep + 1) t' } := by
 have := zxP (Obj.putSet es' t') ho (by rw [putSet_of es' t' hd]; rfl)
 rwa [putSet_of es' t' hd] at this
theorem zou {Q : Bool -> Shared -> Prop} (hb : b < 256) (hv : v < 8) (hS : Xz s.heap a led b)
 (h : ∀ r h', Heap.SameBut a s.heap h' -> Xz h' a led (b ||| 2 ^ v) -> Q r { s with heap := h' }) :
 wpAny (model prog w) A (setAddHashed a (.int v tk) v) Q E s := by
 obtain ⟨o, es, ep, ho, hex, hd, hf, ht⟩ := hS
 have hel : ElemsOf (intKind prog w) es.toList := zkR hf ht
 have hz := Wm hf
 have h8 := (Xr b hb v hv).2.2.2.1
 have hfit : (tbl led (ls b)).fits es.size = true := by rw [hz]; exact (zdr led b hb).1
 have hkey : (intKind prog w).is v (.int v tk) = true := intKind_is _ _ _ _
 unfold setAddHashed setAddHashedIn
 refine zxK (zxD (wpAny_setState_of ho hd hfit ?_))
 dsimp only
 rw [byScan_of (x := .int v tk) rfl (by rw [hz]; unfold scanBound; omega) hel]
 simp only [↓reduceIte]
 unfold setAddByScan
 refine zxD ?_
 refine zxD (wpAny_rule ?_)
 have hh : (v : Int) = (intKind prog w).hash v := (zjH v hv).symm
 rw [show setScan a (.int v tk) (v : Int) true es = setScan a (.int v tk) ((intKind prog w).hash v) true es from congrArg (λ h => setScan a (.int v tk) h true es) hh]
 refine zxD (wpAny_setScan_of hkey ho hd hfit hel ?_)
 have mem : ∀ e ∈ es.toList, (intKind prog w).is v e.2 = true -> b.testBit v = true := λ e he hi => by
  obtain ⟨t, h⟩ := ht e he
  rw [h] at hi
  have e1 : e.1 = v := by simpa [intKind, Value.isInt] using hi
  have : (v : Int) ∈ (ls b).map Int.ofNat := by rw [<- hf, <- e1]; exact zxB.mpr ⟨e, he, rfl⟩
  obtain ⟨n, hn, hn'⟩ := zxB.mp this
  have : n = v := by exact Int.ofNat.inj hn'
  subst this
  exact ((Xr b hb n hv).2.2.2.2).mp hn
 cases hr : List.findIdx? (λ e => (intKind prog w).is v e.2) es.toList with
 | some j =>
  dsimp only
  obtain ⟨hj, hpj, _⟩ := List.findIdx?_eq_some_iff_getElem.mp hr
  have hT := mem _ (zyX hj) hpj
  refine zxE (zxE ?_)
  have := h false s.heap (Heap.SameBut.refl a s.heap) (by rw [(Xr b hb v hv).1 hT]; exact ⟨o, es, ep, ho, hex, hd, hf, ht⟩)
  cases s; exact this
 | none =>
  dsimp only
  have hn : b.testBit v = false := by
   cases hk : b.testBit v with
   | false => rfl
   | true =>
    have : (v : Int) ∈ es.toList.map Prod.fst := by rw [hf]; exact zxB.mpr ⟨v, ((Xr b hb v hv).2.2.2.2).mpr hk, rfl⟩
    obtain ⟨e, he, he1⟩ := zxB.mp this
    obtain ⟨t, h2⟩ := ht e he
    have h3 := List.findIdx?_eq_none_iff.mp hr e he
    rw [h2, he1] at h3
    rw [intKind_is] at h3
    cases h3
  obtain ⟨es1, hl, hf1, hp⟩ := zoz (led := led) (x := .int v tk) hf hb hv hn
  rw [hl]
  dsimp only
  have ht1 : ∀ e ∈ es1.toList, ∃ tk, e.2 = .int e.1 tk := λ e he => by
   rcases zzJ.mp (hp.mem_iff.mp he) with q | q
   · exact ht e q
   · rw [zzO.mp q]; exact ⟨_, rfl⟩
  have hb1 := (Xr b hb v hv).2.1
  have hz1 : es1.size <= 8 := by rw [Wm hf1, (Xr b hb v hv).2.2.1 hn, <- hz, <- zyQ]; have := hp.length_eq; rw [zzG] at this; have := (Xr _ hb1 v hv).2.2.2.1; have := Wm hf1; rw [<- zyQ] at this; simp at *; omega
  have hsz : es1.size <= sizeLine := by rw [sizeLine_eq]; omega
  refine zxD (zxE (a := ()) ?_)
  rw [show (zaq led (ls (b ||| 2 ^ v))).plain = true from rfl]
  simp only [↓reduceIte]
  refine zxD ?_
  rw [hashByValue_scannable 8 (x := .int v tk) rfl]
  refine zxE ?_
  rw [show plainKind (.int v tk) = true from rfl]
  simp only [↓reduceIte]
  refine zxD (wpAny_storeSet_of ho hd ?_ hsz)
  have ho1 := zeK ho hd es1 (zaq led (ls (b ||| 2 ^ v)))
  have hsb1 := Heap.SameBut.update s.heap a (Obj.putSet es1 (zaq led (ls (b ||| 2 ^ v))))
  rcases zqI led _ hb1 with ⟨h5, hF⟩ | ⟨hE, hF⟩
  · rw [hF]
    simp only [Bool.not_false, Bool.and_self, ↓reduceIte]
    rw [zjq hf1 hb1 h5]
    dsimp only
    refine zxD (zxE (a := ()) ?_)
    refine zxD (wpAny_storeSet_of ho1 rfl ?_ hsz)
    refine zxE (zxE (h true _ (hsb1.trans (Heap.SameBut.update _ a _)) ⟨_, es1, _, zeK ho1 rfl es1 (tbl led (ls (b ||| 2 ^ v))), hex, rfl, hf1, ht1⟩))
  · rw [hF]
    simp only [Bool.and_false, Bool.false_eq_true, ↓reduceIte]
    rw [hE] at ho1 hsb1 ⊢
    exact zxE (zxE (h true _ hsb1 ⟨_, es1, _, ho1, hex, rfl, hf1, ht1⟩))
end
def vb (val : Nat -> Nat) : Nat -> Nat
 | 0 => 0
 | i + 1 => vb val i ||| 2 ^ val i
theorem zqK : ls 0 = [] := by decide +kernel
theorem zks {val : Nat -> Nat} {n : Nat} (h : ∀ i, i < n -> val i < 8) : ∀ i, i <= n -> vb val i < 256
 | 0, _ => by show 0 < 256; decide
 | i + 1, hi => (Xr _ (zks h i (Nat.le_of_succ_le hi)) _ (h i hi)).2.1
section
variable {prog : Program} {w : World} {A : Around} {R : Result -> Shared -> Prop} {I : Addr} {fp wr : List Addr} {G : Array GenState -> Array GenState -> Prop} {n : Nat} {P : Nat -> Value -> Prop} {St : Nat -> Shared -> Prop}
theorem Xz.keep {h h' : Heap} {a : Addr} {led : Bool} {b : Nat} (hS : Xz h a led b) (hk : ∀ o, h.get? a = some o -> h'.get? a = some o) : Xz h' a led b := by
 obtain ⟨o, es, ep, ho, r⟩ := hS
 exact ⟨o, es, ep, hk o ho, r⟩
theorem zcu (W : WalksS prog w A.in1 I fp wr G n P St) {S : Addr} (hSf : S ∉ fp) {led : Bool} {val : Nat -> Nat} (hval : ∀ i v, P i v -> ∃ t, v = .int (val i) t) (h8 : ∀ i, i < n -> val i < 8) :
 ∀ (k i : Nat) (s : Shared), n - i = k -> i <= n -> St i s -> Xz s.heap S led (vb val i) ->
  (∀ s', Moved (S :: wr) G s s' -> Xz s'.heap S led (vb val n) -> R (.ok (.ret .none)) s') ->
  codeAny (model prog w) A (.builtin "set.update.loop" ⟨[.ref S, .ref I], []⟩) R s := by
 have hSw : S ∉ wr := λ h => hSf (W.sub _ h)
 have hsub : ∀ b ∈ wr, b ∈ S :: wr := λ b hb => zzA _ hb
 intro k
 induction k with
 | zero =>
  intro i s hk hi hst hS hR
  have hin : i = n := by omega
  subst hin
  refine zxM F.entry_set_update_loop ?_
  rw [zxJ F.plain_set_update_loop _]
  show wpAny _ A.in1 (pyNext (.ref I) >>= _) _ _ s
  refine zxD (W.done s _ _ hst λ s' hm => ?_)
  exact zxE (hR s' (hm.mono hsub) (hS.keep λ o => hm.heap S _ hSw))
 | succ k ih =>
  intro i s hk hi hst hS hR
  have hlt : i < n := by omega
  refine zxM F.entry_set_update_loop ?_
  rw [zxJ F.plain_set_update_loop _]
  show wpAny _ A.in1 (pyNext (.ref I) >>= _) _ _ s
  refine zxD (W.item i s _ _ hlt hst λ v s' hP hst' hm => ?_)
  obtain ⟨t, rfl⟩ := hval i v hP
  show wpAny _ A.in1 (holding [Value.int (val i) t] (setAdd S (.int (val i) t)) >>= _) _ _ s'
  refine zxD (zxK ?_)
  unfold setAdd
  refine zxK (zxD ((intKind prog w).pyHash (k := val i) (intKind_is _ _ _ _) ?_))
  rw [show (intKind prog w).hash (val i : Int) = (val i : Int) from zjH _ (h8 i hlt)]
  refine zou (s := { s' with toks := s'.toks + 1 }) (led := led) (zks h8 i (Nat.le_of_lt hlt)) (h8 i hlt) (hS.keep λ o => hm.heap S _ hSw) λ r h' hsb hS2 => ?_
  refine zxE ⟨zxN F.plain_set_update_loop _, ih (i + 1) _ (by omega) hlt (W.frame _ s' _ _ hst' (zyU _) λ b hb o e => ?_) hS2 λ s'' hm'' hS'' => ?_⟩
  · rw [hsb.2 b (λ h : b = S => hSf (by rw [<- h]; exact hb))]; exact e
  · refine hR s'' (Moved.trans W.gtrans ((hm.mono hsub).then_heap (zyU _) λ b o hb e => ?_) hm'') hS''
    rw [hsb.2 b (λ h : b = S => hb (by rw [h]; exact zzC))]; exact e
end
section
variable {prog : Program} {w : World} {A : Around} {E : Value -> Shared -> Prop} {s : Shared}
def Zg (w : World) : Bool := !w.params.followText "set-order"
abbrev Yk (w : World) : Obj := { cls := .type "set", dict := none, data := .set #[] 0 (.fresh 0 0 (Zg w)) }
theorem zkZ (a : Value) {Q : Value -> Shared -> Prop} (h : Q (.ref s.heap.objs.size) { s with heap := s.heap.push (Yk w) }) :
 codeAny (model prog w) A (.call (.builtin "set.__new__") ⟨[.type "set", a], []⟩) (wants Q E) s := by
 refine codeAny_of_tree ?_
 show wpAny _ A.in1 (do checkBuiltinCall "set.__new__" ⟨[.type "set", a], []⟩; again (.builtin "set.__new__" ⟨[.type "set", a], []⟩)) _ _ s
 refine zxD (wpAny_of_eq (F.newCall_set_1 a) (zxE ⟨zxN F.plain_set_new _, zxM F.entry_set_new ?_⟩))
 rw [zxJ F.plain_set_new _]
 unfold Builtin.«set.__new__» Builtin.Frozenset.newClass
 have hsub := sub_set_self
 obtain ⟨hp, g, d, tk, os⟩ := s
 dsimp only
 wp_walk
 refine wpAny_askSetting (zxE ?_)
 dsimp only
 simp only [newObj]
 refine zxD (wpAny_alloc (zxE ?_))
 exact zxE h
set_option maxHeartbeats 3200000 in
theorem zqr {l : Addr} {items : Array Value} {val : Nat -> Nat} {Q : Value -> Shared -> Prop}
 (hh : A.handled = none) (hl : s.heap.IsList l items) (hv : ∀ i (v : Value), items[i]? = some v -> ∃ t, v = .int (val i) t) (h8 : ∀ i, i < items.size -> val i < 8)
 (h : ∀ (h' : Heap) (tk : Nat), Xz h' s.heap.objs.size (Zg w) (vb val items.size) -> (∀ b o, s.heap.get? b = some o -> h'.get? b = some o) -> Q (.ref s.heap.objs.size) { s with heap := h', toks := tk }) :
 wpAny (model prog w) A (call (.type "set") [.ref l]) Q E s := by
 obtain ⟨c, tl, hmro⟩ := F.called_set.mro
 have hmade := F.called_set.made
 have hsub := F.called_set.sub
 refine wpAny_call (codeAny_of_tree ?_)
 show wpAny _ _ (callAny (.type "set") _) _ _ _
 refine zxE ⟨Code.quiet_builtin _ (by decide +kernel), zxM F.entry_type_call ?_⟩
 rw [Around.under_plain (weight_type_call_type "set" [.ref l] []) rfl]
 have h1 := F.called_set.notType
 have h2 := F.called_set.canCreate
 have hct := F.typeCall_set_1 (.ref l)
 repeat (any_goals (first | assumption | wp_step))
 refine codeAny_mono (zkZ (.ref l) (E := E) (Q := λ obj s₁ => obj = .ref s.heap.objs.size /\ s₁ = { s with heap := s.heap.push (Yk w) }) ⟨rfl, rfl⟩) λ r s₁ hr => ?_
 cases r with
 | error e => exact hr
 | ok fl =>
  cases fl with
  | ret obj =>
   obtain ⟨rfl, rfl⟩ := hr
   have hS : (s.heap.push (Yk w)).get? s.heap.objs.size = some (Yk w) := zxH _ rfl
   have hT : Shared.TypeIs { s with heap := s.heap.push (Yk w) } (.ref s.heap.objs.size) "set" := ⟨_, hS, rfl⟩
   have hli := F.called_set.init.lookup
   have hbi := F.called_set.init.bind (.ref s.heap.objs.size)
   repeat (any_goals (first | assumption | wp_step))
   refine codeAny_mono (codeAny_call_builtin (R := wants (λ r s₂ => r = .none /\ ∃ h' tk, s₂ = { s with heap := h', toks := tk } /\
    Xz h' s.heap.objs.size (Zg w) (vb val items.size) /\ (∀ b o, s.heap.get? b = some o -> h'.get? b = some o)) E) F.called_set.init.plain F.entry_set_init (check_set_init_1 hT ?_)) λ r₂ s₂ hr₂ => ?_
   · obtain ⟨ol, hol, hcl, nl, hdl⟩ := hl
     obtain ⟨ocls, odict, odata, oslots⟩ := ol
     simp only at hcl hdl
     subst hcl; subst hdl
     have hol' : (s.heap.push (Yk w)).get? l = some { cls := .type "list", dict := odict, data := .seq items nl, slots := oslots } := zxF _ hol
     have hsls := F.sub_list_set
     have hslf := F.sub_list_frozenset
     have hne : (Value.type "list" == Value.type "dict") = false := by decide
     have hl1 : (s.heap.push (Yk w)).IsList l items := ⟨_, hol', rfl, nl, rfl⟩
     unfold Builtin.«set.__init__» noKeywords Builtin.Frozenset.updateFrom
     generalize hPI : pyIter = PI
     wp_walk
     subst hPI
     refine wpAny_pyIter_list hl1 ?_
     refine zxD (wpAny_runValue ?_)
     have hlS : l < s.heap.objs.size := zxG hol
     have hh3 : A.in1.in1.in1.handled = none := by simp [hh]
     have hneI : l ≠ (s.heap.push (Yk w)).objs.size := by rw [zxO]; exact zzN (zyY hlS)
     have hSf : s.heap.objs.size ∉ [(s.heap.push (Yk w)).objs.size, l] := by
      rw [zxO]; simp only [zS, zzO, zyZ, or_false, not_or]
      exact ⟨zzN (Nat.lt_succ_self _), Nat.ne_of_gt hlS⟩
     refine zcu (led := Zg w) ((Walks.list hh3 _ l hneI items).toS) hSf hv h8 (items.size - 0) 0 _ (by omega) (Nat.zero_le _) ⟨⟨_, zxH _ rfl, rfl, rfl⟩, (hl1.push _)⟩
      ⟨Yk w, #[], 0, zxF _ hS, ⟨rfl, rfl, rfl⟩, (by show _ = Data.set #[] 0 (tbl (Zg w) (ls 0)); rw [zqK]; rfl), (by show [] = List.map Int.ofNat (ls 0); rw [zqK]; rfl), λ e he => by simp at he⟩ λ s' hm hS' => ?_
     obtain ⟨h', g', d', tk', os'⟩ := s'
     have eg : g' = s.gens := hm.gens
     have ed : d' = s.drawn := hm.drawn
     have eo : os' = s.os := hm.os
     subst eg; subst ed; subst eo
     show wpAny _ _ _ _ _ _
     refine zxE ?_
     show wpAny _ _ (ret Value.none) _ _ _
     refine zxE ⟨rfl, h', tk', rfl, hS', λ b o e => hm.heap b o ?_ (zxF _ (zxF _ e))⟩
     have hb := zxG e
     simp only [zS, zzO, zyZ, or_false, not_or]
     exact ⟨zzN hb, by rw [zxO]; exact zzN (zyY hb)⟩
   · cases r₂ with
     | error e => exact hr₂
     | ok fl₂ =>
      cases fl₂ with
      | ret r =>
       obtain ⟨rfl, h', tk, rfl, hS', hk'⟩ := hr₂
       repeat (any_goals (first | assumption | wp_step))
       exact h _ _ hS' hk'
      | _ => exact hr₂.elim
  | _ => exact hr.elim
end
theorem ZD : Slot "set_iterator" "__next__" "set_iterator.__next__" :=
 .of (owner := "set_iterator") (n := "__next__") (by rw [typeLookup_type, builtinLookup_eq_fast]; kernel_rfl) (by decide +kernel) (by decide +kernel) (by decide +kernel) (by first | exact .inl (by decide +kernel) | exact .inr (by decide +kernel)) (by rw [isSubtype_type]; kernel_rfl)
theorem zcN : entryFor table "set_iterator.__next__" = some Builtin.«set_iterator.__next__» := entryFor_of_tree (by kernel_rfl)
theorem zek (a : Value) : argsOk "set_iterator.__next__" ⟨[a], []⟩ := by unfold argsOk; kernel_rfl
theorem V2 : Slot "set_iterator" "__iter__" "set_iterator.__iter__" :=
 .of (owner := "set_iterator") (n := "__iter__") (by rw [typeLookup_type, builtinLookup_eq_fast]; kernel_rfl) (by decide +kernel) (by decide +kernel) (by decide +kernel) (by first | exact .inl (by decide +kernel) | exact .inr (by decide +kernel)) (by rw [isSubtype_type]; kernel_rfl)
theorem zcP : entryFor table "set_iterator.__iter__" = some Builtin.«dict_keyiterator.__iter__» := entryFor_alias (id' := "dict_keyiterator.__iter__") (by kernel_rfl) rfl (by decide +kernel) (by kernel_rfl)
theorem zee (a : Value) : argsOk "set_iterator.__iter__" ⟨[a], []⟩ := by unfold argsOk; kernel_rfl
theorem zcb : entryFor table "set.__iter__" = some Builtin.«frozenset.__iter__» := entryFor_alias (id' := "frozenset.__iter__") (by kernel_rfl) rfl (by decide +kernel) (by kernel_rfl)
theorem zha {α : Type} {next : Nat -> Nat} : ∀ (f k : Nat) (l : List α) (out : Array α), l.length <= f -> List.Perm (pickOrder.go next f k l out).toList (out.toList ++ l)
 | 0, k, l, out, h => by
  have : l = [] := List.length_eq_zero_iff.mp (by omega)
  subst this
  rw [zyB]; exact .refl _
 | f + 1, k, [], out, h => by rw [zyB]; exact .refl _
 | f + 1, k, x :: l, out, h => by
  have hi : next k % (x :: l).length < (x :: l).length := Nat.mod_lt _ (by simp)
  unfold pickOrder.go
  rw [zzB hi]
  dsimp only
  refine (zha f (k + 1) _ _ (by rw [List.length_eraseIdx_of_lt hi]; simp at h ⊢; omega)).trans ?_
  rw [Array.toList_push, zxA]
  refine List.Perm.append_left _ ?_
  rw [List.eraseIdx_eq_take_drop_succ]
  refine (show List.Perm ((x :: l)[next k % (x :: l).length] :: ((x :: l).take (next k % (x :: l).length) ++ (x :: l).drop (next k % (x :: l).length + 1))) _ from List.perm_middle.symm).trans ?_
  rw [<- zyN hi, List.take_append_drop]
theorem zhU {α : Type} (next : Nat -> Nat) (xs : Array α) : List.Perm (pickOrder next xs).toList xs.toList := by
 have := zha (next := next) xs.size 0 xs.toList #[] (by rw [zyQ]; exact zzK _)
 rw [List.nil_append] at this
 exact this
def YT (w : World) (a ep : Nat) (es : Array (Int × Value)) : Array (Int × Value) := if w.params.followText "set-order" = true then pickOrder (w.params.setOrder a ep) es else es
theorem X8 (w : World) (a ep : Nat) (es : Array (Int × Value)) : List.Perm (YT w a ep es).toList es.toList := by
 unfold YT
 split
 · exact zhU _ _
 · exact .refl _
def sl (w : World) (b i : Nat) : Nat := if w.params.followText "set-order" = true then 0 else match i with | 0 => 0 | j + 1 => (ls b).getD j 0 + 1
abbrev WF (f i a n ep : Nat) : Obj := { cls := .type "set_iterator", data := .fields #[.int f 0, .int i 0, .ref a, .int n 0, .int ep 0] }
section
variable {prog : Program} {w : World} {A : Around} {E : Value -> Shared -> Prop} {s : Shared} {a I : Addr} {b i ep : Nat} {o : Obj} {es : Array (Int × Value)}
theorem zkP {Q : Value -> Shared -> Prop} (ho : s.heap.get? a = some o) (hex : o.ExactSet) (hd : o.data = .set es ep (tbl (Zg w) (ls b))) (hf : (tbl (Zg w) (ls b)).fits es.size = true)
 (h : Q (.ref s.heap.objs.size) { s with heap := s.heap.push (WF 0 0 a es.size ep) }) : wpAny (model prog w) A (pyIter (.ref a)) Q E s := by
 have hT : s.TypeIs (.ref a) "set" := ⟨o, ho, hex.1⟩
 refine wpAny_pyIter_slot hT F.slot_set_iter (zxR F.slot_set_iter hT zcb ?_ (F.args_set_iter_1 _))
 unfold Builtin.«frozenset.__iter__»
 refine zxD ?_
 refine (show wpAny _ _ (pure a) _ _ s from zxE ?_)
 refine zxD ?_
 unfold Builtin.Frozenset.sizeOf
 refine zxD (wpAny_setEntries_of ho hd hf (zxE ?_))
 refine zxD ?_
 unfold setDrawn
 refine zxD (wpAny_setState_of ho hd hf ?_)
 dsimp only
 unfold setsByText
 refine zxD (zxD (wpAny_askSetting (zxE ?_)))
 refine zxE ?_
 rw [if_neg (by intro h; rw [zzZ] at h; cases h.2)]
 refine zxD (zxE ?_)
 refine zxD (wpAny_setEpoch_of ho hd hf ?_)
 refine zxD (zxI (zxE ⟨_, rfl, "set_iterator", _, ⟨_, zxH _ rfl, rfl⟩, ZD.lookup, h⟩) ?_)
 show (#[rawInt 0, rawInt 0, Value.ref a, rawInt es.size, rawInt ep] : Array Value).size <= sizeLine + 2
 exact zzL (show 5 <= 1000 by decide) (zzL (by decide : 1000 <= sizeLine) (Nat.le_add_right _ _))
theorem zlQ {Q : Option (Value × Nat) -> Shared -> Prop} (hb : b < 256) (ho : s.heap.get? a = some o) (hd : o.data = .set es ep (tbl (Zg w) (ls b))) (hz : es.size = (ls b).length) (hi : i <= es.size)
 (h : Q ((YT w a ep es)[i]?.map λ e => (e.2, sl w b (i + 1))) s) : wpAny (model prog w) A (setNext a (sl w b i) i ep) Q E s := by
 have hf : (tbl (Zg w) (ls b)).fits es.size = true := by rw [hz]; exact (zdr _ b hb).1
 unfold setNext
 refine zxD (wpAny_setState_of ho hd hf ?_)
 dsimp only
 unfold setsByText
 refine zxD (zxD (wpAny_askSetting (zxE ?_)))
 show wpAny _ _ (if w.params.followText "set-order" = true then _ else _) _ _ _
 cases hw : w.params.followText "set-order" with
 | true =>
  rw [if_pos rfl, if_neg (by simp)]
  unfold setWalk
  refine zxD (zxD (wpAny_setState_of ho hd hf ?_))
  dsimp only
  unfold setsByText
  refine zxD (zxD (wpAny_askSetting (zxE ?_)))
  show wpAny _ _ (if w.params.followText "set-order" = true then _ else _) _ _ _
  rw [if_pos hw]
  refine zxD (wpAny_askSetting (zxE (zxE ?_)))
  have e : (YT w a ep es)[i]?.map (λ e => (e.2, sl w b (i + 1))) = ((pickOrder ((model prog w).w.params.setOrder a ep) es)[i]?).map λ e => (e.2, sl w b i) := by unfold YT sl; rw [hw]; rfl
  rw [<- e]; exact h
 | false =>
  rw [if_neg (by simp)]
  rw [show Zg w = true by unfold Zg; rw [hw]; rfl]
  refine (show wpAny _ _ (pure () >>= λ _ => _) _ _ _ from zxD (zxE ?_))
  refine (show wpAny _ _ (pure () >>= λ _ => _) _ _ _ from zxD (zxE ?_))
  have e1 : SetTable.below (ls b).toArray (sl w b i) = i := by
   unfold sl; rw [hw]
   rcases Nat.lt_or_ge i (ls b).length with q | q
   · exact zpu b hb i q
   · have : i = (ls b).length := by omega
     subst this
     exact zpA b hb
  refine zxE ?_
  show Q (match es[SetTable.below (ls b).toArray (sl w b i)]?, (ls b).toArray[SetTable.below (ls b).toArray (sl w b i)]? with | some (_, x), some j => some (x, j + 1) | _, _ => none) s
  rw [e1]
  have e2 : (YT w a ep es)[i]?.map (λ e => (e.2, sl w b (i + 1))) = match es[i]?, (ls b).toArray[i]? with | some (_, x), some j => some (x, j + 1) | _, _ => none := by
   have q1 : YT w a ep es = es := by unfold YT; rw [if_neg (by rw [hw]; simp)]
   have q2 : sl w b (i + 1) = (ls b).getD i 0 + 1 := by unfold sl; rw [if_neg (by rw [hw]; simp)]
   rw [q1, q2]
   rcases Nat.lt_or_ge i (ls b).length with q | q
   · rw [Array.getElem?_eq_getElem (by omega), List.getElem?_toArray, zzB q, zyC, zzB q]
     rfl
   · rw [Array.getElem?_eq_none (by omega)]; rfl
  rw [<- e2]; exact h
theorem znd {Q : Option Value -> Shared -> Prop} (hh : A.handled = none) (hb : b < 256) (ho : s.heap.get? a = some o) (hd : o.data = .set es ep (tbl (Zg w) (ls b))) (hz : es.size = (ls b).length) (hi : i <= es.size)
 (hit : s.heap.get? I = some (WF (sl w b i) i a es.size ep))
 (h1 : ∀ x h', (YT w a ep es)[i]? = some x -> h'.get? I = some (WF (sl w b (i + 1)) (i + 1) a es.size ep) -> Heap.SameBut I s.heap h' -> Q (some x.2) { s with heap := h' })
 (h2 : (YT w a ep es)[i]? = none -> ∀ h', Heap.ExtBut I s.heap h' -> Q none { s with heap := h' }) : wpAny (model prog w) A (pyNext (.ref I)) Q E s := by
 have hf : (tbl (Zg w) (ls b)).fits es.size = true := by rw [hz]; exact (zdr _ b hb).1
 have hT : s.TypeIs (.ref I) "set_iterator" := ⟨_, hit, rfl⟩
 unfold pyNext
 refine zxD (wpAny_attempt (wpAny_callSpecial?_slot hT ZD (zxR ZD hT zcN ?_ (zek _))))
 unfold Builtin.«set_iterator.__next__»
 refine zxD (zxE ?_)
 refine zxD (wpAny_fieldsOf hit rfl ?_)
 dsimp only
 refine zxD (wpAny_setEntries_of ho hd hf ?_)
 rw [if_neg (by simp)]
 refine (show wpAny _ _ (setNext a (Int.toNat _) (Int.toNat _) (Int.toNat _) >>= _) _ _ _ from zxD ?_)
 rw [zyF, zyF, zyF]
 refine zlQ hb ho hd hz hi ?_
 cases hx : (YT w a ep es)[i]? with
 | some x =>
  show wpAny _ _ (setField _ _ _ >>= _) _ _ _
  refine zxD (wpAny_setField_rec hit (by show 0 < 5; decide) λ k1 g1 sb1 => ?_)
  refine zxD (wpAny_setField_rec g1 (by show 1 < 5; decide) λ k2 g2 sb2 => ?_)
  exact zxE ⟨_, rfl, zxE (h1 x k2 hx g2 (sb1.trans sb2))⟩
 | none =>
  show wpAny _ _ (setField _ _ _ >>= _) _ _ _
  refine zxD (wpAny_setField_rec hit (by show 2 < 5; decide) λ k1 g1 sb1 => ?_)
  refine zxD ?_
  unfold newExc
  refine zxD (zxI (zxD (wpAny_of_eq (Eq.refl (firstArgMember (Value.type "StopIteration") [])) (zxI ?_ (sizeOk_excFields _ _ _ _ _ _ _ _)))) ?_)
  · unfold raiseNew
    refine zxD (wpAny_handled ?_)
    have hh' : A.in1.handled = none := hh
    rw [hh']
    refine zxD (zxE ?_)
    refine wpAny_throw (zxD (wpAny_isInstance ⟨_, zxH _ rfl, rfl⟩ isSubtype_stop (zxE (h2 hx _ λ b u hb e => zxF _ (zxF _ ?_)))))
    exact (sb1.2 b hb).trans e
  · exact Nat.zero_le _
end
end L2
namespace L2
open PySem PySem.Spec PyProof.Rows
theorem zim {prog : Program} {w : World} {A : Around} {a I : Addr} {b ep : Nat} {o : Obj} {es : Array (Int × Value)} (hh : A.handled = none) (hne : a ≠ I) (hb : b < 256) (hd : o.data = .set es ep (tbl (Zg w) (ls b))) (hz : es.size = (ls b).length) :
 Walks prog w A I [I, a] [I] es.size (λ i v => ∃ x, (YT w a ep es)[i]? = some x /\ v = x.2) (λ i h => h.get? I = some (WF (sl w b i) i a es.size ep) /\ h.get? a = some o /\ i <= es.size) where
 sub := λ b hb => by simp at hb; simp [hb]
 frame := λ _ _ _ st hk => ⟨hk I (by simp) _ st.1, hk a (by simp) _ st.2.1, st.2.2⟩
 item := λ i s Q E hi st hQ => by
  refine znd hh hb st.2.1 hd hz st.2.2 st.1 (λ x h' hx hg sb => ?_) λ hx => ?_
  · exact hQ _ h' s.toks ⟨x, hx, rfl⟩ ⟨hg, (sb.2 a hne).trans st.2.1, hi⟩ λ c u hc e => sb.extBut c u (λ q => hc (by simp [q])) e
  · have e : (YT w a ep es).size = es.size := by have := (X8 w a ep es).length_eq; simpa using this
    rw [Array.getElem?_eq_none_iff] at hx
    omega
 done := λ s Q E st hQ => by
  refine znd hh hb st.2.1 hd hz st.2.2 st.1 (λ x h' hx hg sb => ?_) λ hx h' he => hQ h' s.toks λ c u hc e => he c u (λ q => hc (by simp [q])) e
  have e : (YT w a ep es).size = es.size := by have := (X8 w a ep es).length_eq; simpa using this
  rw [Array.getElem?_eq_none (by omega)] at hx
  cases hx
 self := λ i s Q E st hQ => by
  have hT : s.TypeIs (.ref I) "set_iterator" := ⟨_, st.1, rfl⟩
  refine wpAny_pyIter_slot hT V2 (zxR V2 hT zcP ?_ (zee _))
  show wpAny _ _ (ret (.ref I)) _ _ s
  exact zxE ⟨_, rfl, "set_iterator", _, hT, ZD.lookup, hQ⟩
theorem zfz : typeLookup (.type "set") "__len__" = pure (some (.builtin "set.__len__")) := F.slot_set_len.lookup
section
variable {prog : Program} {w : World} {A : Around} {E : Value -> Shared -> Prop} {s : Shared} {a : Addr} {b : Nat}
theorem zeG {Q : List Value -> Shared -> Prop} (hh : A.handled = none) (hb : b < 256) (hS : Xz s.heap a (Zg w) b)
 (h : ∀ h' tk vs, s.heap.objs.size < h'.objs.size -> (∀ c u, s.heap.get? c = some u -> h'.get? c = some u) -> (∃ ns, IntsAre vs ns /\ ns.Perm ((ls b).map Int.ofNat)) -> Q vs { s with heap := h', toks := tk }) :
 wpAny (model prog w) A (collect (.ref a)) Q E s := by
 obtain ⟨o, es, ep, ho, hex, hd, hf, ht⟩ := hS
 have hz := Wm hf
 have hfit : (tbl (Zg w) (ls b)).fits es.size = true := by rw [hz]; exact (zdr _ b hb).1
 have h8 : es.size <= 8 := by rw [hz]; exact (Xr b hb 0 (by decide)).2.2.2.1
 have hsz : s.heap.objs.size ≠ a := Nat.ne_of_gt (zxG ho)
 unfold collect
 refine zxD (wpAny_runValue (zxM F.entry_proto_collect ?_))
 rw [zxJ F.plain_proto_collect _]
 show wpAny _ A.in1 (newList [] >>= λ l => again (.builtin "list.__iadd__" ⟨[l, .ref a], []⟩)) _ _ s
 refine zxD (zxI ?_)
 refine zxE ⟨zxN F.plain_list_iadd _, zxM F.entry_list_iadd ?_⟩
 rw [zxJ F.plain_list_iadd _]
 show wpAny _ A.in1 (Builtin.List.listExtendWith (.ref s.heap.objs.size) (.ref a) (.ref s.heap.objs.size)) _ _ _
 have ho1 : (s.heap.push { cls := .type "list", data := .seq ([] : List Value).toArray }).get? a = some o := zxF _ ho
 unfold Builtin.List.listExtendWith
 refine zxD (wpAny_typeOf (T := "set") ⟨o, ho1, hex.1⟩ ?_)
 have h1 : Builtin.List.listSameRef (.ref s.heap.objs.size) (.ref a) = false := by simp [Builtin.List.listSameRef, hsz]
 have h2 : (Value.type "set" == Value.type "list") = false := by decide
 have h3 : (Value.type "set" == Value.type "tuple") = false := by decide
 simp only [h1, h2, h3, Bool.or_false, Bool.false_eq_true, if_false]
 refine zxD (zkP ho1 hex hd hfit ?_)
 generalize hH : s.heap.push { cls := .type "list", data := .seq ([] : List Value).toArray } = H at ho1 ⊢
 have hHs : H.objs.size = s.heap.objs.size + 1 := by rw [<- hH, zxO]
 have ho2 : (H.push (WF 0 0 a es.size ep)).get? a = some o := zxF _ ho1
 refine zxD (zxK ?_)
 unfold Builtin.List.listLengthHint
 refine zxD (wpAny_specialOf (T := "set") ⟨o, ho2, hex.1⟩ zfz ?_)
 wp_delta
 refine zxD (wpAny_isInstance (T := "set") (b := true) ⟨o, ho2, hex.1⟩ (by rw [isSubtype_type]; kernel_rfl) ?_)
 show wpAny _ A.in1 (typeOf (Value.ref a) >>= _) _ _ _
 refine zxD (wpAny_typeOf (T := "set") ⟨o, ho2, hex.1⟩ ?_)
 refine zxE ?_
 rw [if_pos (by decide)]
 refine zxD (wpAny_rule ?_)
 have hS₁ : (H.push (WF 0 0 a es.size ep)).get? s.heap.objs.size = some { cls := .type "list", data := .seq ([] : List Value).toArray } := zxF _ (hH ▸ zxH _ rfl)
 refine zxD ?_
 show wpAny _ A.in1 (updateSeq s.heap.objs.size (·.push .none) >>= λ _ => updateSeq s.heap.objs.size (·.pop)) _ _ _
 refine zxD (wpAny_updateSeq hS₁ rfl ?_)
 have hS₂ := zxP (Obj.mapSeq (·.push Value.none)) hS₁ rfl
 refine wpAny_updateSeq hS₂ rfl ?_
 have hS₃ := zxP (Obj.mapSeq (·.pop)) hS₂ rfl
 generalize hK : (H.push (WF 0 0 a es.size ep)).update s.heap.objs.size (Obj.mapSeq (·.push Value.none)) = K1 at hS₂ hS₃ ⊢
 have oth : ∀ c u, c ≠ s.heap.objs.size -> (H.push (WF 0 0 a es.size ep)).get? c = some u -> (K1.update s.heap.objs.size (Obj.mapSeq (·.pop))).get? c = some u :=
  λ c u hc e => by rw [<- hK]; exact (zxL _ _ (Ne.symm hc)).trans ((zxL _ _ (Ne.symm hc)).trans e)
 have hne : a ≠ H.objs.size := by rw [hHs]; exact zzN (zyY (zxG ho))
 have hSf : s.heap.objs.size ∉ [H.objs.size, a] := by
  simp only [zS, zyZ, or_false, not_or]
  exact ⟨by omega, hsz⟩
 have hI : (H.push (WF 0 0 a es.size ep)).get? H.objs.size = some (WF 0 0 a es.size ep) := zxH _ rfl
 have s0 : sl w b 0 = 0 := by unfold sl; split <;> rfl
 refine zxE ⟨zxN F.plain_extend_loop _, codeAny_extend_loopS (zim (w := w) (by simpa using hh) hne hb hd hz).toS (by rw [sizeLine_eq]; omega) _ hSf _ es.size 0 _ _ _ rfl (Nat.zero_le _)
  ⟨by rw [s0]; exact oth _ _ (by omega) hI, oth _ _ (Ne.symm hsz) ho2, Nat.zero_le _⟩ hS₃ (ItemsOf.nil _) λ s' acc' c' hm hS' hacc => ?_⟩
 show wpAny _ A (load s.heap.objs.size >>= _) _ _ s'
 refine zxD (wpAny_load hS' ?_)
 obtain ⟨h', g', d', tk', os'⟩ := s'
 have eg : g' = s.gens := hm.gens
 have ed : d' = s.drawn := hm.drawn
 have eo : os' = s.os := hm.os
 subst eg; subst ed; subst eo
 refine zxE (h h' tk' _ (zxG hS') (λ c u e => ?_) ?_)
 · have hc := zxG e
   refine hm.heap c u (λ q => ?_) (oth c u (zzN hc) (zxF _ (hH ▸ zxF _ e)))
   rcases zS.mp q with q | q
   · exact absurd hc (q ▸ Nat.lt_irrefl _)
   · rw [zzO.mp q, hHs] at hc; exact absurd hc (Nat.not_lt.mpr (zyU _))
 · have el : (YT w a ep es).size = es.size := by have := (X8 w a ep es).length_eq; simpa using this
   have e1 : acc'.toList = (YT w a ep es).toList.map Prod.snd := by
    refine List.ext_getElem? λ j => ?_
    rw [zzF, Array.getElem?_toList, Array.getElem?_toList]
    rcases Nat.lt_or_ge j es.size with q | q
    · have hj : j < acc'.size := by rw [hacc.1]; exact q
      obtain ⟨x, hx, hx'⟩ := hacc.2 j _ (Array.getElem?_eq_getElem hj)
      rw [Array.getElem?_eq_getElem hj, hx, hx']; rfl
    · rw [Array.getElem?_eq_none (by rw [hacc.1]; exact q), Array.getElem?_eq_none (by omega)]; rfl
   refine ⟨(YT w a ep es).toList.map Prod.fst, ?_, ?_⟩
   · rw [e1]
     have ht' : ∀ e ∈ (YT w a ep es).toList, ∃ tk, e.2 = .int e.1 tk := λ e he => ht e ((X8 w a ep es).mem_iff.mp he)
     generalize (YT w a ep es).toList = L at ht'
     induction L with
     | nil => exact .nil
     | cons e L ih =>
      obtain ⟨tk, h⟩ := ht' e (zzC ..)
      show IntsAre (e.2 :: _) (e.1 :: _)
      rw [h]
      exact .cons _ _ (ih λ e' he' => ht' e' (zzA _ he'))
   · rw [<- hf]
     exact (X8 w a ep es).map _
theorem zfA {Q : Value -> Shared -> Prop} (hh : A.handled = none) (hb : b < 256) (hS : Xz s.heap a (Zg w) b)
 (h : ∀ h' tk c (out : Array Value) (ns : List Int) e, s.heap.objs.size <= c -> (∀ c u, s.heap.get? c = some u -> h'.get? c = some u) -> h'.get? c = some (seqObj "list" out e) -> IntsAre out.toList ns -> ns.Perm ((ls b).map Int.ofNat) -> ns.Pairwise (· <= ·) -> Q (.ref c) { s with heap := h', toks := tk }) :
 wpAny (model prog w) A (call (.builtin "sorted") [.ref a]) Q E s := by
 refine Calls.call_function_entry kind_sorted plain_sorted entry_sorted (args_sorted1 _) ?_
 unfold Builtin.«sorted»
 refine zxD (m := checkCount "sorted" 1 1 _) (zxE ?_)
 refine zxD (zeG (by simpa using hh) hb hS λ h1 tk vs hle hk ⟨ns, hI, hp⟩ => ?_)
 have hoL : (h1.push (seqObj "list" vs.toArray 0)).get? h1.objs.size = some (seqObj "list" vs.toArray 0) := zxH _ rfl
 have h64 : vs.length < 64 := by
  have e1 := hI.length
  have e2 := hp.length_eq
  have e3 := (Xr b hb 0 (by decide)).2.2.2.1
  rw [zD] at e2
  omega
 refine zxD (wpAny_newList ?_ (hsz := by rw [sizeLine_eq]; omega))
 refine zxD (zxK (zxR slot_list_sort ⟨_, hoL, rfl⟩ entry_list_sort (list_sort_tree hoL hI h64 λ out ns' a1 a2 a3 => ⟨_, rfl, ?_⟩) (args_list_sort _)))
 obtain ⟨e, he⟩ := sortedHeap_at (out := out) hoL
 refine zxE ⟨_, rfl, h _ tk h1.objs.size out ns' e (Nat.le_of_lt hle) (λ c u e => ?_) he a1 (a2.trans hp) a3⟩
 have hc := zxG (hk c u e)
 rw [sortedHeap_old (zzN hc) (by rw [zxO]; exact zyY hc)]
 exact zxF _ (hk c u e)
end
end L2
end
section
namespace PF
open PySem PySem.Spec PyProof.Rows L2
theorem zdw {v : Int} : ∀ (ns acc : List Int), v ∈ ns.foldl step_dedup acc ↔ v ∈ acc \/ v ∈ ns
 | [], acc => by simp
 | n :: ns, acc => by
  rw [List.foldl_cons, zdw ns, zS]
  unfold step_dedup
  split
  · rename_i h
    obtain ⟨y, h1, h2⟩ := List.any_eq_true.mp h
    have := of_decide_eq_true (show decide (y = n) = true by simpa using h2)
    subst this
    exact ⟨λ z => z.elim .inl λ z => .inr (.inr z), λ z => z.elim .inl λ z => z.elim (λ e => .inl (e ▸ h1)) .inr⟩
  · rw [zzJ, zzO, or_assoc]
theorem zfN : ∀ (ns acc : List Int), acc.Nodup -> (ns.foldl step_dedup acc).Nodup
 | [], acc, h => h
 | n :: ns, acc, h => by
  rw [List.foldl_cons]
  refine zfN ns _ ?_
  unfold step_dedup
  split
  · exact h
  · rename_i q
    refine zxC.mpr ⟨h, zzT.mpr ⟨zyZ, zyG⟩, λ a ha b hb => ?_⟩
    rw [zzO.mp hb]
    rintro rfl
    exact q (List.any_eq_true.mpr ⟨a, ha, by simp⟩)
theorem zgg {val : Nat -> Nat} {v : Nat} : ∀ n, (vb val n).testBit v = true ↔ ∃ i, i < n /\ val i = v
 | 0 => by rw [show vb val 0 = 0 from rfl, Nat.zero_testBit]; exact ⟨λ h => Bool.noConfusion h, λ ⟨i, h, _⟩ => absurd h (Nat.not_lt_zero _)⟩
 | n + 1 => by
  rw [show vb val (n + 1) = vb val n ||| 2 ^ val n from rfl, Nat.testBit_or, Bool.or_eq_true, zgg n, Nat.testBit_two_pow, decide_eq_true_eq]
  constructor
  · rintro (⟨i, h1, h2⟩ | h)
    · exact ⟨i, by omega, h2⟩
    · exact ⟨n, by omega, h⟩
  · rintro ⟨i, h1, h2⟩
    rcases Nat.lt_or_ge i n with q | q
    · exact .inl ⟨i, q, h2⟩
    · have : i = n := by omega
      exact .inr (this ▸ h2)
def valN (ns : List Int) (i : Nat) : Nat := (ns.getD i 0).toNat
theorem ziA {ns : List Int} (h : ∀ n ∈ ns, 0 <= n /\ n < 8) : List.Perm ((ls (vb (valN ns) ns.length)).map Int.ofNat) (zbp ns) := by
 refine (List.perm_ext_iff_of_nodup ?_ (zfN ns [] zyG)).mpr λ v => ?_
 · exact List.pairwise_map.mpr (List.Pairwise.imp (λ h e => h (Int.ofNat.inj e)) (List.Pairwise.filter _ List.nodup_range))
 · show _ ↔ v ∈ ns.foldl step_dedup []
   rw [zdw, zxB]
   constructor
   · rintro ⟨n, h1, rfl⟩
     obtain ⟨i, hi, e⟩ := (zgg _).mp (List.mem_filter.mp h1).2
     have hm : ns[i] ∈ ns := zyX hi
     unfold valN at e
     rw [zyC, zzB hi] at e
     have := (h _ hm).1
     exact .inr (by rw [show Int.ofNat n = ns[i] from by rw [<- e]; exact zyW this]; exact hm)
   · rintro (z | z)
     · cases z
     · obtain ⟨i, hi, e⟩ := List.getElem_of_mem z
       have hb := h v z
       refine ⟨v.toNat, List.mem_filter.mpr ⟨List.mem_range.mpr (by omega), (zgg _).mpr ⟨i, hi, ?_⟩⟩, zyW hb.1⟩
       unfold valN
       rw [zyC, zzB hi]
       exact congrArg Int.toNat e
theorem zof : bootBuiltins "set" = some (.type "set") := by decide +kernel
theorem ziF : bootBuiltins "sorted" = some (.builtin "sorted") := by decide +kernel
section
variable {X : Cx} {kd : KD}
def tSS (K : zC) (ta : TA) : TE := λ σ H Q => ta σ H λ vs H1 => ∃ r ys ns, vs = [.ref r] /\ SqL K H1 r ys /\ (∀ us, Vals ys us -> IntsAre us ns) /\ (∀ n ∈ ns, 0 <= n /\ n < 8) /\ ns.length < 64 /\ ∀ c, H1 c = none -> Q (.ref c) (upd H1 c (.lst ((sortI (zbp ns)).map V.int)))
theorem zmp (ns : List Int) : (zbp ns).length <= ns.length := by
 have : ∀ (ns acc : List Int), (ns.foldl step_dedup acc).length <= acc.length + ns.length := λ ns => by
  induction ns with
  | nil => intro acc; exact zzK _
  | cons n ns ih =>
   intro acc
   rw [List.foldl_cons]
   refine zzL (ih _) ?_
   unfold step_dedup
   split
   · rw [zzQ]; omega
   · rw [zzG, zzQ, zzQ]; simp; omega
 have h := this ns []
 simpa [zbp] using h
theorem zga {a : Expr} {ta : TA} {p p' pos pos' : Pos} (hc : X.calm = true) (hg : Gl X "set") (hm : X.mg "set" = none) (hgl : Gl X "sorted") (hml : X.mg "sorted" = none) (ha : PA X [a] ta) (hs : starEach [a] X.env = [(false, eval a X.env)])
 (hs' : starEach [.Call (.Name "set" p) [a] [] pos] X.env = [(false, eval (.Call (.Name "set" p) [a] [] pos) X.env)]) : PE X (.Call (.Name "sorted" p') [.Call (.Name "set" p) [a] [] pos] [] pos') (tSS X.K ta) := by
 intro pins s σ H Q I h
 refine wpAny_Call_Name_kw (YM I hgl hml ziF (PyProof.Rows.callWith_builtin1 ?_ hs' rfl))
 rw [hs']
 show wpAny _ _ (spliced ((false, eval _ X.env) :: backTo pos' [])) _ _ s
 refine Calls.spliced_cons ?_
 refine wpAny_Call_Name_kw (YM I hg hm zof (PyProof.Rows.callWith_type1 (thn (ha pos pins s σ H _ I h) λ us s1 ⟨vs, H1, I1, r1, q1⟩ => ?_) hs rfl))
 obtain ⟨r, ys, ns, rfl, sq, hss, h8, hz, q⟩ := q1
 cases r1 with
 | cons rr rs =>
  cases rs
  cases rr
  obtain ⟨its, rv, pl, _⟩ := I1.list sq
  have hS := hss its rv
  have hl := hS.length
  refine zqr (val := valN ns) (I1.ok.hd hc) pl.isList (λ i v hv => ?_) (λ i hi => ?_) λ h' tk hSet hk => ?_
  · obtain ⟨t, e⟩ := hS.int_at i v (by simpa using hv)
    have hi : i < ns.length := by
     rw [<- hl]
     have := (zzD.mp (show its[i]? = some v by simpa using hv)).1
     exact this
    have hm : ns[i] ∈ ns := zyX hi
    refine ⟨t, ?_⟩
    rw [e]
    unfold valN
    rw [zyC, zzB hi]
    exact congrArg (Value.int · t) (zyW (h8 _ hm).1).symm
  · have hi' : i < ns.length := by simpa [hl] using hi
    have hm : ns[i] ∈ ns := zyX hi'
    unfold valN
    rw [zyC, zzB hi']
    have := h8 _ hm
    show (ns[i]).toNat < 8
    omega
  · refine Calls.spliced_nil ?_
    rw [show its.toArray.size = ns.length by simpa using hl] at hSet
    have hb : vb (valN ns) ns.length < 256 := zks (n := ns.length) (λ i hi => by
     have hm : ns[i] ∈ ns := zyX hi
     unfold valN
     rw [zyC, zzB hi]
     have := h8 _ hm
     show (ns[i]).toNat < 8
     omega) _ (zzK _)
    refine zfA (s := { s1 with heap := h', toks := tk }) (I1.ok.hd hc) hb hSet λ h2 tk2 c out ns' e hle hk2 hg hI hp hs => ?_
    have en : ns' = sortI (zbp ns) := zam _ _ ((hp.trans (ziA h8)).trans (sortI_perm _).symm) hs (ZL _)
    subst en
    obtain ⟨nid, hob⟩ : ∃ nid, h2.get? c = some (seqObj "list" out nid) := ⟨e, hg⟩
    have hsz : s1.heap.objs.size <= h'.objs.size := by obtain ⟨_, _, _, z, _⟩ := hSet; exact Nat.le_of_lt (zxG z)
    have hn : H1 c = none := I1.hok.fresh (zzL hsz hle)
    refine ⟨.ref c, _, I1.laid (t' := tk2) (λ b o z => hk2 b o (hk b o z)) (zzL hsz hle) (show yI X.prog X.w _ _ _ (.lst ((sortI (zbp ns)).map V.int)) from ⟨?_, out.toList, nid, ZW hI, by simpa [seqObj] using hob⟩), rfl, q c hn⟩
    rw [zD, (sortI_perm _).length_eq]
    exact Nat.le_of_lt (zW (by have := zmp ns; omega))
theorem zgt {a : Expr} {fr : AF} {p p' pos pos' : Pos} (hc : X.calm = true) (hg : Gl X "set") (hm : X.mg "set" = none) (hgl : Gl X "sorted") (hml : X.mg "sorted" = none) (ha : AA X kd [a] fr) (hs : starEach [a] X.env = [(false, eval a X.env)])
 (hs' : starEach [.Call (.Name "set" p) [a] [] pos] X.env = [(false, eval (.Call (.Name "set" p) [a] [] pos) X.env)]) : AE X kd (.Call (.Name "sorted" p') [.Call (.Name "set" p) [a] [] pos] [] pos') (fP fr ssP) := by
 with_unfolding_all exact (yF (zga hc hg hm hgl hml ha hs hs') λ σ H Q h => by
  obtain ⟨F, B, ad, as, r, as', R, e, q⟩ := h
  obtain ⟨⟨rs, as1⟩, h1, e⟩ := bS_ (show (fr as).bind _ = _ from e)
  obtain ⟨⟨ds, lv⟩, h2, e⟩ := bS_ e
  obtain ⟨r0, h3, e⟩ := bS_ e
  obtain ⟨z, h4, e⟩ := bS_ e
  cases e
  refine (show alA X.K kd fr σ H _ from ⟨F, B, ad, as, rs, as1, R, h1, λ vs ad1 H1 R1 rv1 g1 => ?_⟩)
  have vl := Xg R1 rv1 h2
  have rq := Wo R1 h4 (Q := Q) λ w T' H' R' rv' g' => q w T' ad1 H' R' rv' (g1.trans g')
  obtain ⟨x, d, rfl, vx, he⟩ := Vd vl h3
  obtain ⟨ds', h0, he2⟩ := bS_ (show (asL d).bind _ = _ from he)
  cases Xk h0
  obtain ⟨ns, k1, he3⟩ := bS_ he2
  obtain ⟨⟨hz, ha⟩, he4⟩ := zP he3
  cases he4
  cases vx with
  | lst hr rl => exact ⟨_, _, ns, rfl, hr.sq, λ us hv => ints_of rl hv k1, λ n hn => by have := List.all_eq_true.mp ha n hn; simpa using this, hz, Vf rq (zbW _)⟩)
end
end PF
end
section
namespace L2
open PySem PySem.Spec PyProof.Rows
open PySem.SeqAt
open PySem.AutoSeq1 (wpAny_loadPart')
open PySem.MeetsSeq PySem.MeetsSeq2 PySem.MeetsSeq3
def zqk (A : Around) (s : Shared) (y x : Value) (b : Bool) : Prop :=
 ∀ (prog : Program) (w : World) (E : Value -> Shared -> Prop) (Q : Value -> Shared -> Prop), Q (.bool b) s -> wpAny (model prog w) A (richCompare .Lt y x) Q E s
set_option maxHeartbeats 1000000 in
theorem zlL (l b : Addr) (items items2 : Array Value) (n n2 : Nat) (dd dd2 : Option Addr) (sl sl2 : Array (Option Value)) (ns ms : List Int) (hi : IntsAre items.toList ns) (hj : IntsAre items2.toList ms) (k : Nat) :
 ∀ i : Nat, items.size - i = k -> Meets (Builtin.«list.__eq__.loop» ⟨[.ref l, .ref b, rawInt i, rawInt 0], []⟩)
  (λ A R s => s.heap.get? l = some { cls := .type "list", dict := dd, data := .seq items n, slots := sl } /\ s.heap.get? b = some { cls := .type "list", dict := dd2, data := .seq items2 n2, slots := sl2 } /\
   (i <= items.size /\ i <= items2.size) /\ R (.ok (.ret (.bool (HT.lexLt (ns.drop i) (ms.drop i))))) s) := by
 have z1 : items.size = ns.length := by rw [<- hi.length]; simp
 have z2 : items2.size = ms.length := by rw [<- hj.length]; simp
 have stop : ∀ i : Nat, (items.size <= i \/ items2.size <= i) -> Meets (Builtin.«list.__eq__.loop» ⟨[.ref l, .ref b, rawInt i, rawInt 0], []⟩)
  (λ A R s => s.heap.get? l = some { cls := .type "list", dict := dd, data := .seq items n, slots := sl } /\ s.heap.get? b = some { cls := .type "list", dict := dd2, data := .seq items2 n2, slots := sl2 } /\
   (i <= items.size /\ i <= items2.size) /\ R (.ok (.ret (.bool (HT.lexLt (ns.drop i) (ms.drop i))))) s) := by
  intro i hs prog w A R s h
  obtain ⟨hp, g, d, tk, os⟩ := s; obtain ⟨hl, hb, hle, h⟩ := h
  have hv : HT.lexLt (ns.drop i) (ms.drop i) = decide (items.size < items2.size) := by
   rcases Nat.lt_or_ge i ns.length with q | q
   · rcases Nat.lt_or_ge i ms.length with q' | q'
     · omega
     · rw [List.drop_of_length_le q', zyN q]
       exact (zyD (by omega)).symm
   · rw [List.drop_of_length_le q]
     rcases Nat.lt_or_ge i ms.length with q' | q'
     · rw [zyN q']
       exact (zyL (by omega)).symm
     · rw [List.drop_of_length_le q']
       exact (zyD (by omega)).symm
  rw [hv] at h
  wp_walk using wpAny_loadPart' hl, wpAny_loadPart' hb
  rcases hs with hs | hs
  · have hi1 : items[((i : Nat) : Int).toNat]? = none := by simp; omega
    rw [hi1]
    wp_walk using wpAny_loadPart' hl, wpAny_loadPart' hb
    exact h
  · have hi2 : items2[((i : Nat) : Int).toNat]? = none := by simp; omega
    rw [hi2]
    cases items[((i : Nat) : Int).toNat]? <;>
    · wp_walk using wpAny_loadPart' hl, wpAny_loadPart' hb
      exact h
 induction k with
 | zero => intro i hk; exact stop i (.inl (by omega))
 | succ k ih =>
  intro i hk
  rcases Nat.lt_or_ge i items2.size with q | q
  · intro prog w A R s h
    obtain ⟨hp, g, d, tk, os⟩ := s; obtain ⟨hl, hb, hle, h⟩ := h
    wp_walk using wpAny_loadPart' hl, wpAny_loadPart' hb
    have hlt : i < items.size := by omega
    have hi1 : items[((i : Nat) : Int).toNat]? = some items[i] := by simp [hlt]
    have hi2 : items2[((i : Nat) : Int).toNat]? = some items2[i] := by simp [q]
    have hc : ((i : Int) + 1) = ((i + 1 : Nat) : Int) := by push_cast; rfl
    obtain ⟨t, e1⟩ := hi.int_at i items[i] (by simp [hlt])
    obtain ⟨u, e2⟩ := hj.int_at i items2[i] (by simp [q])
    have n1 : i < ns.length := by omega
    have n2 : i < ms.length := by omega
    rw [zyN n1, zyN n2, HT.zbY] at h
    rw [zyC, zzB n1] at e1
    rw [zyC, zzB n2] at e2
    rw [hi1, hi2, e1, e2]
    obtain ⟨e, he, hiff⟩ := HT.zjz A.in1 ⟨hp, g, d, tk, os⟩ ns[i] t ms[i] u
    refine zxD (he prog w _ _ ?_)
    cases e with
    | true =>
     rw [if_pos (hiff.mp rfl)] at h
     wp_walk
     rw [hc]
     exact ⟨zxN plain_eq_loop _, zxM entry_eq_loop (by
      rw [zxJ plain_eq_loop _]
      exact ih (i + 1) (by omega) prog w A R _ ⟨hl, hb, ⟨by omega, by omega⟩, h⟩)⟩
    | false =>
     rw [if_neg (λ q => absurd (hiff.mpr q) zyT)] at h
     wp_walk using wpAny_loadPart' hl, wpAny_loadPart' hb
     rw [hi1, hi2, e1, e2]
     show wpAny _ _ (richCompare .Lt _ _ >>= _) _ _ _
     exact zxD (HT.zjM A.in1 ⟨hp, g, d, tk, os⟩ ns[i] t ms[i] u prog w _ _ (zxE h))
  · exact stop i (.inr q)
theorem zmv (l b : Addr) (items items2 : Array Value) (n n2 : Nat) (dd dd2 : Option Addr) (sl sl2 : Array (Option Value)) (ns ms : List Int) (hi : IntsAre items.toList ns) (hj : IntsAre items2.toList ms) :
 Meets (Builtin.«list.__lt__» ⟨[.ref l, .ref b], []⟩)
  (λ A R s => s.heap.get? l = some { cls := .type "list", dict := dd, data := .seq items n, slots := sl } /\ s.heap.get? b = some { cls := .type "list", dict := dd2, data := .seq items2 n2, slots := sl2 } /\
   R (.ok (.ret (.bool (HT.lexLt ns ms)))) s) := by
 intro prog w A R s h
 obtain ⟨hp, g, d, tk, os⟩ := s; obtain ⟨hl, hb, h⟩ := h
 have f3 := AutoSeq1.sub_list_list
 wp_walk using wpAny_loadPart' hl, wpAny_loadPart' hb
 exact ⟨zxN plain_eq_loop _, zxM entry_eq_loop (by
  rw [zxJ plain_eq_loop _]
  exact zlL l b items items2 n n2 dd dd2 sl sl2 ns ms hi hj _ 0 rfl prog w A R _ ⟨hl, hb, ⟨Nat.zero_le _, Nat.zero_le _⟩, by simpa using h⟩)⟩
theorem zfm {A : Around} {s : Shared} {l b : Addr} {items items2 : Array Value} {ns ms : List Int} (hl : s.heap.IsList l items) (hb : s.heap.IsList b items2) (hi : IntsAre items.toList ns) (hj : IntsAre items2.toList ms)
 (hu : A.units < cLine) : zqk A s (.ref l) (.ref b) (HT.lexLt ns ms) := λ prog w E Q h => by
 obtain ⟨⟨cls, dd, data, sl⟩, ho, hc, n, hd⟩ := id hl
 obtain ⟨⟨cls2, dd2, data2, sl2⟩, ho2, hc2, n2, hd2⟩ := id hb
 simp only at hc hd hc2 hd2
 subst hc hd hc2 hd2
 exact richCompare_meets_room (op := .Lt) ⟨_, ho, rfl⟩ ⟨_, ho2, rfl⟩ PySem.F.slot_list_lt PySem.F.entry_list_lt (PySem.F.args_list_lt_2 _ _) (zmv l b items items2 n n2 dd dd2 sl sl2 ns ms hi hj)
  ⟨ho, ho2, show Value.bool (HT.lexLt ns ms) ≠ Value.notImplemented /\ Q (.bool (HT.lexLt ns ms)) s from ⟨(λ x => nomatch x), h⟩⟩ hu
end L2
end
section
namespace PF
open PySem PySem.Spec PyProof.Rows L2
theorem zec : ∀ xs ys : List Int, HT.lexLt xs ys = ltI xs ys
 | [], [] => rfl
 | [], _ :: _ => rfl
 | _ :: _, [] => rfl
 | x :: xs, y :: ys => by
  rw [HT.zbY, zec xs ys]
  show _ = (decide (x < y) || (x == y && ltI xs ys))
  by_cases h : x = y
  · subst h; simp
  · rw [if_neg h, show (x == y) = false by simpa using h]; simp
theorem zeN {n : Nat} : ∀ {ds es : List D} {ns ms : List Int}, yL ds = some ns -> yL es = some ms -> eqL (eqF (n + 1)) ds es = some (ns == ms)
 | [], [], _, _, h1, h2 => by cases h1; cases h2; rfl
 | [], .int j :: es, _, _, h1, h2 => by
  obtain ⟨ms', k2, h2⟩ := bS_ (show (yL es).bind _ = _ from h2)
  cases h1; cases h2; rfl
 | .int i :: ds, [], _, _, h1, h2 => by
  obtain ⟨ns', k1, h1⟩ := bS_ (show (yL ds).bind _ = _ from h1)
  cases h1; cases h2; rfl
 | .int i :: ds, .int j :: es, _, _, h1, h2 => by
  obtain ⟨ns', k1, h1⟩ := bS_ (show (yL ds).bind _ = _ from h1)
  obtain ⟨ms', k2, h2⟩ := bS_ (show (yL es).bind _ = _ from h2)
  cases h1; cases h2
  show (some (i == j)).bind (λ b => (eqL (eqF (n + 1)) ds es).bind λ c => some (b && c)) = _
  rw [zeN k1 k2]; rfl
end PF
end
section
namespace L2
open PySem PySem.Spec PyProof.Rows
def znw (i : Nat) : TI := λ σ H R => ∃ a o kvs, σ[i]? = some (some (.ref a)) /\ H a = some (.frz o (.dK kvs)) /\ R (Itk a o kvs) H
theorem zkJ {X : Cx} {tg l : Expr} {i : Nat} (hl : PE X l (Vh i)) : PI X tg l (znw i) := by
 intro pins s σ H R I h
 obtain ⟨a, o, kvs, hs, hq, q⟩ := h
 refine thn (hl pins s σ H (λ v H1 => v = .ref a /\ H1 = H) I ⟨.ref a, hs, rfl, rfl⟩) λ v s1 ⟨x, H1, I1, r1, e1, e2⟩ => ?_
 subst e1 e2
 cases r1
 obtain ⟨h0, hu⟩ := (show yI X.prog X.w H1 s1.heap a (.frz o (.dK kvs)) from I1.hok a _ hq)
 obtain ⟨hy, o', es, ep, h1, h2, h3, hz, hk⟩ := ziY (u := .dK kvs) hu
 rw [h0] at h1
 cases h1
 refine W3 hy ⟨o, h0, h2.1⟩ h0 h3 ?_
 rw [hz]
 have kp : ∀ b u, s1.heap.get? b = some u -> (s1.heap.push { cls := .type "dict_keyiterator", data := .fields #[.ref a, .int 0 0, .int (kvs.length : Nat) 0, .int (ep : Nat) 0] }).get? b = some u := λ b u e => zxF _ e
 have I2 : Inv X pins σ H1 { s1 with heap := s1.heap.push { cls := .type "dict_keyiterator", data := .fields #[.ref a, .int 0 0, .int (kvs.length : Nat) 0, .int (ep : Nat) 0] } } := I1.kept (t' := s1.toks) kp
 refine ⟨s1.heap.objs.size, [s1.heap.objs.size], _, _, _, rfl, I2, zhl a _ h3 hz hk, ⟨_, zxH _ rfl, rfl, rfl⟩, λ b hb => ?_, q⟩
 have e : b = s1.heap.objs.size := by simpa using hb
 subst e
 exact I1.fpOk (zzK _) (I1.hok.fresh (zzK _))
end L2
namespace PF
open PySem PySem.Spec PyProof.Rows L2
def iKB (i : Nat) : IF := λ as => match as[i]? with
 | some (some (.nd (.dc ks) os)) => if os.all O.isLf = true /\ O.strs os = true then some (ks.map λ k => (true, keyOf k), as.set i (some (.nd (.fz ks) os))) else none
 | _ => none
def iKZ (i : Nat) : IF := λ as => match as[i]? with
 | some (some (.nd (.fz ks) _)) => some (ks.map λ k => (true, keyOf k), as)
 | _ => none
theorem zhI {K : zC} {kd : KD} {O : Addr -> Prop} {H : Hp} {ks : List Key} {vs : List V} {i : Nat} {v : V} {x : It1} (hl : ks.length = vs.length) (hv : ((ks.zip vs).map λ p => kV p.1)[i]? = some v) (hx : (ks.map λ k => (true, keyOf k))[i]? = some x) : Rp K kd O H v x.2 := by
 have ek : (ks.zip vs).map (λ p => kV p.1) = ks.map kV := by
  rw [show (λ p : Key × V => kV p.1) = kV ∘ Prod.fst from rfl, <- zzY, List.map_fst_zip (by rw [hl]; exact zzK _)]
 rw [ek, zzF] at hv
 rw [zzF] at hx
 cases hk : ks[i]? with
 | none => rw [hk] at hv; cases hv
 | some k =>
  rw [hk] at hv hx
  cases hv
  cases hx
  cases k with
  | inl n => exact .int n
  | inr s => exact .str s
theorem zhX {X : Cx} {kd : KD} {tg : Expr} {i : Nat} {x : Str} {p : Pos} (hv : PE X (.Name x p) (Vh i)) : AIc X kd tg (.Name x p) (iKB i) := by
 with_unfolding_all (
 intro pins s σ H R I h
 obtain ⟨F, B, ad, as, ds, as', Rl, e, q⟩ := h
 unfold iKB at e
 cases k0 : as[i]? with
 | none => rw [k0] at e; cases e
 | some s0 =>
  rw [k0] at e
  match s0, e, k0 with
  | some (.nd (.dc ks) os), e, k0 =>
   obtain ⟨⟨ha, hst⟩, e⟩ := ite_some' e
   cases e
   have hi : i < as.length := (zzD.mp k0).1
   obtain ⟨R1, v, hs, ro⟩ := Rl.mv k0
   generalize hT : ad i = T at R1 ro
   cases ro with
   | dc hH hl rl =>
    rename_i a vs fp
    have e0 := zeh rl ha
    subst e0
    have hz : (ks.zip vs).length = ks.length := by rw [List.length_zip, hl, Nat.min_self]
    refine zfk hv pins s σ H R I ⟨a, _, hs, hH, λ o => ?_⟩
    obtain ⟨R2, g2⟩ := R1.wrT (u := .frz o (.dK (ks.zip vs))) (show a ∈ [a] by simp)
    have g1 : Grow (Gw [] ad) H (Gw [a] (xj ad i [])) H := Grow.less λ b z => by have := zbG (ad := ad) (i := i) (a := b); rw [hT] at this; exact this.mp z
    have nG : ¬ Gw [] (xj ad i []) a := λ z => by
     rcases z with z | ⟨j, z⟩
     · cases z
     · exact R1.dis j a z (by simp)
    have ga : Gw [] ad a := .inr ⟨i, by rw [hT]; simp⟩
    have nB : ¬ ((true = true /\ F a) \/ B a) := λ z => z.elim (λ y => (Rl.gtr a ga).2 y.2) λ y => (Rl.btr a y).2.2 ga
    have R3 := R2.drop
    have rl2 : wY X.K kd F B (Gw [] (xj ad i [])) (upd H a (.frz o (.dK (ks.zip vs)))) vs os [] := wY.less (λ b z => Gw.drop b z) (wY.grow g2 (λ _ m => nomatch m) rl)
    have R4 := Rel.put (i := i) (v := .ref a) (o := .nd (.fz ks) os) R3 (by rw [zzR]; exact hi) (.fz (λ z => z.elim nB nG) yc hl rl2)
    have es : σ.set i (some (.ref a)) = σ := List.ext_getElem? λ j => by
     by_cases e : j = i
     · subst e
       rw [zyH (zzD.mp hs).1, hs]
     · rw [zzV (Ne.symm e)]
    rw [List.set_set, es] at R4
    have le : ∀ b, Gw [] (xj (xj ad i []) i []) b -> Gw [] (xj ad i []) b := λ b z => by
     rcases z with z | ⟨j, z⟩
     · cases z
     · by_cases e : j = i
       · subst e; rw [zM] at z; cases z
       · rw [zT e] at z; exact .inr ⟨j, z⟩
    refine q (Itk a o (ks.zip vs)) _ _ R4 ((g1.trans g2).trans (Grow.less λ b z => Gw.drop b (le b z))) ⟨λ H2 T kp _ j => ?_⟩
    have h3 : H2 a = some (.frz o (.dK (ks.zip vs))) := kp a _ yc
    refine ⟨λ hj => ⟨h3, by rw [zD] at hj; omega⟩, λ hj => ⟨h3, by rw [zD] at hj; omega⟩, λ u H3 hy => ?_⟩
    obtain ⟨rfl, hu⟩ := hy
    exact ⟨λ _ _ z => z, λ x hx => zhI hl hu hx⟩
  | some (.nd .ls _), e, _ => cases e
  | some (.nd .tp _), e, _ => cases e
  | some (.nd (.ob _ _) _), e, _ => cases e
  | some (.nd (.fz _) _), e, _ => cases e
  | some (.lf _ _), e, _ => cases e
  | none, e, _ => cases e)
theorem zjD {X : Cx} {kd : KD} {tg : Expr} {i : Nat} {x : Str} {p : Pos} (hv : PE X (.Name x p) (Vh i)) : AI X kd tg (.Name x p) (iKZ i) := by
 with_unfolding_all (
 intro pins s σ H R I h
 obtain ⟨F, B, ad, as, ds, as', Rl, e, q⟩ := h
 unfold iKZ at e
 cases k0 : as[i]? with
 | none => rw [k0] at e; cases e
 | some s0 =>
  rw [k0] at e
  match s0, e, k0 with
  | some (.nd (.fz ks) os), e, k0 =>
   cases e
   obtain ⟨v, hs, ro⟩ := Rl.sl i _ k0
   generalize hT : ad i = T at ro
   cases ro with
   | fz hn hH hl rl =>
    rename_i a o vs
    have hz : (ks.zip vs).length = ks.length := by rw [List.length_zip, hl, Nat.min_self]
    refine zkJ hv pins s σ H R I ⟨a, o, _, hs, hH, q (Itk a o (ks.zip vs)) _ _ Rl Grow.refl ⟨λ ad3 H3 g3 _ j => ?_⟩⟩
    have h3 : H3 a = some (.frz o (.dK (ks.zip vs))) := g3.keep a _ hH λ z => hn (.inr z)
    refine ⟨λ hj => ⟨h3, by rw [zD] at hj; omega⟩, λ hj => ⟨h3, by rw [zD] at hj; omega⟩, λ u H4 hy => ?_⟩
    obtain ⟨rfl, hu⟩ := hy
    exact ⟨λ _ _ z => z, λ x hx => zhI hl hu hx⟩
  | some (.nd .ls _), e, _ => cases e
  | some (.nd .tp _), e, _ => cases e
  | some (.nd (.ob _ _) _), e, _ => cases e
  | some (.nd (.dc _) _), e, _ => cases e
  | some (.lf _ _), e, _ => cases e
  | none, e, _ => cases e)
def fMv (i : Nat) : EF := λ as => match as[i]? with
 | some (some o) => some (.ow o, as.set i none)
 | _ => none
theorem zpp {X : Cx} {kd : KD} {i : Nat} {x : Str} {p : Pos} (hv : PE X (.Name x p) (Vh i)) : AE X kd (.Name x p) (fMv i) := by with_unfolding_all exact (yF hv λ σ H Q h => by
 obtain ⟨F, B, ad, as, r, as', R, e, q⟩ := h
 unfold fMv at e
 cases k : as[i]? with
 | none => rw [k] at e; cases e
 | some s =>
  cases s with
  | none => rw [k] at e; cases e
  | some o =>
   rw [k] at e
   cases e
   obtain ⟨R', v, hv, ro⟩ := R.mv k
   exact ⟨v, hv, q v (ad i) _ H R' ro (Grow.less λ a z => zbG.mp z)⟩)
end PF
end
section
namespace L2
open PySem PySem.Spec PyProof.Rows
section
variable {prog : Program} {w : World} {A : Around} {R : Result -> Shared -> Prop} {I : Addr} {fp wr : List Addr} {G : Array GenState -> Array GenState -> Prop} {n : Nat} {P : Nat -> Value -> Prop} {St : Nat -> Shared -> Prop}
def Kp (h0 : Heap) (s : Shared) : Prop := ∀ b o, h0.get? b = some o -> s.heap.get? b = some o
def zhs (A : Around) (h0 : Heap) (P : Nat -> Value -> Prop) (bt : Nat -> Nat -> Bool) : Prop := ∀ i j vi vj (s : Shared), Kp h0 s -> P i vi -> P j vj -> zqk A s vi vj (bt i j)
theorem Kp.moved {h0 : Heap} {s s' : Shared} (k : Kp h0 s) (hw : ∀ b ∈ wr, h0.get? b = none) (m : Moved wr G s s') : Kp h0 s' := λ b o e => m.heap b o (λ z => by rw [hw b z] at e; cases e) (k b o e)
theorem Kp.upd {h0 : Heap} {s : Shared} {S : Addr} {f : Obj -> Obj} (k : Kp h0 s) (hS : h0.get? S = none) : Kp h0 { s with heap := s.heap.update S f } := λ b o e =>
 (zxL _ _ (λ h : S = b => by rw [<- h, hS] at e; cases e)).trans (k b o e)
theorem ziC (W : WalksS prog w A.in1 I fp wr G n P St) {bt : Nat -> Nat -> Bool} {h0 : Heap} (hcmp : zhs A.in1 h0 P bt) {S : Addr} (hSf : S ∉ fp) (hS0 : h0.get? S = none) (hw : ∀ b ∈ wr, h0.get? b = none) :
 ∀ (k j : Nat) (s : Shared) (vb : Value) (c : Nat), n - (j + 1) = k -> j + 1 <= n -> St (j + 1) s -> Kp h0 s -> P (argBest bt j) vb ->
 s.heap.get? S = some { cls := .type "list", dict := none, data := .seq #[vb, vb] c, slots := #[] } ->
 (∀ v s', P (argBest bt (n - 1)) v -> Moved (S :: wr) G s s' -> R (.ok (.ret v)) s') -> codeAny (model prog w) A (.builtin "min.loop" ⟨[.ref I, .none, .ref S], []⟩) R s := by
 have hSw : S ∉ wr := λ h => hSf (W.sub _ h)
 have hsub : ∀ b ∈ wr, b ∈ S :: wr := λ b hb => zzA _ hb
 have hname : (toString "min" ++ toString ".loop" : String) = "min.loop" := by decide
 have notS : ∀ {b : Addr}, b ∉ S :: wr -> S ≠ b := λ hb h => hb (by rw [h]; exact zzC)
 intro k
 induction k with
 | zero =>
  intro j s vb c hk hj hst kp hPb hS hR
  have hin : j + 1 = n := by omega
  refine zxM F.entry_min_loop ?_
  rw [zxJ F.plain_min_loop _]
  show wpAny _ A.in1 (seqItems? (.ref S) >>= _) _ _ s
  refine zxD (wpAny_seqItems hS rfl ?_)
  show wpAny _ A.in1 (tryCatch (pyNext (.ref I)) _ >>= _) _ _ s
  refine zxD (wpAny_tryCatch (W.done s _ _ (hin ▸ hst) λ s' hm => ?_))
  have hS' := hm.heap S _ hSw hS
  show wpAny _ A.in1 (updateSeq S (λ _ => #[]) >>= _) _ _ _
  refine zxD ?_
  refine wpAny_updateSeq hS' rfl (zxD (wpAny_letGo (zxE ?_)))
  exact hR vb _ (by rw [<- hin]; exact hPb) ((hm.mono hsub).then_heap (tk := s'.toks) (zzK _) λ b o hb e => (zxL _ _ (notS hb)).trans e)
 | succ k ih =>
  intro j s vb c hk hj hst kp hPb hS hR
  have hlt : j + 1 < n := by omega
  refine zxM F.entry_min_loop ?_
  rw [zxJ F.plain_min_loop _]
  show wpAny _ A.in1 (seqItems? (.ref S) >>= _) _ _ s
  refine zxD (wpAny_seqItems hS rfl ?_)
  show wpAny _ A.in1 (tryCatch (pyNext (.ref I)) _ >>= _) _ _ s
  refine zxD (wpAny_tryCatch (W.item (j + 1) s _ _ hlt hst λ v s' hP hst' hm => ?_))
  have hS' := hm.heap S _ hSw hS
  have kp' := kp.moved hw hm
  show wpAny _ A.in1 (tryCatch (holding [v, v] (richCompare .Lt v vb >>= _)) _ >>= _) _ _ _
  refine zxD (wpAny_tryCatch (zxK (zxD (hcmp (j + 1) (argBest bt j) v vb _ kp' hP hPb prog w _ _ ?_))))
  refine zxD (zxK (wpAny_truthy_bool ?_))
  refine zxD (wpAny_letGo (zxE ?_))
  cases hb : bt (j + 1) (argBest bt j) with
  | true =>
   simp only [if_true]
   refine zxD ?_
   refine wpAny_updateSeq hS' rfl (zxD (wpAny_letGo ?_))
   rw [hname]
   refine zxE ⟨zxN F.plain_min_loop _, ih (j + 1) _ v _ (by omega) hlt (W.frame _ s' _ s'.toks hst' (zzK _) λ b hbf o e => ?_) (kp'.upd hS0) (by simp only [argBest, hb, if_true]; exact hP) (zxP _ hS' rfl) λ v' s'' hP' hm'' => ?_⟩
   · exact (zxL _ _ (λ h : S = b => hSf (by rw [h]; exact hbf))).trans e
   · exact hR v' s'' hP' (Moved.trans W.gtrans ((hm.mono hsub).then_heap (tk := s'.toks) (zzK _) λ b o hb e => (zxL _ _ (notS hb)).trans e) hm'')
  | false =>
   simp only [Bool.false_eq_true, if_false]
   refine zxD (wpAny_letGo ?_)
   rw [hname]
   refine zxE ⟨zxN F.plain_min_loop _, ih (j + 1) _ vb c (by omega) hlt hst' kp' (by simp only [argBest, hb, Bool.false_eq_true, if_false]; exact hPb) hS' λ v' s'' hP' hm'' => ?_⟩
   exact hR v' s'' hP' (Moved.trans W.gtrans (hm.mono hsub) hm'')
theorem zbF (W : WalksS prog w A.in1 I fp wr G n P St) {bt : Nat -> Nat -> Bool} {h0 : Heap} (hcmp : zhs A.in1 h0 P bt) {S : Addr} (hSf : S ∉ fp) (hS0 : h0.get? S = none) (hw : ∀ b ∈ wr, h0.get? b = none) (hn : 0 < n) {s : Shared} {c : Nat} (hst : St 0 s) (kp : Kp h0 s)
 (hS : s.heap.get? S = some { cls := .type "list", dict := none, data := .seq #[] c, slots := #[] })
 (hR : ∀ v s', P (argBest bt (n - 1)) v -> Moved (S :: wr) G s s' -> R (.ok (.ret v)) s') : codeAny (model prog w) A (.builtin "min.loop" ⟨[.ref I, .none, .ref S], []⟩) R s := by
 have hSw : S ∉ wr := λ h => hSf (W.sub _ h)
 have hsub : ∀ b ∈ wr, b ∈ S :: wr := λ b hb => zzA _ hb
 have hname : (toString "min" ++ toString ".loop" : String) = "min.loop" := by decide
 have notS : ∀ {b : Addr}, b ∉ S :: wr -> S ≠ b := λ hb h => hb (by rw [h]; exact zzC)
 refine zxM F.entry_min_loop ?_
 rw [zxJ F.plain_min_loop _]
 show wpAny _ A.in1 (seqItems? (.ref S) >>= _) _ _ s
 refine zxD (wpAny_seqItems hS rfl ?_)
 show wpAny _ A.in1 (tryCatch (pyNext (.ref I)) _ >>= _) _ _ s
 refine zxD (wpAny_tryCatch (W.item 0 s _ _ hn hst λ v s' hP hst' hm => ?_))
 have hS' := hm.heap S _ hSw hS
 show wpAny _ A.in1 (updateSeq S (λ _ => #[v, v]) >>= _) _ _ _
 refine zxD ?_
 refine wpAny_updateSeq hS' rfl ?_
 rw [hname]
 refine zxE ⟨zxN F.plain_min_loop _, ziC W hcmp hSf hS0 hw _ 0 _ v _ rfl hn (W.frame _ s' _ s'.toks hst' (zzK _) λ b hbf o e => ?_) ((kp.moved hw hm).upd hS0) hP (zxP _ hS' rfl) λ v' s'' hP' hm'' => ?_⟩
 · exact (zxL _ _ (λ h : S = b => hSf (by rw [h]; exact hbf))).trans e
 · exact hR v' s'' hP' (Moved.trans W.gtrans ((hm.mono hsub).then_heap (tk := s'.toks) (zzK _) λ b o hb e => (zxL _ _ (notS hb)).trans e) hm'')
end
section
variable {prog : Program} {w : World} {A : Around} {E : Value -> Shared -> Prop} {s : Shared}
theorem ziH {l : Addr} {items : Array Value} {bt : Nat -> Nat -> Bool} {Q : Value -> Shared -> Prop} (hh : A.handled = none) (hl : s.heap.IsList l items) (hn : 0 < items.size) (hcmp : zhs A.in1 s.heap (λ i v => items[i]? = some v) bt)
 (h : ∀ v h' tk, items[argBest bt (items.size - 1)]? = some v -> (∀ b o, s.heap.get? b = some o -> h'.get? b = some o) -> Q v { s with heap := h', toks := tk }) :
 wpAny (model prog w) A (call (.builtin "min") [.ref l]) Q E s := by
 have hname : (toString "min" ++ toString ".loop" : String) = "min.loop" := by decide
 refine call_function_tree F.kind_min F.plain_min F.entry_min (F.args_min1 _) ?_
 show wpAny _ A.in1 (Builtin.Builtins.bindParams "min" ["key", "default"] 0 ⟨[], []⟩ >>= _) _ _ s
 refine zxD (wpAny_of_eq (show Builtin.Builtins.bindParams "min" ["key", "default"] 0 ⟨[], []⟩ = pure [none, none] from rfl) ?_)
 refine zxD (zxE ?_)
 have hlt : l < s.heap.objs.size := by obtain ⟨_, e, _⟩ := hl; exact zxG e
 have fr : ∀ b, s.heap.objs.size <= b -> s.heap.get? b = none := λ b hb => by
  cases e : s.heap.get? b with
  | none => rfl
  | some o => exact absurd (zxG e) (Nat.not_lt.mpr hb)
 refine zxD (wpAny_pyIter_list hl ?_)
 refine zxD (zxI ?_)
 rw [hname]
 generalize hH : s.heap.push { cls := .type "list_iterator", data := .fields #[.ref l, .int 0 0] } = H1
 have hz : H1.objs.size = s.heap.objs.size + 1 := by rw [<- hH, zxO]
 have k1 : ∀ b o, s.heap.get? b = some o -> (H1.push { cls := .type "list", dict := none, data := .seq ([] : List Value).toArray }).get? b = some o := λ b o e => zxF _ (hH ▸ zxF _ e)
 refine zxE ⟨zxN F.plain_min_loop _, zbF (h0 := s.heap) (Walks.list (A := A.in1) hh s.heap.objs.size l (zzN hlt) items).toS hcmp (by
  simp only [zS, zyZ, or_false, not_or]
  exact ⟨by rw [hz]; exact Nat.ne_of_gt (Nat.lt_succ_self _), by rw [hz]; exact Nat.ne_of_gt (zyY hlt)⟩) (fr _ (by rw [hz]; exact zyU _)) (λ b hb => by rw [zzO.mp hb]; exact fr _ (zzK _)) hn
  ⟨⟨_, zxF _ (hH ▸ zxH _ rfl), rfl, rfl⟩, hl.at λ o e => k1 l o e⟩ k1 (zxH _ rfl) λ v s' hP hm => ?_⟩
 obtain ⟨h', g', d', tk', os'⟩ := s'
 have eg : g' = s.gens := hm.gens
 have ed : d' = s.drawn := hm.drawn
 have eo : os' = s.os := hm.os
 subst eg; subst ed; subst eo
 refine h v h' tk' hP λ b o e => hm.heap b o (λ z => ?_) (k1 b o e)
 have hb := zxG e
 rcases zS.mp z with z | z
 · rw [z, hz] at hb; exact absurd hb (Nat.not_lt.mpr (zyU _))
 · rw [zzO.mp z] at hb; exact Nat.lt_irrefl _ hb
end
end L2
namespace L2
open PySem PySem.Spec PyProof.Rows
section
variable {prog : Program} {w : World} {A : Around} {E : Value -> Shared -> Prop} {s : Shared}
theorem min_two {a b : Value} {bt : Nat -> Nat -> Bool} {Q : Value -> Shared -> Prop} (hh : A.handled = none) (hcmp : zhs A.in1 s.heap (λ i v => #[a, b][i]? = some v) bt)
 (h : ∀ h' tk, (∀ b o, s.heap.get? b = some o -> h'.get? b = some o) -> Q (if bt 1 0 = true then b else a) { s with heap := h', toks := tk }) :
 wpAny (model prog w) A (call (.builtin "min") [a, b]) Q E s := by
 have hname : (toString "min" ++ toString ".loop" : String) = "min.loop" := by decide
 refine call_function_tree F.kind_min F.plain_min F.entry_min (F.args_min2 _ _) ?_
 show wpAny _ A.in1 (Builtin.Builtins.bindParams "min" ["key", "default"] 0 ⟨[], []⟩ >>= _) _ _ s
 refine zxD (wpAny_of_eq (show Builtin.Builtins.bindParams "min" ["key", "default"] 0 ⟨[], []⟩ = pure [none, none] from rfl) ?_)
 show wpAny _ A.in1 (newTuple [a, b] >>= _) _ _ s
 refine zxD (zxI ?_)
 have fr : ∀ b, s.heap.objs.size <= b -> s.heap.get? b = none := λ b hb => by
  cases e : s.heap.get? b with
  | none => rfl
  | some o => exact absurd (zxG e) (Nat.not_lt.mpr hb)
 have hT : (s.heap.push { cls := .type "tuple", data := .seq #[a, b] }).IsTuple s.heap.objs.size #[a, b] := ⟨_, zxH _ rfl, rfl, 0, rfl⟩
 have hsz : (s.heap.push { cls := .type "tuple", data := .seq #[a, b] }).objs.size = s.heap.objs.size + 1 := zxO ..
 refine zxD (wpAny_pyIter_tuple hT ?_)
 refine zxD (zxI ?_)
 rw [hname]
 have hne : s.heap.objs.size ≠ (s.heap.push { cls := .type "tuple", data := .seq #[a, b] }).objs.size := by rw [hsz]; exact zzN (Nat.lt_succ_self _)
 have W := (Walks.tuple (prog := prog) (w := w) (A := A.in1) hh (s.heap.push { cls := .type "tuple", data := .seq #[a, b] }).objs.size s.heap.objs.size hne #[a, b]).toS
 generalize hH : (s.heap.push { cls := .type "tuple", data := .seq #[a, b] }).objs.size = i1 at W hne ⊢
 rw [hsz] at hH
 have hz2 : ((s.heap.push { cls := .type "tuple", data := .seq #[a, b] }).push { cls := .type "tuple_iterator", data := .fields #[.ref s.heap.objs.size, .int 0 0] }).objs.size = s.heap.objs.size + 2 := by rw [zxO, hsz]
 have k1 : ∀ c o, s.heap.get? c = some o -> (((s.heap.push { cls := .type "tuple", data := .seq #[a, b] }).push { cls := .type "tuple_iterator", data := .fields #[.ref s.heap.objs.size, .int 0 0] }).push { cls := .type "list", dict := none, data := .seq ([] : List Value).toArray }).get? c = some o := λ c o e => zxF _ (zxF _ (zxF _ e))
 refine zxE ⟨zxN F.plain_min_loop _, zbF (h0 := s.heap) (bt := bt) W hcmp (S := ((s.heap.push { cls := .type "tuple", data := .seq #[a, b] }).push { cls := .type "tuple_iterator", data := .fields #[.ref s.heap.objs.size, .int 0 0] }).objs.size) (by
  rw [hz2, <- hH]
  simp only [zS, zyZ, or_false, not_or]
  exact ⟨Nat.ne_of_gt (Nat.lt_succ_self _), Nat.ne_of_gt (zyY (Nat.lt_succ_self _))⟩) (fr _ (by rw [hz2]; exact Nat.le_add_right _ _)) (λ c hc => by rw [zzO.mp hc, <- hH]; exact fr _ (zyU _)) (by show 0 < 2; decide)
  ⟨⟨_, zxF _ (by rw [<- hH, <- hsz]; exact zxH _ rfl), rfl, rfl⟩, (hT.push _).push _⟩ k1 (zxH _ rfl) λ v s' hP hm => ?_⟩
 obtain ⟨h', g', d', tk', os'⟩ := s'
 have eg : g' = s.gens := hm.gens
 have ed : d' = s.drawn := hm.drawn
 have eo : os' = s.os := hm.os
 subst eg; subst ed; subst eo
 have ev : v = if bt 1 0 = true then b else a := by
  have hP' : #[a, b][argBest bt 1]? = some v := hP
  have e0 : argBest bt 1 = if bt 1 0 = true then 1 else 0 := rfl
  rw [e0] at hP'
  by_cases q : bt 1 0 = true
  · rw [if_pos q] at hP' ⊢; exact (zzW hP').symm
  · rw [if_neg q] at hP' ⊢; exact (zzW hP').symm
 rw [ev]
 refine h h' tk' λ c o e => hm.heap c o (λ z => ?_) (k1 c o e)
 have hb := zxG e
 rcases zS.mp z with z | z
 · rw [z, hz2] at hb; exact absurd hb (Nat.not_lt.mpr (Nat.le_add_right _ _))
 · rw [zzO.mp z, <- hH] at hb; exact absurd hb (Nat.not_lt.mpr (zyU _))
end
end L2
end
section
namespace PF
open PySem PySem.Spec PyProof.Rows L2
def zdK : List (List Int) -> List Int
 | [] => []
 | x :: r => r.foldl (λ b y => if ltI y b = true then y else b) x
def zdn : List D -> Option (List (List Int))
 | [] => some []
 | x :: r => (asL x).bind λ ds => (yL ds).bind λ n => (zdn r).bind λ s => some (n :: s)
def zhJ : List D -> Option R0 := on1 λ x => (asL x).bind λ ds => (zdn ds).bind λ rs => if 0 < rs.length then some (.im (.lst ((zdK rs).map .int))) else none
theorem zin {x : List Int} {r : List (List Int)} {y : List Int} : zdK (x :: r ++ [y]) = if ltI y (zdK (x :: r)) = true then y else zdK (x :: r) := by
 show (r ++ [y]).foldl _ x = _
 rw [List.foldl_append]; rfl
theorem zfn {rs : List (List Int)} : ∀ k, k < rs.length -> rs.getD (argBest (λ i j => HT.lexLt (rs.getD i []) (rs.getD j [])) k) [] = zdK (rs.take (k + 1)) /\ argBest (λ i j => HT.lexLt (rs.getD i []) (rs.getD j [])) k <= k
 | 0, h => by
  match rs, h with
  | x :: r, _ => exact ⟨rfl, zzK _⟩
 | k + 1, h => by
  obtain ⟨ih, il⟩ := zfn (rs := rs) k (by omega)
  have e1 : rs.take (k + 2) = rs.take (k + 1) ++ [rs.getD (k + 1) []] := by
   rw [List.take_succ (i := k + 1), zzB h, zyC, zzB h]; rfl
  have e2 : ∃ x r, rs.take (k + 1) = x :: r := by
   match rs, h with
   | x :: r, _ => exact ⟨x, r.take k, rfl⟩
  obtain ⟨x, r, e2⟩ := e2
  rw [e1, e2, zin, <- e2, <- ih]
  show rs.getD (if HT.lexLt (rs.getD (k + 1) []) (rs.getD (argBest (λ i j => HT.lexLt (rs.getD i []) (rs.getD j [])) k) []) = true then k + 1 else argBest (λ i j => HT.lexLt (rs.getD i []) (rs.getD j [])) k) [] = _ /\ (if HT.lexLt (rs.getD (k + 1) []) (rs.getD (argBest (λ i j => HT.lexLt (rs.getD i []) (rs.getD j [])) k) []) = true then k + 1 else argBest (λ i j => HT.lexLt (rs.getD i []) (rs.getD j [])) k) <= k + 1
  rw [zec]
  by_cases q : ltI (rs.getD (k + 1) []) (rs.getD (argBest (λ i j => HT.lexLt (rs.getD i []) (rs.getD j [])) k) []) = true
  · rw [if_pos q, if_pos q]; exact ⟨rfl, zzK _⟩
  · rw [if_neg q, if_neg q]; exact ⟨rfl, Nat.le_succ_of_le il⟩
theorem ints_map : ∀ {ds : List D} {ns : List Int}, yL ds = some ns -> ds = ns.map .int
 | [], _, h => by cases h; rfl
 | .int i :: ds, _, h => by
  obtain ⟨s, h1, h⟩ := bS_ (show (yL ds).bind _ = _ from h)
  cases h
  rw [ints_map h1]; rfl
theorem vY : ∀ l : List Int, yL (l.map D.int) = some l
 | [] => rfl
 | x :: r => by
  show (yL (r.map D.int)).bind _ = _
  rw [vY r]; rfl
theorem zgN : ∀ {ds : List D} {rs : List (List Int)}, zdn ds = some rs -> ds.length = rs.length /\ ∀ (i : Nat), i < rs.length -> ds[i]? = some (.lst ((rs.getD i []).map .int))
 | [], _, h => by cases h; exact ⟨rfl, λ i h => absurd h (Nat.not_lt_zero _)⟩
 | x :: ds, _, h => by
  obtain ⟨z, h1, h⟩ := bS_ (show (asL x).bind _ = _ from h)
  obtain ⟨n, h2, h⟩ := bS_ h
  obtain ⟨s, h3, h⟩ := bS_ h
  cases h
  cases Xk h1
  obtain ⟨l, ih⟩ := zgN h3
  refine ⟨congrArg (· + 1) l, λ i hi => ?_⟩
  cases i with
  | zero => rw [ints_map h2]; rfl
  | succ i => simpa using ih i (by simpa using hi)
section
variable {X : Cx} {kd : KD} {pins : List (Addr × Obj)} {σ : St} {H : Hp} {s : Shared} {O : Addr -> Prop}
theorem zjF (I : Inv X pins σ H s) {x : V} {v : Value} {ns : List Int} (h : Vw X.K kd O H x (.lst (ns.map .int))) (r : RelV x v) : ∃ b l, x = .ref b /\ v = .ref b /\ SqL X.K H b (ns.map V.int) /\ s.heap.IsList b (List.toArray l) /\ IntsAre l ns := by
 have e := vY ns
 cases h with
 | lst h0 rl =>
  cases r
  obtain ⟨l, rv, pl, _⟩ := I.list h0.sq
  have := XH rl e
  subst this
  exact ⟨_, l, rfl, rfl, h0.sq, pl.isList, ints_of rl rv e⟩
theorem zgm (hc : X.calm = true) (hu : X.A.units + 100 < cLine) : CallD X kd (.builtin "min") zhJ := by
 intro pins s σ H xs us Q I r h
 obtain ⟨O, ds, z, ht, vl, he, q⟩ := h
 obtain ⟨x, d, rfl, vx, he⟩ := Vd vl he
 obtain ⟨ds, h0, he2⟩ := bS_ (show (asL d).bind _ = _ from he)
 cases Xk h0
 obtain ⟨rs, h1, he⟩ := bS_ he2
 obtain ⟨hz, he⟩ := zP he
 cases he
 obtain ⟨hlen, hat⟩ := zgN h1
 cases vx with
 | lst hr rl =>
  obtain ⟨u, rfl, ru⟩ := vals1 r
  cases ru
  obtain ⟨its, rv, pl, _⟩ := I.list hr.sq
  have hl := rl.length
  have hl2 := rv.length
  have at_ : ∀ (i : Nat) (v : Value), its.toArray[i]? = some v -> ∃ x, RelV x v /\ i < rs.length /\ Rp X.K kd O H x (.lst ((rs.getD i []).map .int)) := λ i v hv => by
   have hv' : its[i]? = some v := by simpa using hv
   have hi : i < its.length := (zzD.mp hv').1
   have hi' : i < rs.length := by omega
   obtain ⟨x, hx, rp⟩ := rl.get (hat i hi')
   obtain ⟨w, hw, rw'⟩ := rv.get hx
   rw [hw] at hv'
   cases hv'
   exact ⟨x, rw', hi', rp⟩
  refine ziH (bt := λ i j => HT.lexLt (rs.getD i []) (rs.getD j [])) (I.ok.hd hc) pl.isList (by simp only [zzE]; omega) (λ i j vi vj s' kp hi hj => ?_) λ v h' tk hv kp => ?_
  · obtain ⟨x, r1, _, p1⟩ := at_ i vi hi
    obtain ⟨y, r2, _, p2⟩ := at_ j vj hj
    obtain ⟨b, l, _, rfl, _, l1, i1⟩ := zjF I p1.vw r1
    obtain ⟨b', l', _, rfl, _, l2, i2⟩ := zjF I p2.vw r2
    exact zfm (l1.at λ o e => kp b o e) (l2.at λ o e => kp b' o e) (by simpa using i1) (by simpa using i2) (by show X.A.units + 1 < cLine; omega)
  · obtain ⟨x, r1, hk, p1⟩ := at_ _ v hv
    have e : its.toArray.size - 1 = rs.length - 1 := by simp only [zzE]; omega
    rw [e] at p1
    rw [(zfn (rs := rs) (rs.length - 1) (by omega)).1, show rs.length - 1 + 1 = rs.length by omega, List.take_length] at p1
    exact ⟨x, H, I.kept kp, r1, yo q p1⟩
def zqy (K : zC) : List V -> Hp -> VK -> Prop := λ xs H Q => ∃ a b ns ms, xs = [.ref a, .ref b] /\ SqL K H a (ns.map V.int) /\ SqL K H b (ms.map V.int) /\ Q (.ref (if ltI ms ns = true then b else a)) H
theorem zgd (hc : X.calm = true) (hu : X.A.units + 100 < cLine) : WM X (.builtin "min") (zqy X.K) := by
 intro pins s σ H xs us Q I r h
 obtain ⟨a, b, ns, ms, rfl, ha, hb, q⟩ := h
 cases r with
 | cons r1 r =>
  cases r with
  | cons r2 r =>
   cases r
   cases r1
   cases r2
   obtain ⟨l, v1, p1, _⟩ := I.list ha
   obtain ⟨l', v2, p2, _⟩ := I.list hb
   have i1 : IntsAre l.toArray.toList ns := intsAre_of v1
   have i2 : IntsAre l'.toArray.toList ms := intsAre_of v2
   have pick : ∀ (s' : Shared), Kp s.heap s' -> ∀ (i : Nat) (v : Value), #[Value.ref a, Value.ref b][i]? = some v -> ∃ c l, v = .ref c /\ s'.heap.IsList c (List.toArray l) /\ IntsAre l.toArray.toList (if i = 0 then ns else ms) := λ s' kp i v hv => by
    match i, hv with
    | 0, hv => cases hv; exact ⟨a, l, rfl, p1.isList.at λ o e => kp a o e, i1⟩
    | 1, hv => cases hv; exact ⟨b, l', rfl, p2.isList.at λ o e => kp b o e, i2⟩
   refine min_two (bt := λ i j => HT.lexLt (if i = 0 then ns else ms) (if j = 0 then ns else ms)) (I.ok.hd hc) (λ i j vi vj s' kp hi hj => ?_) λ h' tk kp => ?_
   · obtain ⟨c, l1, rfl, q1, j1⟩ := pick s' kp i vi hi
     obtain ⟨c', l2, rfl, q2, j2⟩ := pick s' kp j vj hj
     exact zfm q1 q2 j1 j2 (by show X.A.units + 1 < cLine; omega)
   · refine ⟨.ref (if ltI ms ns = true then b else a), H, I.kept kp, ?_, q⟩
     show (if HT.lexLt ms ns = true then Value.ref b else Value.ref a) = _
     rw [zec]
     split <;> rfl
def zdt (fr : AF) : EF := λ as => (fr as).bind λ p => match p.1 with
 | [.ow (.lf s d), .ow (.lf t e)] => (asL d).bind λ x => (asL e).bind λ y => (yL x).bind λ ns => (yL y).bind λ ms => some (.ow (if ltI ms ns = true then .lf t e else .lf s d), p.2)
 | _ => none
theorem zlf {e : Expr} {es : List Expr} {fr : AF} {p pos : Pos} (hc : X.calm = true) (hu : X.A.units + 100 < cLine) (hg : Gl X "min") (hm : X.mg "min" = none) (ha : AA X kd (e :: es) fr)
 (he : starEach (e :: es) X.env = (false, eval e X.env) :: starEach es X.env) (hpl : (backTo pos (starEach es X.env)).any (·.1) = false) : AE X kd (.Call (.Name "min" p) (e :: es) [] pos) (zdt fr) := by
 with_unfolding_all exact (yF (zbS (zgd hc hu) hg hm Bt.min ha (by decide) (by decide) he hpl) λ σ H Q h => by
  obtain ⟨F, B, ad, as, r, as', R, e, q⟩ := h
  obtain ⟨⟨rs, as1⟩, h1, e⟩ := bS_ (show (fr as).bind _ = _ from e)
  refine (show alA X.K kd fr σ H _ from ⟨F, B, ad, as, rs, as1, R, h1, λ vs ad1 H1 R1 rv1 g1 => ?_⟩)
  match rs, e, rv1 with
  | [.ow (.lf s d), .ow (.lf t e')], e, .cons r1 (.cons r2 .nil) =>
   obtain ⟨x, k1, e⟩ := bS_ (show (asL d).bind _ = _ from e)
   obtain ⟨y, k2, e⟩ := bS_ e
   obtain ⟨ns, k3, e⟩ := bS_ e
   obtain ⟨ms, k4, e⟩ := bS_ e
   cases e
   cases Xk k1
   cases Xk k2
   cases r1 with
   | lf p1 =>
    cases r2 with
    | lf p2 =>
     cases p1.vw with
     | lst l1 m1 =>
          cases p2.vw with
          | lst l2 m2 =>
           have e1 := XH m1 k3
           have e2 := XH m2 k4
           subst e1 e2
           refine ⟨_, _, ns, ms, rfl, l1.sq, l2.sq, ?_⟩
           by_cases hl : ltI ms ns = true
           · rw [if_pos hl] at q ⊢; exact q _ [] ad1 H1 R1 (.lf p2) g1
           · rw [if_neg hl] at q ⊢; exact q _ [] ad1 H1 R1 (.lf p1) g1)
end
end PF
end
section
namespace L2
open PySem PySem.Spec PyProof.Rows
theorem Inv.thaw {X : Cx} {pins : List (Addr × Obj)} {σ : St} {H : Hp} {s : Shared} {a : Addr} {o : Obj} {u : HO} (I : Inv X pins σ H s) (e : H a = some (.frz o u)) (hz : ∀ o u, X.H₀ a ≠ some (.frz o u)) : Inv X pins σ (upd H a u) s := by
 have ne : ∀ b, H b = none -> upd H a u b = none := λ b n => by rw [zQ (λ z => by rw [z, e] at n; cases n)]; exact n
 have nx : ∀ b w, H b = some w -> (∀ o u, w ≠ .frz o u) -> upd H a u b = some w := λ b w q n => by
  rw [zQ (λ z => by rw [z, e] at q; cases q; exact n _ _ rfl)]; exact q
 refine ⟨I.ok, I.os, I.bare, ⟨I.base.keep, I.base.slot, λ b ob q n hx => ne b (I.base.free b ob q n hx), I.base.there, λ b xs q => nx b _ (I.base.tups b xs q) (λ _ _ z => nomatch z), λ b ob w q => ?_, λ b ps q => ?_⟩, I.loc, I.cell, ne _ I.free, λ x c q => ne _ (I.freeC x c q), λ p hp => ?_, λ b w q => ?_, I.len⟩
 · rw [zQ (λ z => hz ob w (by rw [<- z]; exact q))]; exact I.base.frzs b ob w q
 · obtain ⟨m, q'⟩ := I.base.tbls b ps q
   exact ⟨m, nx b _ q' (λ _ _ z => nomatch z)⟩
 · obtain ⟨p1, p2, p3⟩ := I.pin p hp
   exact ⟨p1, ne _ p2, p3⟩
 · have st : ∀ {c : Addr} {w : HO}, yI X.prog X.w H s.heap c w -> yI X.prog X.w (upd H a u) s.heap c w := λ h => h.stay (λ _ _ _ z => z) (λ d z => nx d _ z (λ _ _ z => nomatch z)) (λ d xs z => nx d _ z (λ _ _ z => nomatch z))
   by_cases z : b = a
   · subst z
     rw [yc] at q
     cases q
     exact st (show yI X.prog X.w H s.heap b (.frz o u) from I.hok b _ e).2
   · rw [zQ z] at q
     exact st (I.hok b w q)
def zkC (sp : Sp) (E : XK) (t : TA) : TE := λ σ H Q => t σ H λ vs H1 => sp vs H1 (λ v H2 => Q v H2 \/ ∃ a o u, v = .ref a /\ H1 a = none /\ H2 a = some (.frz o u) /\ Q v (upd H2 a u)) E
theorem zjG {X : Cx} {CX : CXT} {k : Nat} {f : Addr} {fd : FuncData} {ps : List Str} {sp : Sp} {x : Str} {E : XK} {e : Expr} {es : List Expr} {t : TA} {p pos : Pos} (F : FnOk X.prog X.w X.K X.mg X.base CX k f fd ps sp) (hr : Room k X.A) (hg : Gl X x) (hm : X.mg x = some (.ref f)) (hk : PySem.W.keepIn X.K (.ref f) = true) (hb : Binds X.K fd ps []) (hx : zar CX X E)
 (ha : PA X (e :: es) t) (hdb : (x == ("__debug__" : Str)) = false) (he : starEach (e :: es) X.env = (false, eval e X.env) :: starEach es X.env) (hpl : (backTo pos (starEach es X.env)).any (·.1) = false) :
 PE X (.Call (.Name x p) (e :: es) [] pos) (zkC sp E t) := by
 intro pins s σ H Q I h
 refine wpAny_Call_Name_kw (zhC I hg hm ?_ hdb)
 refine PySem.W.callWith_K (h₀ := X.base) I.ok.mod.kin hk (thn (ha pos pins s σ H _ I h) λ us s1 ⟨vs, H1, I1, r, q⟩ => ⟨I1.kIn, ?_⟩) he hpl
 have q' := q
 rw [<- zyB vs] at q'
 refine thn (zkO F hr hb .nil hx I1 r q') λ u s2 ⟨v, H2, I2, rv, q2⟩ => ?_
 rcases q2 with q2 | ⟨a, o, w, ev, n1, e2, q2⟩
 · exact ⟨v, H2, I2, rv, q2⟩
 · exact ⟨v, _, I2.thaw e2 (λ o u z => by rw [I1.base.frzs a o u z] at n1; exact nomatch n1), rv, q2⟩
end L2
namespace PF
open PySem PySem.Spec PyProof.Rows L2
def zep (K : zC) : Bool := K.all λ p => match p.2.cls with | .type c => c != "list" | _ => true
theorem ziv {K : zC} (h : zep K = true) (a : Addr) (its : Array Value) (n : Nat) : K.lookup a ≠ some { cls := .type "list", data := .seq its n } := λ e => by
 unfold zep at h
 induction K with
 | nil => cases e
 | cons p K ih =>
  rw [List.all_cons, zzZ] at h
  obtain ⟨b, o⟩ := p
  rw [List.lookup_cons] at e
  split at e
  · cases e; exact absurd h.1 (show ¬ (("list" != "list") = true) by decide)
  · exact ih h.2 e
def zkm : O -> Option O
 | .lf true (.lst ds) => (yL ds).bind λ ns => some (.nd .ls (ns.map λ n => .lf true (.int n)))
 | .lf true d => if zH d = true then some (.lf true d) else none
 | .nd .ls os => some (.nd .ls os)
 | _ => none
def zao (fr : AF) (g : List (Bool × D) -> Option O) : EF := λ as => (fr as).bind λ p => (Xa p.2 p.1).bind λ x => (g (x.map λ y => (zH y.2, y.2))).bind λ o => (zkm o).bind λ o' => some (.ow o', p.2)
section
variable {X : Cx} {kd : KD} {fr : AF}
theorem ziL {K : zC} {F F' : Addr -> Prop} {H : Hp} {vs : List V} {ds : List (Bool × D)} (h : RpA K kd F H vs ds) : RpA K kd F' H vs (ds.map λ y => (zH y.2, y.2)) := by
 induction h with
 | nil => exact .nil
 | cons h _ ih =>
  rename_i v st d vs ds _
  refine .cons ?_ ih
  cases hf : zH d with
  | true => exact h.flat hf
  | false => exact (h.less (λ a z => nomatch z.1))
theorem zmi {g : List (Bool × D) -> Option O} {σ : St} {H : Hp} {Q : VK} {E : XK} (nl : ∀ a its n, X.K.lookup a ≠ some { cls := .type "list", data := .seq its n }) (h : al X.K kd (zao fr g) σ H Q) : zkC (spD X.K kd g) E (alA X.K kd fr) σ H Q := by
 obtain ⟨F, B, ad, as, r, as', R, e, q⟩ := h
 obtain ⟨⟨p, as1⟩, h1, e⟩ := bS_ (show (fr as).bind _ = _ from e)
 obtain ⟨ds, h2, e⟩ := bS_ e
 obtain ⟨o, h3, e⟩ := bS_ e
 obtain ⟨o', h4, e⟩ := bS_ e
 cases e
 refine ⟨F, B, ad, as, p, _, R, h1, λ vs ad1 H1 R1 rv1 g1 => ?_⟩
 refine ⟨λ a => H1 a ≠ none, _, o, λ a z => z, ziL (zhy R1 rv1 h2), h3, λ v T H' hn hl k hT ro => ?_⟩
 cases o with
 | nd kk os =>
  cases kk with
  | ls =>
   cases h4
   obtain ⟨R', g'⟩ := R1.news hn hl k hT
   have tr := R1.trk true
   have le : ∀ st a, Lv F B (Gw T ad1) st a -> Un2 (λ a => H1 a ≠ none) (· ∈ T) a := λ st a z => by
    rcases z with (z | z) | z | z
    · exact .inl (tr a (.inl (.inl ⟨rfl, z.2⟩)))
    · exact .inl (tr a (.inl (.inr z)))
    · exact .inr z
    · exact .inl (tr a (.inr (.inr z)))
   exact .inl (q v T ad1 H' R' (Ro.mono (λ st v d r => r.less (le st)) (λ a vs n e => ⟨λ z => n (le true a z), e⟩) (λ _ _ _ e => e) ro) (g1.trans g'))
  | _ => cases h4
 | lf st d =>
  cases st with
  | false => cases d <;> cases h4
  | true =>
   have flat : zH d = true -> ∀ o', some (O.lf true d) = some o' -> (∀ v T' ad' H', Rel X.K kd F B T' ad' as1 σ H' -> wU X.K kd F B T' ad' σ H' v (.ow o') -> Grow (Gw [] ad) H (Gw T' ad') H' -> Q v H') -> Q v H' := λ hf o' e q => by
    cases e
    cases ro with
    | lf rp =>
     obtain ⟨R', g'⟩ := R1.news (T' := []) zyG (λ _ m => nomatch m) k (λ _ m => nomatch m)
     exact q v [] ad1 H' R' (.lf (rp.flat hf)) (g1.trans g')
   cases d with
   | lst ds =>
    obtain ⟨ns, k1, k2⟩ := bS_ (show (yL ds).bind _ = _ from h4)
    cases k2
    cases ro with
    | lf rp =>
     cases rp with
     | lst hno hr rl =>
      rename_i a us
      have e := XH rl k1
      subst e
      have n1 : H1 a = none := by
       cases z : H1 a with
       | none => rfl
       | some w => exact absurd (.inl (show H1 a ≠ none by rw [z]; simp)) hno
      have fin : ∀ H2 : Hp, H2 a = some (.lst (ns.map V.int)) -> (∀ b u, H1 b = some u -> H2 b = some u) -> Q (.ref a) H2 := λ H2 e2 k2 => by
       obtain ⟨R', g'⟩ := R1.news (T' := [a]) (zzT.mpr ⟨zyZ, zyG⟩) (λ b m => by rw [zzO.mp m]; exact n1) k2 (λ b m => by rw [zzO.mp m, e2]; simp)
       refine q (.ref a) [a] ad1 H2 R' (.ls e2 ?_) (g1.trans g')
       have : ∀ ns : List Int, wY X.K kd F B (Gw [a] ad1) H2 (ns.map V.int) (ns.map λ n => O.lf true (.int n)) [] := λ ns => by
        induction ns with
        | nil => exact .nil
        | cons n ns ih => exact .cons (.lf (.int n)) ih
       exact this ns
      rcases hr with hr | ⟨o, hr⟩
      · exact .inl (fin H' hr k)
      · refine .inr ⟨a, o, _, rfl, n1, hr, fin _ yc λ b u z => ?_⟩
        rw [zQ (λ y => by rw [y, n1] at z; cases z)]
        exact k b u z
     | lstK ha _ _ _ => exact absurd ha (nl _ _ _)
   | non => exact .inl (flat rfl _ h4 q)
   | bl _ => exact .inl (flat rfl _ h4 q)
   | int _ => exact .inl (flat rfl _ h4 q)
   | str _ => exact .inl (flat rfl _ h4 q)
   | tup _ => cases h4
   | dct _ => cases h4
   | cl _ => cases h4
   | ob _ _ _ => cases h4
theorem ziM {k : Nat} {f : Addr} {fdt : FuncData} {ps : List Str} {gg : List (Bool × D) -> Option O} {e : Expr} {es : List Expr} {pos : Pos} {x : Str} {p : Pos} (nl : ∀ a its n, X.K.lookup a ≠ some { cls := .type "list", data := .seq its n }) (F : FnOk X.prog X.w X.K X.mg X.base CX0 k f fdt ps (spD X.K kd gg)) (hr : Room k X.A) (hg : Gl X x) (hm : X.mg x = some (.ref f)) (hk : PySem.W.keepIn X.K (.ref f) = true)
 (hb : Binds X.K fdt ps []) (hx : zar CX0 X (λ _ _ _ => False)) (ha : AA X kd (e :: es) fr) (hdb : (x == ("__debug__" : Str)) = false) (he : starEach (e :: es) X.env = (false, eval e X.env) :: starEach es X.env) (hpl : (backTo pos (starEach es X.env)).any (·.1) = false) :
 AE X kd (.Call (.Name x p) (e :: es) [] pos) (zao fr gg) := by with_unfolding_all exact (yF (zjG F hr hg hm hk hb hx ha hdb he hpl) λ σ H Q h => zmi nl h)
end
def zpI : D × Option Bool -> Option (List (Key × D) × Bool)
 | (.dct kvs, some st) => some (kvs, st)
 | _ => none
def zqo : List RV -> Option (RV × Bool × D)
 | [r, .ow (.lf s e)] => some (r, s, e)
 | _ => none
def zbH (fa : EF) (fr : AF) : EF := λ as => (fa as).bind λ p => (p.1.frz.view p.2).bind λ w => if ziI .dct w.1 = true then (fr p.2).bind λ q => (p.1.frz.view q.2).bind λ x => (zpI x).bind λ y => (zqo q.1).bind λ z => (z.1.view q.2).bind λ u => (zcv u.1).bind λ k =>
 some (.ow (match vL y.1 k with | some d => .lf y.2 d | none => .lf z.2.1 z.2.2), q.2) else none
section
variable {X : Cx} {kd : KD}
def zmV (kd : KD) : V -> List V -> Hp -> VK -> Prop := λ x xs H Q => ∃ a kvs k y, x = .ref a /\ (Rd H a (.dK kvs) \/ kd a kvs) /\ xs = [kV k, y] /\ Q ((Wy kvs k).getD y) H
theorem zmA (hk : KdOk X kd) : MtR X "dict.get" (zmV kd) := by
 intro pins s σ H x xs v us Q I rx r h
 obtain ⟨a, kvs, k, y, rfl, hr, rfl, q⟩ := h
 cases r with
 | cons rk rr =>
  cases rr with
  | cons ry rr =>
   cases rr
   cases rx
   obtain ⟨z, hd, vs, rel, dd⟩ := zaX I hk hr
   refine call_meetsIn PySem.F.slot_dict_get dd.typeIs PySem.F.entry_dict_get (PySem.F.args_dict_get_3 _ _ _) (meets_dict_get_default (yz X.prog X.w) _ (zce rk) hd _) ⟨_, dd.mapOf, ?_⟩
   exact ⟨_, H, I.tok _, (rel.val k).getD ry, q⟩
theorem zpc (hk : KdOk X kd) {fa : EF} {fr : AF} {σ : St} {H : Hp} {Q : VK} (h : al X.K kd (zbH fa fr) σ H Q) : tMD X (Ty.dct).nm (zmV kd) (al X.K kd fa) (alA X.K kd fr) σ H Q := by
 obtain ⟨F, B, ad, as, r, as', R, e, q⟩ := h
 obtain ⟨⟨p, as1⟩, h1, e⟩ := bS_ (show (fa as).bind _ = _ from e)
 obtain ⟨⟨d0, l0⟩, h0, e⟩ := bS_ e
 obtain ⟨hty, e⟩ := ite_some' e
 obtain ⟨⟨ps, as2⟩, h2, e⟩ := bS_ e
 obtain ⟨⟨d, lv⟩, h3, e⟩ := bS_ e
 obtain ⟨⟨kvs, st⟩, h4, e⟩ := bS_ e
 obtain ⟨⟨rk, s, x⟩, h5, e⟩ := bS_ e
 obtain ⟨⟨du, lu⟩, h6, e⟩ := bS_ e
 obtain ⟨k, h7, e⟩ := bS_ e
 cases e
 refine Xe R h1 λ v ad1 H1 R1 rv1 g1 => ⟨zni hk (wU.vw R1 rv1 h0) hty, F, B, ad1, as1, ps, _, R1, h2, λ vs ad2 H2 R2 rv2 g2 => ?_⟩
 have vw := wU.vw R2 (rv1.grow g2) h3
 match d, lv, h4, vw with
 | .dct _, some _, h4, vw =>
  cases h4
  match ps, h5, rv2 with
  | [_, .ow (.lf _ _)], h5, .cons r1 (.cons r2 .nil) =>
   cases h5
   have ek := zdx (wU.vw R2 r1 h6) h7
   subst ek
   cases r2 with
   | lf rp =>
    cases vw with
    | dct hr rm =>
     refine ⟨_, _, k, _, rfl, hr, rfl, ?_⟩
     rcases zbx k rm with ⟨v1, d1, e1, e2, rp1⟩ | ⟨e1, e2⟩
     · rw [e1]
       refine q _ [] ad2 H2 R2 ?_ (g1.trans g2)
       show RoS X.K kd F B (Gw [] ad2) H2 v1 (match vL kvs k with | some d => .lf st d | none => .lf s x) []
       rw [e2]
       exact .lf rp1
     · rw [e1]
       refine q _ [] ad2 H2 R2 ?_ (g1.trans g2)
       show RoS X.K kd F B (Gw [] ad2) H2 _ (match vL kvs k with | some d => .lf st d | none => .lf s x) []
       rw [e2]
       exact .lf rp
theorem zmt {a e : Expr} {es : List Expr} {fa : EF} {fr : AF} {apos cpos : Pos} (hk : KdOk X kd) (ho : AE X kd a fa) (ha : AA X kd (e :: es) fr)
 (hbase : attributeBase a "get" X.env (eval a X.env) = eval a X.env)
 (hfew : ((backTo cpos (starEach (e :: es) X.env)).all (λ x => !x.1) && (backToKw cpos (keywordEach [] X.env)).all (λ x => x.1.isSome)
  && decide ((e :: es).length + ([] : List Keyword).length + (if ([] : List Keyword).isEmpty then 0 else 1) < 30)) = true)
 (hline : (apos.endLine == cpos.line) = true) (hs : starEach (e :: es) X.env = (false, eval e X.env) :: starEach es X.env) (hplain : (backTo cpos (starEach es X.env)).any (·.1) = false) :
 AE X kd (.Call (.Attribute a "get" apos) (e :: es) [] cpos) (zbH fa fr) := by with_unfolding_all exact (yF (zmT PySem.F.plainAttrs_dict PySem.F.slot_dict_get PySem.F.type_dict_get (zmA hk) ho ha hbase hfew hline hs hplain) λ σ H Q h => zpc hk h)
end
abbrev InR (n : Nat) (x : Int) : Prop := 0 <= x /\ x < (n : Int)
structure LJ (n : Nat) (j : Int -> Int -> Int) (e : Int) : Prop where
 cl : ∀ a b, InR n a -> InR n b -> InR n (j a b)
 ce : InR n e
 ul : ∀ a, InR n a -> j e a = a
 ur : ∀ a, InR n a -> j a e = a
 as : ∀ a b c, InR n a -> InR n b -> InR n c -> j (j a b) c = j a (j b c)
structure LD (n m : Nat) (j : Int -> Int -> Int) (e : Int) (d : Int -> Int -> Int) : Prop where
 cl : ∀ c a, InR m c -> InR n a -> InR n (d c a)
 em : d 0 e = e
 dn : ∀ a i b k, InR n a -> InR m i -> InR n b -> InR m k -> d ((i + k) % m) (j a b) = j (d i a) (d k b)
theorem zkk {x : Int} {n : Nat} (hn : 0 < n) : InR n (x % n) := ⟨zyK _ (by omega), zyE _ (by omega)⟩
def jS (n : Nat) (a b : Int) : Int := (a + b) % n
def jM (a b : Int) : Int := if b > a then b else a
def jL (a b : Int) : Int := if b = 0 then a else b
theorem four {P : Int -> Prop} (h0 : P 0) (h1 : P 1) (h2 : P 2) (h3 : P 3) {a : Int} (h : InR 4 a) : P a := by
 rcases (show a = 0 \/ a = 1 \/ a = 2 \/ a = 3 by have := h.1; have := h.2; omega) with rfl | rfl | rfl | rfl <;> assumption
theorem f4 {P : Int -> Prop} (h : ∀ a ∈ ([0, 1, 2, 3] : List Int), P a) {a : Int} (ha : InR 4 a) : P a := four (h 0 (by decide)) (h 1 (by decide)) (h 2 (by decide)) (h 3 (by decide)) ha
theorem zqE {n1 n2 : Nat} {x y : Int} (hx : InR n1 x) (hy : InR n2 y) : InR (n1 * n2) (x * n2 + y) := by
 have h1 : 0 <= x * n2 := Int.mul_nonneg hx.1 (by omega)
 have h2 : x * n2 <= ((n1 : Int) - 1) * n2 := Int.mul_le_mul_of_nonneg_right (by have := hx.2; omega) (by omega)
 rw [Int.sub_mul, Int.one_mul] at h2
 refine ⟨by have := hy.1; omega, ?_⟩
 rw [zzS]
 have := hy.2
 omega
theorem zaB {n1 n2 : Nat} {p : Int} (h2 : 0 < n2) (h : InR (n1 * n2) p) : InR n1 (p / n2) /\ InR n2 (p % n2) :=
 ⟨⟨Int.ediv_nonneg h.1 (by omega), Int.ediv_lt_of_lt_mul (by omega) (by have := h.2; rw [zzS] at this; exact this)⟩, zkk h2⟩
def jB (n2 : Nat) (j1 j2 : Int -> Int -> Int) (p q : Int) : Int := j1 (p / n2) (q / n2) * n2 + j2 (p % n2) (q % n2)
theorem tS {a : Int} {n : Nat} (h0 : 0 <= a) (h1 : a < n) : a.toNat < n := Int.ofNat_lt.mp (by rw [zyW h0]; exact h1)
theorem iT {n : Nat} {x : Int} (h : InR n x) : x.toNat < n := Int.ofNat_lt.mp (by rw [zyW h.1]; exact h.2)
theorem iC {n : Nat} {x : Int} (h : InR n x) : ((x.toNat : Nat) : Int) = x := zyW h.1
def rAt (r : List Int) (v : Int) : Int := (r[v.toNat]?).getD 0
def jAt (J : List (List Int)) (w v : Int) : Int := rAt ((J[w.toNat]?).getD []) v
local macro_rules | `(tactic| trivial) => `(tactic| first | with_reducible first | assumption | exact Int.natCast_nonneg _ | exact Nat.le_refl _ | exact Int.le_refl _ | exact rfl | exact leN (by assumption) | exact np1 (by assumption) | exact np2 (by assumption) | exact nq1 (by assumption) | exact nq2 (by assumption) | exact Int.natCast_pos.mpr (by assumption) | exact Nat.le_trans (by assumption) (by decide) | exact bgL _ | exact bgU (by assumption) | exact mU (by assumption) | exact zI _ | exact bL0 (by assumption) | exact bU0 (by assumption) (by assumption) | exact iL (by assumption) | exact iU (by assumption) (by assumption) | exact iC (by assumption) | exact iT (by assumption) | exact stL (by assumption) | exact stU (by assumption) | exact lnK (by assumption) (by assumption) (by assumption) | exact zi1 _ | exact lnE (by assumption) | exact ltL (by assumption) | exact Int.toNat_of_nonneg (by assumption) | exact tS (by assumption) (by assumption) | exact b6 (by assumption) | exact Int.emod_nonneg _ (by decide) | exact Int.emod_lt_of_pos _ (by decide) | decide | omega)
abbrev lfI (x : Int) : O := .lf true (.int x)
abbrev sI (x : Int) : Option O := some (lfI x)
abbrev sT (d : D) : Option O := some (.lf true d)
abbrev sN (os : List O) : Option O := some (.nd .ls os)
abbrev TZ : Type := List (List Int)
abbrev DD : Type := List (Str × TZ)
abbrev SS : Type := List (Str × List Int)
theorem zhP {f : EF} {as as1 : AS} {o : O} (h : f as = some (.ow o, as1)) (hs : o.str = true) : yZ f as = some (.rt o) := by
 unfold yZ; rw [h]
 show ((if o.str = true then some o else none).bind _) = _
 rw [if_pos hs]; rfl
theorem vM : ∀ xs : List Int, (xs.map lfI).all O.isLf = true /\ O.strs (xs.map lfI) = true /\ O.toDs (xs.map lfI) = xs.map D.int
 | [] => ⟨rfl, rfl, rfl⟩
 | x :: r => ⟨(vM r).1, (vM r).2.1, congrArg (D.int x :: ·) (vM r).2.2⟩
theorem zmF (xs : List Int) : (xs.map D.int).map (O.lf true) = xs.map lfI := by rw [zzY]; rfl
theorem V1 (ys : List Int) (w : Int) : (ys ++ [w]).map lfI = ys.map lfI ++ [O.lf true (.int w)] := by rw [zyJ]; rfl
theorem Vy (xs : List Int) : (O.nd .ls (xs.map lfI)).str = true /\ (O.nd .ls (xs.map lfI)).toD = .lst (xs.map D.int) := ⟨(vM xs).2.1, congrArg D.lst (vM xs).2.2⟩
abbrev zaa (r : List Int) : O := .nd .ls (r.map lfI)
abbrev zq (r : List Int) : D := .lst (r.map D.int)
theorem zbA : ∀ T : TZ, O.strs (T.map zaa) = true /\ O.toDs (T.map zaa) = T.map zq
 | [] => ⟨rfl, rfl⟩
 | r :: T => ⟨by show (O.strs (r.map lfI) && O.strs (T.map zaa)) = true; rw [(vM r).2.1, (zbA T).1]; rfl, by
  show D.lst (O.toDs (r.map lfI)) :: O.toDs (T.map zaa) = _
  rw [(vM r).2.2, (zbA T).2]; rfl⟩
theorem zcy {g : GF} {fe : EF} {as0 as1 : AS} {y : It1} {r : List It1} {o : O} {os : List O} (h1 : g y as0 = some as1) (h2 : fe as1 = some (.ow o, as1)) (hs : o.str = true) (h3 : yW g xX fe as0 r = some os) : yW g xX fe as0 (y :: r) = some (o :: os) := by
 unfold yW
 rw [h1]; show ((fe as1).bind _) = _
 rw [h2]; show (if o.str = true then _ else _) = _
 rw [if_pos hs, h3]; rfl
theorem wG : ∀ (n : Nat) (k : Int), (wI k n).length = n
 | 0, _ => rfl
 | n + 1, k => by rw [zag]; exact congrArg (· + 1) (wG n (k + 1))
theorem zhA : ∀ {n : Nat} {k : Int} {y : It1}, y ∈ wI k n -> ∃ b : Int, y = (true, .int b) /\ k <= b /\ b < k + n
 | 0, _, _, h => nomatch h
 | n + 1, k, y, h => by
  rw [zag] at h
  rcases zS.mp h with rfl | h
  · exact ⟨k, rfl, by trivial, by trivial⟩
  · obtain ⟨b, e, h1, h2⟩ := zhA h
    exact ⟨b, e, by trivial, by trivial⟩
theorem zdu {α : Type} (toD : α -> D) {Q : α -> Prop} {g : GF} {fe : EF} {as0 : AS} : ∀ {xs : List It1}, (∀ y ∈ xs, ∃ as1 a, g y as0 = some as1 /\ WE fe as1 (toD a) /\ Q a) -> ∃ (os : List O) (l : List α), yW g xX fe as0 xs = some os /\ O.strs os = true /\ O.toDs os = l.map toD /\ l.length = xs.length /\ ∀ a ∈ l, Q a
 | [], _ => ⟨[], [], rfl, rfl, rfl, rfl, λ _ m => nomatch m⟩
 | y :: xs, H => by
  obtain ⟨as1, a, h1, ⟨o, h2, h3, h4⟩, h5⟩ := H y (zzC ..)
  obtain ⟨os, l, a1, a2, a3, a4, a5⟩ := zdu toD (Q := Q) (g := g) (fe := fe) (as0 := as0) (xs := xs) λ z m => H z (zzA _ m)
  refine ⟨o :: os, a :: l, zcy h1 h2 h3 a1, by show (o.str && O.strs os) = true; rw [h3, a2]; rfl, by show o.toD :: O.toDs os = _; rw [h4, a3]; rfl, congrArg (· + 1) a4, λ b m => ?_⟩
  rcases zS.mp m with rfl | m
  · exact h5
  · exact a5 b m
theorem zmq {α : Type} (toD : α -> D) {Q : α -> Prop} {fi : IF} {cap : List (Option Nat)} {g : GF} {fe : EF} {as : AS} {xs : List It1} (h1 : fi as = some (xs, as)) (hl : xs.length <= 1000) (H : ∀ y ∈ xs, ∃ as1 a, g y (ZP cap as) = some as1 /\ WE fe as1 (toD a) /\ Q a) :
 ∃ l : List α, l.length = xs.length /\ (∀ a ∈ l, Q a) /\ WE (yj fi cap g xX fe) as (.lst (l.map toD)) := by
 obtain ⟨os, l, a1, a2, a3, a4, a5⟩ := zdu toD H
 exact ⟨l, a4, a5, _, zbz h1 (szs (by trivial)) a1, a2, congrArg D.lst a3⟩
theorem zjX {α : Type} (toD : α -> D) {Q : α -> Prop} {fr : AF} {cap : List (Option Nat)} {fe : EF} {as : AS} {n : Nat} {u : Bool} (h1 : WA fr as [(u, .int n)]) (hl : n <= 1000) (H : ∀ b : Int, 0 <= b -> b < n -> ∃ as1 a, gN 0 (true, .int b) (ZP cap as) = some as1 /\ WE fe as1 (toD a) /\ Q a) :
 ∃ l : List α, l.length = n /\ (∀ a ∈ l, Q a) /\ WE (yj (yX fr xq) cap (gN 0) xX fe) as (.lst (l.map toD)) := by
 obtain ⟨l, a1, a2, a3⟩ := zmq toD (Q := Q) (cap := cap) (g := gN 0) (fe := fe) (wR h1 (by trivial) (by trivial)) (by rw [wG]; trivial) (λ y m => by
  obtain ⟨b, rfl, h0, h2⟩ := zhA m
  exact H b h0 (by trivial))
 rw [wG] at a1
 exact ⟨l, by trivial, a2, a3⟩
def Row (n : Nat) (r : List Int) : Prop := r.length = n /\ ∀ x ∈ r, 0 <= x /\ x < (n : Int)
def Tab (k n : Nat) (T : TZ) : Prop := T.length = k /\ ∀ r ∈ T, Row n r
abbrev ZQ (T : TZ) : D := .lst (T.map zq)
theorem znX {r : List Int} {P : Int -> Prop} {k : Int} (h0 : 0 <= k) (h1 : k < r.length) (hp : ∀ x ∈ r, P x) : ∃ x, ixP (zq r) (.int k) = some (.im (.int x)) /\ P x := by
 have hk : k.toNat < r.length := by trivial
 refine ⟨r[k.toNat], ?_, hp _ (zyX hk)⟩
 have h := xY (xs := r.map D.int) (j := k.toNat) (v := D.int r[k.toNat]) (by rw [zzF, zzB hk]; rfl)
 rw [show ((k.toNat : Nat) : Int) = k by trivial] at h
 show imR (atI _ _) = _
 rw [h]; rfl
theorem zfH {α : Type} {f : α -> D} {l : List α} {i : Nat} {p : α} (h : l[i]? = some p) : ixP (.lst (l.map f)) (.int (i : Int)) = some (.im (f p)) := by
 have h := xY (xs := l.map f) (j := i) (v := f p) (by rw [zzF, h]; rfl)
 show imR (atI _ _) = _
 rw [h]; rfl
theorem zoG {n k : Nat} {r : List Int} {v : Int} (hl : r.length = k) (hr : ∀ x ∈ r, InR n x) (hv : InR k v) : ixP (zq r) (.int v) = some (.im (.int (rAt r v))) /\ InR n (rAt r v) := by
 have hk : v.toNat < r.length := by rw [hl]; have := hv.1; have := hv.2; trivial
 have g := zzB hk
 have e : rAt r v = r[v.toNat] := by unfold rAt; rw [g]; rfl
 rw [e]
 refine ⟨?_, hr _ (zyX hk)⟩
 have := zfH (f := D.int) g
 rw [show ((v.toNat : Nat) : Int) = v by have := hv.1; trivial] at this
 exact this
abbrev zdA (T : TZ) (w : Int) : List Int := (T[w.toNat]?).getD []
theorem zaf {k n : Nat} {T : TZ} {w : Int} (hT : Tab k n T) (hw : InR k w) : ixP (ZQ T) (.int w) = some (.im (zq (zdA T w))) /\ Row n (zdA T w) := by
 have hk : w.toNat < T.length := by rw [hT.1]; have := hw.1; have := hw.2; trivial
 have g := zzB hk
 unfold zdA
 rw [g]
 refine ⟨?_, hT.2 _ (zyX hk)⟩
 have := zfH (f := zq) g
 rw [show ((w.toNat : Nat) : Int) = w by have := hw.1; trivial] at this
 exact this
theorem rowAt {n : Nat} {r : List Int} {v : Int} (hr : Row n r) (hv : InR n v) : ixP (zq r) (.int v) = some (.im (.int (rAt r v))) /\ InR n (rAt r v) := zoG hr.1 hr.2 hv
theorem zhw {α : Type} (toD : α -> D) {Q : Nat -> α -> Prop} {g : GF} {fe : EF} {as0 : AS} : ∀ {xs : List It1} (k : Nat), (∀ i y, xs[i]? = some y -> ∃ as1 a, g y as0 = some as1 /\ WE fe as1 (toD a) /\ Q (k + i) a) -> ∃ (os : List O) (l : List α), yW g xX fe as0 xs = some os /\ O.strs os = true /\ O.toDs os = l.map toD /\ l.length = xs.length /\ ∀ i a, l[i]? = some a -> Q (k + i) a
 | [], k, _ => ⟨[], [], rfl, rfl, rfl, rfl, λ i a h => by simp at h⟩
 | y :: xs, k, H => by
  obtain ⟨as1, a, h1, ⟨o, h2, h3, h4⟩, h5⟩ := H 0 y rfl
  obtain ⟨os, l, a1, a2, a3, a4, a5⟩ := zhw toD (Q := Q) (g := g) (fe := fe) (as0 := as0) (xs := xs) (k + 1) λ i z m => by
   have := H (i + 1) z (by simpa using m)
   rwa [show k + (i + 1) = k + 1 + i by trivial] at this
  refine ⟨o :: os, a :: l, zcy h1 h2 h3 a1, by show (o.str && O.strs os) = true; rw [h3, a2]; rfl, by show o.toD :: O.toDs os = _; rw [h4, a3]; rfl, congrArg (· + 1) a4, λ i b m => ?_⟩
  cases i with
  | zero => simp at m; subst m; exact h5
  | succ i =>
   have := a5 i b (by simpa using m)
   rwa [show k + 1 + i = k + (i + 1) by trivial] at this
theorem zqj {α : Type} (toD : α -> D) {Q : Nat -> α -> Prop} {fi : IF} {cap : List (Option Nat)} {g : GF} {fe : EF} {as : AS} {xs : List It1} (h1 : fi as = some (xs, as)) (hl : xs.length <= 1000) (H : ∀ i y, xs[i]? = some y -> ∃ as1 a, g y (ZP cap as) = some as1 /\ WE fe as1 (toD a) /\ Q i a) :
 ∃ l : List α, l.length = xs.length /\ (∀ i a, l[i]? = some a -> Q i a) /\ WE (yj fi cap g xX fe) as (.lst (l.map toD)) := by
 obtain ⟨os, l, a1, a2, a3, a4, a5⟩ := zhw toD (Q := Q) (g := g) (fe := fe) (as0 := ZP cap as) 0 (λ i y h => by rw [zyV]; exact H i y h)
 exact ⟨l, a4, (λ i a h => by have := a5 i a h; rwa [zyV] at this), _, zbz h1 (szs (by trivial)) a1, a2, congrArg D.lst a3⟩
theorem strs_snoc : ∀ (os : List O) (o : O), O.strs os = true -> o.str = true -> O.strs (os ++ [o]) = true
 | [], o, _, h => by show (o.str && true) = true; rw [h]; rfl
 | p :: r, o, h, h' => by
  have h := (zzZ _ _).mp (show (p.str && O.strs r) = true from h)
  show (p.str && O.strs (r ++ [o])) = true
  rw [h.1, strs_snoc r o h.2 h']; rfl
theorem zdv : ∀ (os : List O) (o : O), O.toDs (os ++ [o]) = O.toDs os ++ [o.toD]
 | [], o => rfl
 | p :: r, o => congrArg (p.toD :: ·) (zdv r o)
structure Ows {α : Type} (toD : α -> D) (Q : α -> Prop) (os : List O) (l : List α) : Prop where
 st : O.strs os = true
 ds : O.toDs os = l.map toD
 al : ∀ a ∈ l, Q a
 ln : os.length = l.length
theorem Ows.nil {α : Type} {toD : α -> D} {Q : α -> Prop} : Ows toD Q [] [] := ⟨rfl, rfl, (λ _ m => nomatch m), rfl⟩
theorem Ows.snoc {α : Type} {toD : α -> D} {Q : α -> Prop} {os : List O} {l : List α} {o : O} {a : α} (h : Ows toD Q os l) (h1 : o.str = true) (h2 : o.toD = toD a) (h3 : Q a) : Ows toD Q (os ++ [o]) (l ++ [a]) :=
 ⟨strs_snoc os o h.st h1, (by rw [zdv, h.ds, h2, zyJ]; rfl), (λ b m => (zzJ.mp m).elim (h.al b) λ m => (by rw [zzO.mp m]; exact h3)), (by rw [zzG, zzG, h.ln]; rfl)⟩
theorem VN {as as1 : AS} {a : EF} {i : Nat} {os0 os : List O} {o : O} (h : as[i]? = some (sN os0)) (ha : a as = some (.ow o, as1)) (h1 : as1[i]? = some (sN os)) (hl : os.length < sizeLine) : ww (vg i (dC a dN) vC) as = some (.nx (as1.set i (sN (os ++ [o])))) := by
 unfold ww vg; rw [h]
 have e : dC a dN as = some ([o], as1) := wW ha rfl
 show ((dC a dN as).bind _).bind _ = _
 rw [e]; show (Option.bind (match as1[i]? with | some (some (.nd .ls os)) => _ | _ => none) _) = _
 rw [h1]; show ((vC os [o]).bind _).bind _ = _
 have e2 : vC os [o] = some (os ++ [o], .lf true .non) := by unfold vC; exact if_pos hl
 rw [e2]; rfl
theorem zqB {α : Type} {toD : α -> D} {Q : α -> Prop} {as : AS} {a : EF} {i : Nat} {os : List O} {l : List α} {x : α} (h : as[i]? = some (sN os)) (ho : Ows toD Q os l) (hl : l.length < 1000) (ha : WE a as (toD x)) (hx : Q x) :
 ∃ os', Ows toD Q os' (l ++ [x]) /\ ww (vg i (dC a dN) vC) as = some (.nx (as.set i (sN os'))) := by
 obtain ⟨o, h1, h2, h3⟩ := ha
 exact ⟨os ++ [o], ho.snoc h2 h3 hx, VN h h1 h (by rw [ho.ln]; exact zW (by trivial))⟩
theorem Ows.retB {α : Type} {toD : α -> D} {Q : α -> Prop} {as : AS} {i : Nat} {os : List O} {l : List α} (h : as[i]? = some (sN os)) (ho : Ows toD Q os l) : Rt (yZ (fV i) as) (.lst (l.map toD)) :=
 ⟨_, zbw h ho.st, ho.st, congrArg D.lst ho.ds⟩
structure OwsX {α : Type} (toD : α -> D) (Q : Nat -> α -> Prop) (os : List O) (l : List α) : Prop where
 st : O.strs os = true
 ds : O.toDs os = l.map toD
 al : ∀ i a, l[i]? = some a -> Q i a
 ln : os.length = l.length
theorem zkL {fr : AF} {as : AS} {rs : List (Bool × D)} {g : List D -> Option R0} {zs : List D} (ha : WA fr as rs) (hg : g (rs.map (·.2)) = some (.fl zs)) : fP fr g as = some (.ow (.nd .ls (zs.map (lfs (rs.all (·.1))))), as) := by
 unfold fP; unfold WA at ha
 rw [ha]; show (views as _).bind _ = _
 rw [YF]; show (g _).bind _ = _
 rw [hg]
 show (if (zs.all zH || (some (rs.all (·.1))).isSome) = true then _ else _ : Option RV).bind _ = _
 rw [if_pos (by simp)]; rfl
theorem ziW {a : EF} {as : AS} {x : D} {g : List D -> Option R0} {zs : List D} (ha : WE a as x) (hg : g [x] = some (.fl zs)) : fP (aC a aN) g as = some (.ow (.nd .ls (zs.map (O.lf true))), as) := by
 have := zkL (g := g) (Xu ha (zX (as := as))) hg
 rw [show ([(true, x)].all (·.1)) = true from rfl, Vr] at this
 exact this
theorem zqn {a : EF} {as : AS} {s : Bool} {r : List Int} (h : WD a as s (zq r)) : fP (aC a aN) lstP as = some (.ow (zaa r), as) := by
 have := zkL (g := lstP) (zG h (zX (as := as))) rfl
 rw [zzY] at this
 exact this
theorem zgc {a : EF} {as : AS} {s : Bool} {r : List Int} (h : WD a as s (zq r)) : WE (fP (aC a aN) lstP) as (zq r) := ⟨_, zqn h, (Vy r).1, (Vy r).2⟩
theorem zok {a b c d : EF} {as : AS} {x y z u w : D} {g : List (Bool × D) -> Option O} (ha : WE a as x) (hb : WE b as y) (hc : WE c as z) (hd : WE d as u) (hg : RE (g [(true, x), (true, y), (true, z), (true, u)]) w) : WE (zO (aC a (aC b (aC c (aC d aN)))) g) as w := by
 obtain ⟨o, h1, h2⟩ := hg
 exact ⟨o, Wn (Xu ha (Xu hb (Xu hc (Xu hd zX)))) (by show g [(zH x || true, x), (zH y || true, y), (zH z || true, z), (zH u || true, u)] = _; rw [zyA, zyA, zyA, zyA]; exact h1), h2⟩
theorem zre {fr : DF} {as : AS} {os : List O} {x : D} (h : WO fr as os) (hl : os.length <= sizeLine) (hs : O.strs os = true) (e : D.tup (O.toDs os) = x) : WE (Zo fr) as x := by
 refine ⟨_, zgE h hl, ?_, ?_⟩
 · unfold Z0
   split
   · exact hs
   · exact hs
 · unfold Z0
   split
   · exact e
   · exact e
theorem zdz {r : List Int} {a : Int} (h : a.toNat < r.length) : rAt r a = r[a.toNat] := by unfold rAt; rw [zzB h]; rfl
theorem zop {as : AS} {i : Nat} {os : List O} {fl fh : OF} {lo hi : Option Int} (h : as[i]? = some (sN os)) (hl : os.all O.isLf = true) (hs : O.strs os = true) (h1 : fl as = some (lo, as)) (h2 : fh as = some (hi, as)) :
 fSl (fV i) fl fh slP as = some (.ow (.nd .ls ((cutD (O.toDs os) lo hi).map (O.lf true))), as) := by
 unfold fSl
 rw [W5 h]; show ((fl as).bind _) = _
 rw [h1]; show ((fh as).bind _) = _
 rw [h2]; show ((RV.view as (.bo i)).bind _) = _
 rw [Y9 h]
 have e : (O.nd .ls os).kl = some true := by simp only [O.kl, hl, if_true, hs]
 rw [e]
 show (wrap (some true) (.fl (cutD (O.toDs os) lo hi))).bind _ = _
 show (if ((cutD (O.toDs os) lo hi).all zH || true) = true then some (RV.ow (.nd .ls ((cutD (O.toDs os) lo hi).map (lfs true)))) else none : Option RV).bind _ = _
 rw [if_pos (by simp), Vr]; rfl
theorem Ows.frz {α : Type} {toD : α -> D} {Q : α -> Prop} {os : List O} {l : List α} (h : Ows toD Q os l) : (O.nd .ls os).frz = .lf true (.lst (l.map toD)) := by
 show O.lf (O.strs os) (.lst (O.toDs os)) = _
 rw [h.st, h.ds]
theorem zgi {as as2 : AS} {j : Nat} {ps : List O} {fr : DF} {os : List O} (hj : as[j]? = some (sN ps)) (hr : fr (as.set j (some (O.nd .ls ps).frz)) = some (os, as2)) : dC (fV j) fr as = some ((O.nd .ls ps).frz :: os, as2) := by
 unfold dC
 rw [W5 hj]
 show ((toO as (.bo j)).bind _) = _
 rw [zoW hj]
 show (fr (as.set j (some (O.nd .ls ps).frz))).bind _ = _
 rw [hr]; rfl
theorem zhF {as as1 : AS} {fr : DF} {os : List O} (h : fr as = some (os, as1)) (hl : os.length <= sizeLine) : Zo fr as = some (.ow (Z0 os), as1) := by
 unfold Zo
 rw [h]; show (if os.length <= sizeLine then _ else _) = _
 rw [if_pos hl]
theorem zbX : ∀ (l : List Int) (k : Nat) (h : k < l.length), (l[k] :: l.eraseIdx k).Perm l
 | x :: r, 0, _ => List.Perm.refl _
 | x :: r, k + 1, h => (List.Perm.swap _ _ _).trans ((zbX r k (by simpa using h)).cons x)
abbrev zcR (n : Nat) : List Int := (List.range n).map λ (i : Nat) => (i : Int)
abbrev wu (p : Str × List Int) : D := .tup [.str p.1, zq p.2]
theorem zjj {x y : Int} {c : Bool} : ixP (.lst [.int x, .int y]) (.int (if c = true then 1 else 0)) = some (.im (.int (if c = true then y else x))) := by cases c <;> rfl
abbrev abc : Str := "abcdefghijklmnopqrstuvwxyz"
theorem zla : ∀ k, k < 26 -> abc.cps.toList[k]? = some (97 + k) := by decide +kernel
theorem zoY {i : Int} (h0 : 0 <= i) (h1 : i < 26) : ixP (.str abc) (.int i) = some (.im (.str ⟨#[97 + i.toNat]⟩)) := by
 show (if abc.length <= sizeLine then (atI abc.cps.toList i).bind (λ c => some (R0.im (.str ⟨#[c]⟩))) else none) = _
 rw [if_pos (show abc.length <= sizeLine by decide +kernel)]
 have := xY (zla i.toNat (by trivial))
 rw [show ((i.toNat : Nat) : Int) = i by trivial] at this
 rw [this]; rfl
theorem zff : ∀ l : List Str, zaP (l.map D.str) = some l
 | [] => rfl
 | x :: r => by
  show (zaP (r.map D.str)).bind _ = _
  rw [zff r]; rfl
theorem zpH : ∀ l : List Str, (∀ s ∈ l, s.length = 1) -> (l.map (·.length)).sum = l.length
 | [], _ => rfl
 | x :: r, h => by
  show x.length + (r.map (·.length)).sum = r.length + 1
  rw [h x (zzC ..), zpH r λ s m => h s (zzA _ m)]; trivial
theorem zmj {α : Type} (toD : α -> D) {Q : Nat -> α -> Prop} {fr : AF} {cap : List (Option Nat)} {fe : EF} {as : AS} {n : Nat} {u : Bool} (h1 : WA fr as [(u, .int n)]) (hl : n <= 1000) (H : ∀ i : Nat, i < n -> ∃ as1 a, gN 0 (true, .int (i : Int)) (ZP cap as) = some as1 /\ WE fe as1 (toD a) /\ Q i a) :
 ∃ l : List α, l.length = n /\ (∀ i a, l[i]? = some a -> Q i a) /\ WE (yj (yX fr xq) cap (gN 0) xX fe) as (.lst (l.map toD)) := by
 obtain ⟨l, a1, a2, a3⟩ := zqj toD (Q := Q) (cap := cap) (g := gN 0) (fe := fe) (wR h1 (by trivial) (by trivial)) (by rw [wG]; trivial) (λ i y m => by
  obtain ⟨rfl, hi⟩ := vQ m
  rw [Int.zero_add]
  exact H i (by trivial))
 rw [wG] at a1
 exact ⟨l, by trivial, a2, a3⟩
theorem VR {F : List Int} {n : Nat} (h : F.Perm (zcR n)) : Row n F /\ ∀ b : Int, 0 <= b -> b < n -> b ∈ F := by
 refine ⟨⟨by rw [h.length_eq, zD, zyR], λ x m => ?_⟩, λ b b0 b1 => h.mem_iff.mpr ?_⟩
 · obtain ⟨i, hi, rfl⟩ := zxB.mp (h.mem_iff.mp m)
   have := List.mem_range.mp hi
   trivial
 · exact zxB.mpr ⟨b.toNat, List.mem_range.mpr (by trivial), by trivial⟩
theorem zjK {F : List Int} {n : Nat} (h : F.Perm (zcR n)) {v w : Int} (hv : InR n v) (hw : InR n w) (e : rAt F v = rAt F w) : v = w := by
 have hl := (VR h).1.1
 have v0 := hv.1
 have v1 := hv.2
 have w0 := hw.1
 have w1 := hw.2
 have nd : F.Nodup := by
  refine h.nodup_iff.mpr (List.pairwise_map.mpr (List.nodup_range.imp λ z q => z (by trivial)))
 rw [zdz (by trivial), zdz (by trivial)] at e
 have := (List.getElem_inj nd).mp e
 trivial
theorem zqX {f : EF} {g : GF} {as as' : AS} {x : D} (h : WE f as x) (hg : g (true, x) as = some as') : zcI f g as = some (.nx as') := by
 obtain ⟨o, h1, h2, h3⟩ := h
 exact zfM h1 (by rw [h2, h3]; exact hg)
abbrev zcg (p : Str × TZ) : D := .tup [.str p.1, ZQ p.2]
structure Alg (n m : Nat) (J : TZ) (e : Int) (Ds : DD) : Prop where
 n1 : 1 <= n
 n8 : n <= 8
 m1 : 1 <= m
 m6 : m <= 6
 j : Tab n n J
 e0 : 0 <= e
 en : e < n
 dl : Ds.length <= 6
 ds : ∀ p ∈ Ds, Tab m n p.2
 nd : (Ds.map (·.1)).Nodup
structure LawA (n m : Nat) (J : TZ) (e : Int) (Ds : DD) : Prop where
 lj : LJ n (jAt J) e
 ld : ∀ p ∈ Ds, LD n m (jAt J) e (jAt p.2)
abbrev znD (n m : Nat) (J : TZ) (e : Int) (Ds : DD) (S : SS) : D := .tup [.int n, .int m, ZQ J, .int e, .lst (Ds.map zcg), .lst (S.map wu)]
theorem znz {f : EF} {as : AS} {k : Int} (h : WD f as true (.int k)) : oS f as = some (some k, as) := by
 unfold oS
 unfold WD at h
 rw [h]; rfl
abbrev Wz (T : TZ) : O := .nd .ls (T.map zaa)
theorem zfE {as : AS} {i : Nat} {k : Int} {s : Bool} (h : as[i]? = some (some (.lf s (.int k)))) : xV i as = some k := by
 unfold xV; rw [zgV (f := zca) h rfl]; rfl
theorem zpd {r : List Int} {k : Int} (h : k.toNat < r.length) : (r.map lfI)[k.toNat]? = sT (.int r[k.toNat]) := by
 rw [zzF, zzB h]; rfl
theorem zig {as : AS} {i : Nat} {f1 f2 fv : IXF} {k1 k2 c : Int} {T : TZ} {r : List Int} (h1 : f1 as = some k1) (h2 : f2 as = some k2) (hv : fv as = some c) (p1 : 0 <= k1) (p2 : 0 <= k2) (hi : as[i]? = some (some (Wz T))) (hr : T[k1.toNat]? = some r) (hk : k2.toNat < r.length) :
 Vm i f1 f2 fv as = some (.nx (as.set i (some (Wz (T.set k1.toNat (r.set k2.toNat c)))))) := by
 have e1 : (T.map zaa)[k1.toNat]? = sN (r.map lfI) := by rw [zzF, hr]; rfl
 have e2 := zpd hk
 have e3 : (T.map zaa).set k1.toNat (.nd .ls ((r.map lfI).set k2.toNat (.lf true (.int c)))) = (T.set k1.toNat (r.set k2.toNat c)).map zaa := by
  rw [List.map_set]
  show _ = (T.map zaa).set k1.toNat (.nd .ls ((r.set k2.toNat c).map lfI))
  rw [List.map_set]
 unfold Vm
 simp only [h1, h2, hv, zyI, if_pos (show 0 <= k1 /\ 0 <= k2 from ⟨p1, p2⟩), (zgV hi rfl : slO zfR as i = some (T.map zaa)), (zhD e1 rfl : atO zfR _ _ = some (r.map lfI)), (zhD e2 rfl : atO zca _ _ = some (.int r[k2.toNat])), e3]
theorem zmx {n i : Nat} {r : List Int} {c : Int} (hr : Row n r) (hc : InR n c) : Row n (r.set i c) := by
 refine ⟨by rw [zzR]; exact hr.1, λ x m => ?_⟩
 rcases List.mem_or_eq_of_mem_set m with m | rfl
 · exact hr.2 x m
 · exact hc
theorem zlD {k n i : Nat} {T : TZ} {r : List Int} (hT : Tab k n T) (hr : Row n r) : Tab k n (T.set i r) := by
 refine ⟨by rw [zzR]; exact hT.1, λ x m => ?_⟩
 rcases List.mem_or_eq_of_mem_set m with m | rfl
 · exact hT.2 x m
 · exact hr
theorem zlN (T : TZ) : (Wz T).frz = .lf true (ZQ T) := by
 show O.lf (O.strs _) (.lst (O.toDs _)) = _
 rw [(zbA T).1, (zbA T).2]
theorem zne {fr : AF} {as : AS} {rs : List (Bool × D)} {g : List D -> Option R0} {kvs : List (Key × D)} (ha : WA fr as rs) (hg : g (rs.map (·.2)) = some (.fd kvs)) : fP fr g as = some (.ow (.nd (.dc (kvs.map (·.1))) ((kvs.map (·.2)).map (lfs (rs.all (·.1))))), as) := by
 unfold fP; unfold WA at ha
 rw [ha]; show (views as _).bind _ = _
 rw [YF]; show (g _).bind _ = _
 rw [hg]
 show (if ((kvs.map (·.2)).all zH || (some (rs.all (·.1))).isSome) = true then _ else _ : Option RV).bind _ = _
 rw [if_pos (by simp)]; rfl
theorem zlA {v n : Nat} {g : GF} {f : SF} {as : AS} {s : Bool} (h : as[v]? = some (some (.lf s (.int n)))) (hn : n <= 1000) : wH (yX (aC (fV v) aN) xq) g f as = forL g f (wI 0 n) as :=
 wO (wR (zG (zb h) zX) (by trivial) (by trivial)) (by rw [zyF])
def iP (b k : Int) : Int := if k = 0 then b / 2 else b % 2
def jP (a b : Int) : Int := 2 * iP b (a / 2) + iP b (a % 2)
def KN (k : Int) (n : Nat) : Prop := (k = 0 /\ 1 <= n) \/ (k = 1 /\ 1 <= n) \/ (k = 2 /\ 1 <= n) \/ (k = 3 /\ n = 4)
def jK (k : Int) (n : Nat) : Int -> Int -> Int := if k = 0 then jS n else if k = 1 then jM else if k = 2 then jL else jP
def eK (k : Int) : Int := if k = 3 then 1 else 0
theorem KN.n1 {k : Int} {n : Nat} (h : KN k n) : 1 <= n := by rcases h with ⟨_, h⟩ | ⟨_, h⟩ | ⟨_, h⟩ | ⟨_, h⟩ <;> omega
def put (T : TZ) (p q c : Int) : TZ := T.set p.toNat ((zdA T p).set q.toNat c)
theorem zlY {k n : Nat} {T : TZ} {p q c : Int} (hT : Tab k n T) (hp : InR k p) (hc : InR n c) : Tab k n (put T p q c) := zlD hT (zmx (zaf hT hp).2 hc)
theorem zhz {k n : Nat} {T : TZ} {p q c a b : Int} (hT : Tab k n T) (hp : InR k p) (hq : InR n q) (ha : InR k a) (hb : InR n b) : jAt (put T p q c) a b = if a = p /\ b = q then c else jAt T a b := by
 have hp' := iT hp
 have ha' := iT ha
 have hq' := iT hq
 have hb' := iT hb
 have hl := (zaf hT hp).2.1
 unfold jAt put
 by_cases e : a = p
 · subst e
   rw [zyH (by rw [hT.1]; exact hp')]
   show rAt ((zdA T a).set q.toNat c) b = _
   unfold rAt
   by_cases e2 : b = q
   · subst e2
     rw [zyH (by rw [hl]; exact hq'), if_pos ⟨rfl, rfl⟩]; rfl
   · rw [zzV (λ z => e2 (by have := hb.1; have := hq.1; omega)), if_neg (λ z => e2 z.2)]
 · rw [zzV (λ z => e (by have := ha.1; have := hp.1; omega)), if_neg (λ z => e z.1)]
theorem zor {v K n L : Nat} {f : SF} {S : TZ -> Option O -> Option O -> AS} {p : Int} {g w : Int -> Int} (hp : InR K p) (hg : ∀ b, InR L b -> InR n (g b)) (gi : ∀ b b', InR L b -> InR L b' -> g b = g b' -> b = b') (hw : ∀ b, InR L b -> InR n (w b))
 (h1 : ∀ T d x y, gN v (true, d) (S T x y) = some (S T (sT d) y)) (h2 : ∀ T b y, Tab K n T -> InR L b -> ∃ y', f (S T (sI b) y) = some (.nx (S (put T p (g b) (w b)) (sI b) y'))) {T0 : TZ} {x0 y0 : Option O} (hT : Tab K n T0) :
 ∃ T' x y, forL (gN v) f (wI 0 L) (S T0 x0 y0) = some (.nx (S T' x y)) /\ Tab K n T' /\ (∀ b, InR L b -> jAt T' p (g b) = w b) /\ (∀ a b, InR K a -> InR n b -> a ≠ p -> jAt T' a b = jAt T0 a b) := by
 obtain ⟨as', hf, T', x, y, rfl, t1, t2, t3⟩ := xx (g := gN v) (f := f)
  (λ i as => ∃ (T : TZ) (x y : Option O), as = S T x y /\ Tab K n T /\ (∀ b, InR L b -> b < i -> jAt T p (g b) = w b) /\ (∀ a b, InR K a -> InR n b -> a ≠ p -> jAt T a b = jAt T0 a b))
  (wI 0 L) 0 (S T0 x0 y0) (λ i y as hx hI => by
   obtain ⟨T, x, z, rfl, t1, t2, t3⟩ := hI
   obtain ⟨rfl, hi⟩ := vQ hx
   have hb : InR L (0 + (i : Int)) := ⟨by omega, by omega⟩
   obtain ⟨y', h⟩ := h2 T (0 + i) z t1 hb
   refine ⟨_, h1 _ _ _ _, _, h, _, _, _, rfl, zlY t1 hp (hw _ hb), λ b hb' hlt => ?_, λ a b ha hb' hne => ?_⟩
   · rw [zhz t1 hp (hg _ hb) hp (hg _ hb')]
     by_cases e : g b = g (0 + i)
     · have := gi _ _ hb' hb e
       subst this
       rw [if_pos ⟨rfl, rfl⟩]
     · rw [if_neg (λ z => e z.2)]
       refine t2 b hb' ?_
       have : b ≠ 0 + i := λ z => e (by rw [z])
       omega
   · rw [zhz t1 hp (hg _ hb) ha hb', if_neg (λ z => hne z.1)]
     exact t3 a b ha hb' hne)
  ⟨T0, x0, y0, rfl, hT, λ b hb h => absurd h (by have := hb.1; omega), λ _ _ _ _ _ => rfl⟩
 rw [wG] at t2
 exact ⟨T', x, y, hf, t1, λ b hb => t2 b hb (by have := hb.2; omega), t3⟩
theorem zlc {v K n L M : Nat} {F : SF} {S : TZ -> Option O -> Option O -> Option O -> AS} {f g : Int -> Int} {w : Int -> Int -> Int} (hf' : ∀ a, InR M a -> InR K (f a)) (fi : ∀ a a', InR M a -> InR M a' -> f a = f a' -> a = a') (hg : ∀ b, InR L b -> InR n (g b))
 (h1 : ∀ T d x y z, gN v (true, d) (S T x y z) = some (S T (sT d) y z)) (h2 : ∀ T a y z, Tab K n T -> InR M a -> ∃ T' y' z', F (S T (sI a) y z) = some (.nx (S T' (sI a) y' z')) /\ Tab K n T' /\ (∀ b, InR L b -> jAt T' (f a) (g b) = w a b) /\ (∀ a' b, InR K a' -> InR n b -> a' ≠ f a -> jAt T' a' b = jAt T a' b)) {T0 : TZ} {x0 y0 z0 : Option O} (hT : Tab K n T0) :
 ∃ T' x y z, forL (gN v) F (wI 0 M) (S T0 x0 y0 z0) = some (.nx (S T' x y z)) /\ Tab K n T' /\ ∀ a b, InR M a -> InR L b -> jAt T' (f a) (g b) = w a b := by
 obtain ⟨as', hf, T', x, y, z, rfl, t1, t2⟩ := xx (g := gN v) (f := F)
  (λ i as => ∃ (T : TZ) (x y z : Option O), as = S T x y z /\ Tab K n T /\ ∀ a b, InR M a -> a < i -> InR L b -> jAt T (f a) (g b) = w a b)
  (wI 0 M) 0 (S T0 x0 y0 z0) (λ i y as hx hI => by
   obtain ⟨T, x, y, z, rfl, t1, t2⟩ := hI
   obtain ⟨rfl, hi⟩ := vQ hx
   have ha : InR M (0 + (i : Int)) := ⟨by omega, by omega⟩
   obtain ⟨T', y', z', h, q1, q2, q3⟩ := h2 T (0 + i) y z t1 ha
   refine ⟨_, h1 _ _ _ _ _, _, h, _, _, _, _, rfl, q1, λ a b ha' hlt hb => ?_⟩
   by_cases e : a = 0 + i
   · subst e; exact q2 b hb
   · rw [q3 (f a) (g b) (hf' a ha') (hg b hb) (λ z => e (fi _ _ ha' ha z))]
     exact t2 a b ha' (by omega) hb)
  ⟨T0, x0, y0, z0, rfl, hT, λ a b ha h => absurd h (by have := ha.1; omega)⟩
 rw [wG] at t2
 exact ⟨T', x, y, z, hf, t1, λ a b ha hb => t2 a b ha (by have := ha.2; omega) hb⟩
theorem zon {as : AS} {i : Nat} {f : IXF} {n : Nat} {r : List Int} {k : Int} {s : Bool} (h : as[i]? = some (some (.lf s (zq r)))) (hf : f as = some k) (hr : Row n r) (hk : InR n k) : xAt i f as = some (rAt r k) := by
 have e := (rowAt hr hk).1
 unfold xAt
 rw [hf]
 show (if 0 <= k then (slO zca as i).bind λ d => (asL d).bind λ ds => ds[k.toNat]?.bind asI else none) = _
 rw [if_pos hk.1]
 have e1 : slO zca as i = some (zq r) := by unfold slO; rw [h]; rfl
 rw [e1]
 show ((r.map D.int)[k.toNat]?).bind asI = _
 have hl := iT hk
 rw [zzF, zzB (by rw [hr.1]; exact hl), zdz (by rw [hr.1]; exact hl)]
 rfl
theorem zln {as : AS} {i k n : Nat} {f1 f2 fv : IXF} {p q c : Int} {T : TZ} (hT : Tab k n T) (hp : InR k p) (hq : InR n q) (h1 : f1 as = some p) (h2 : f2 as = some q) (hv : fv as = some c) (hi : as[i]? = some (some (Wz T))) : Vm i f1 f2 fv as = some (.nx (as.set i (some (Wz (put T p q c))))) := by
 have hl := iT hp
 have hq' := iT hq
 refine zig h1 h2 hv hp.1 hq.1 hi (r := zdA T p) ?_ (by rw [(zaf hT hp).2.1]; exact hq')
 unfold zdA
 rw [zzB (by rw [hT.1]; exact hl)]; rfl
theorem zeR {as0 : AS} : ∀ (ds : List D), (∀ d, ∃ as1, gN 0 (true, d) as0 = some as1) -> yW (gN 0) xX (fC (.int 0)) as0 (ds.map λ d => (true, d)) = some ((List.replicate ds.length (0 : Int)).map lfI)
 | [], _ => rfl
 | d :: r, H => by
  obtain ⟨as1, h1⟩ := H d
  show yW _ _ _ _ ((true, d) :: r.map λ d => (true, d)) = some (lfI 0 :: (List.replicate r.length (0 : Int)).map lfI)
  exact ziB h1 zp (zeR r H)
theorem zeT {g : GF} {fe : EF} {as0 : AS} {r : List Int} : ∀ (xs : List It1), (∀ y ∈ xs, ∃ as1, g y as0 = some as1 /\ fe as1 = some (.ow (zaa r), as1)) -> yW g xX fe as0 xs = some ((List.replicate xs.length r).map zaa)
 | [], _ => rfl
 | y :: xs, H => by
  obtain ⟨as1, h1, h2⟩ := H y (zzC ..)
  exact zcy h1 h2 (Vy r).1 (zeT xs λ z m => H z (zzA _ m))
theorem zkz {k n : Nat} (hn : 1 <= n) : Tab k n (List.replicate k (List.replicate n (0 : Int))) :=
 ⟨List.length_replicate .., λ r m => by rw [List.eq_of_mem_replicate m]; exact ⟨List.length_replicate .., λ x m => by rw [List.eq_of_mem_replicate m]; omega⟩⟩
section
variable {α : Type} {kf : α -> Str} {vf : α -> D}
theorem zds : ∀ l : List α, Yq (l.map λ p => .tup [.str (kf p), vf p]) = some (l.map λ p => (.inr (kf p), vf p))
 | [] => rfl
 | p :: l => by
  show (Yq (l.map λ p => .tup [.str (kf p), vf p])).bind _ = _
  rw [zds l]; rfl
theorem zgU {p : α} : ∀ {l : List α}, p ∈ l -> (l.map kf).Nodup -> vL (l.map λ p => (.inr (kf p), vf p)) (.inr (kf p)) = some (vf p)
 | [], h, _ => nomatch h
 | q :: l, h, nd => by
  have nd' := zzT.mp (show (kf q :: l.map kf).Nodup from nd)
  rcases zS.mp h with rfl | h
  · unfold vL
    simp
  · have e : kf q ≠ kf p := λ e => nd'.1 (e ▸ List.mem_map_of_mem h)
    have ih := zgU h nd'.2
    unfold vL at ih ⊢
    rw [zyP, List.find?_cons_of_neg (by simp [e])]
    exact ih
theorem zjV : ∀ (kvs : List (Key × D)), (kvs.map (·.1)).zip (kvs.map (·.2)) = kvs
 | [] => rfl
 | p :: r => congrArg (p :: ·) (zjV r)
end
end PF
end
section
namespace G64
open PySem PySem.Spec PyProof.Rows L2 PF
abbrev yg : EF := fV 1
abbrev wk : EF := fC (.int 0)
abbrev zR : EF := fV 0
abbrev xT : EF := fC (.int 2)
abbrev yD : EF := fC (.int 1)
abbrev yJ : EF := fV 2
abbrev Zj : EF := fC (.int 4)
abbrev zgv : GF := gN 4
abbrev xF : EF := fV 4
abbrev xW : EF := fV 3
abbrev wQ : GF := gN 0
abbrev zK := zak .Add
abbrev xU : EF := fV 5
abbrev zik : EF := fC (.int 5)
abbrev Zk : EF := fV 6
abbrev zfS : EF := fV 7
abbrev zku : EF := fV 11
abbrev zx := zak .Mod
abbrev zY := zak .Mult
abbrev Vs : EF := fC (.int 8)
abbrev zm := zak .FloorDiv
abbrev Xv : EF := fC (.int 3)
abbrev zej := zak .Sub
abbrev zqY : EF := fC (.int 6)
abbrev zbo : AF := aC (fV 3) aN
abbrev zcT : AF := aC (fV 0) aN
abbrev zbv : AF := aC (fV 1) aN
abbrev Va : AF := aC (fV 2) aN
abbrev zkb : AF := aC (fV 7) aN
abbrev wF : EF := fV 8
abbrev zcO : EF := fV 9
abbrev vX : EF := fV 10
abbrev zaJ : EF := fV 12
abbrev YD : EF := fV 13
abbrev zbZ : EF := fV 14
abbrev Zv : EF := fV 15
abbrev YB : EF := fV 16
abbrev zeY : EF := fV 17
abbrev zkT : EF := fV 18
abbrev zkh : EF := fV 19
abbrev zqp : EF := fV 20
abbrev zpz : EF := fV 21
abbrev zpV : EF := fV 22
abbrev zmI : EF := fV 23
abbrev zju : EF := fV 24
abbrev znk : EF := fV 25
abbrev zmQ : EF := fV 26
abbrev zjU : EF := fV 27
abbrev zoa : EF := fC (.int 7)
abbrev zpS : EF := fC (.int 9)
abbrev zmK : EF := fC (.int 10)
abbrev zgT : EF := fC (.int 12)
abbrev zna : EF := fC (.int 13)
abbrev zmH : EF := fC (.int 80)
abbrev Vb : GF := gN 5
abbrev zbq : GF := gN 6
abbrev zfg : GF := gN 10
abbrev zeX : GF := gN 11
abbrev zdi : GF := gN 13
abbrev zfd : GF := gN 14
abbrev zjb : GF := gN 15
abbrev zjB : GF := gN 16
abbrev zps : AF := aC (fV 4) aN
abbrev Ye : AF := aC (fV 10) aN
abbrev zkn : AF := aC (fV 12) aN
abbrev yE := Xh .Eq
abbrev Z7 := Xh .NotEq
abbrev zbi := Xh .In
abbrev zch := Xh .NotIn
abbrev zbj := Xh .Is
abbrev zhe := Xh .Lt
def top (i : Nat) : Stmt := PySem.Challenge.pw_stretchdeeds_k64_least_rows.main.body.getD i (.Pass ⟨0, 0, 0, 0⟩)
abbrev v7 : Stmt := top 1
abbrev YX : List Str := ["algebra", "values", "rows", "came", "at", "value", "whole"]
theorem xM : FnScope YX ["algebra", "values"] (zF v7) := ⟨rfl, rfl, rfl, by decide +kernel, rfl, by decide +kernel, by decide +kernel⟩
theorem zbs : (["value"] : List Str).Nodup := by decide +kernel
def V0 : SF :=
 (zE (zJ false 2 (fP (aC (yj (Yn yg) [none] wQ xX (Zo (dC zR (dC (xg (dC zR dN)) dN)))) aN) zbJ))
  (zE (zJ false 3 (fP zbv lstP))
  (zE (zJ true 4 wk)
  (zE (whL (fT (f2 xF (fP zbo zbI) zhe)) (zE (wH (Vk yg) Vb (zE (zJ true 6 (f2 (f2 (f2 zR xT ixP) (f2 xW xF ixP) ixP) xU ixP))
  (sIf (fT (f2 Zk yJ zch)) (zE (VG 2 Zk (f2 (f2 yJ (f2 xW xF ixP) ixP) (xg (dC xU dN)) zK))
  (ww (vg 3 (dC Zk dN) vC))) sNx)))
  (zit 4 1)) 10000)
  (yZ yJ)))))
def wC : Fn := fnR 7 2 V0
abbrev Yd : Stmt := top 2
abbrev zaV : List Str := ["algebra", "row", "name", "signed", "rows", "value"]
theorem Zw : FnScope zaV ["algebra", "row", "name"] (zF Yd) := ⟨rfl, rfl, rfl, by decide +kernel, rfl, by decide +kernel, by decide +kernel⟩
def zaL : SF :=
 (zE (zJ true 3 (f2 (fP (aC (f2 zR zik ixP) aN) zbJ) yJ ixP))
  (zE (sIf (fT (f2 (f2 zR Xv ixP) xW zbi)) (yZ (xg dN)) sNx)
  (zE (zJ false 4 (zO (aC zR (aC (fP zbv ssP) aN)) wC))
  (zE (wH (iKO 4) Vb (sIf (fT (f2 xU xW zbi)) (yZ (f2 xF xU ixP)) sNx))
  (yZ (fC .non))))))
def yR : Fn := fnR 6 3 zaL
abbrev Zb : Stmt := top 4
abbrev WP : List Str := ["_law_script", "_law_k"]
theorem zcx : FnScope WP ["_law_script", "_law_k"] (zF Zb) := ⟨rfl, rfl, rfl, by decide +kernel, rfl, by decide +kernel, by decide +kernel⟩
def WQ : SF :=
 (zE (sIf (fT (f2 yg (fP zcT zbI) zhe)) (yZ (f2 zR yg ixP)) sNx)
  (yZ wk))
def zB : Fn := fnR 2 2 WQ
abbrev Z9 : Stmt := top 5
abbrev zbf : List Str := ["_law_cell", "_law_k", "_law_number"]
theorem Vt : FnScope zbf ["_law_cell", "_law_k"] (zF Z9) := ⟨rfl, rfl, rfl, by decide +kernel, rfl, by decide +kernel, by decide +kernel⟩
def zaR : SF :=
 (zE (zJ true 2 (f2 (f2 (f2 (f2 (f2 zR (fC (.int 2147483647)) zx) (fC (.int 48271)) zY) (f2 (f2 yg yg zY) (fC (.int 69621)) zY) zK) (fC (.int 7919)) zK) (fC (.int 2147483647)) zx))
  (yZ (f2 (f2 (f2 (f2 yJ yJ zY) (f2 (fC (.int 16807)) yJ zY) zK) yg zK) (fC (.int 2147483629)) zx)))
def yu : Fn := fnR 3 2 zaR
abbrev Yc : Stmt := top 6
abbrev zaQ : List Str := ["_law_found"]
theorem zdT : FnScope zaQ ["_law_found"] (zF Yc) := ⟨rfl, rfl, rfl, by decide +kernel, rfl, by decide +kernel, by decide +kernel⟩
def zaW : SF :=
 (yZ (zib (zgf zR "int") (zqz (zgf zR "bool"))))
def vH : Fn := fnR 1 1 zaW
abbrev Zi : Stmt := top 7
abbrev Wi : List Str := ["_law_cell", "_law_many", "_law_letters", "_law_size", "_law_at", "_law_words_here", "_law_k", "_law_some"]
theorem wz : FnScope Wi ["_law_cell", "_law_many"] (zF Zi) := ⟨rfl, rfl, rfl, by decide +kernel, rfl, by decide +kernel, by decide +kernel⟩
theorem zcz : (["_law_j", "_law_letters", "_law_k", "_law_cell", "_law_at"] : List Str).Nodup := by decide +kernel
def zbg : SF :=
 (zE (zJ true 2 (fC (.str "abcdefghijklmnopqrstuvwxyz")))
  (zE (zJ true 3 (f2 yD (f2 zR Vs zx) zK))
  (zE (zJ true 4 (f2 (f2 zR Vs zm) xW zx))
  (zE (zJ false 5 (xg dN))
  (zE (wH (yX zbv xq) zbq (zE (zJ true 7 (yj (yX zbo xq) [none, some 2, some 6, some 0, some 4] wQ xX (f2 yg (f2 (f2 (f2 (zO (aC xW zcT) yu) (fC (.int 64)) zm) (f2 yJ (fP (aC (f2 zR xF yE) aN) Yz) zY) zK) (fC (.int 26)) zx) ixP)))
  (ww (vg 5 (dC (zcw .str (fC (.str "")) zkb zeD) dN) vC))))
  (yZ xU))))))
def xJ : Fn := fnR 8 2 zbg
abbrev Zx : Stmt := top 8
abbrev V9 : List Str := ["_law_n", "_law_m"]
theorem WX : FnScope V9 ["_law_n", "_law_m"] (zF Zx) := ⟨rfl, rfl, rfl, by decide +kernel, rfl, by decide +kernel, by decide +kernel⟩
def Vu : SF :=
 (zE (whL (fT (f2 yg wk (Xh .Gt))) (zpv 0 1 (dC yg (dC (f2 zR yg zx) dN))) 10000)
  (yZ zR))
def ZG : Fn := fnR 2 2 Vu
abbrev vB : Stmt := top 9
abbrev Xn : List Str := ["_law_kind", "_law_n", "_law_a", "_law_b", "_law_images_here"]
theorem YC : FnScope Xn ["_law_kind", "_law_n", "_law_a", "_law_b"] (zF vB) := ⟨rfl, rfl, rfl, by decide +kernel, rfl, by decide +kernel, by decide +kernel⟩
def Xp : SF :=
 (zE (sIf (fT (f2 zR wk yE)) (yZ (f2 (f2 yJ xW zK) yg zx)) sNx)
  (zE (sIf (fT (f2 zR yD yE)) (yZ (fP (aC yJ zbo) zpC)) sNx)
  (zE (sIf (fT (f2 zR xT yE)) (yZ (f2 (xg (dC xW (dC yJ dN))) (fP (aC (f2 xW wk yE) aN) Yz) ixP)) sNx)
  (zE (zJ true 4 (xg (dC (f2 xW xT zm) (dC (f2 xW xT zx) dN))))
  (yZ (f2 (f2 xT (f2 xF (f2 yJ xT zm) ixP) zY) (f2 xF (f2 yJ xT zx) ixP) zK))))))
def zN : Fn := fnR 5 4 Xp
abbrev vV : Stmt := top 10
abbrev Xc : List Str := ["_law_kind", "_law_n", "_law_x", "_law_some", "_law_k"]
theorem vA : FnScope Xc ["_law_kind", "_law_n", "_law_x"] (zF vV) := ⟨rfl, rfl, rfl, by decide +kernel, rfl, by decide +kernel, by decide +kernel⟩
theorem zbt : (["_law_a", "_law_x"] : List Str).Nodup := by decide +kernel
def VL : SF :=
 (zE (sIf (fT (f2 zR Xv yE)) (yZ (yj (yX zbv xq) [none, some 2] wQ xX (f2 (xg (dC zR (dC (f2 (f2 (f2 xT (f2 yD (f2 zR xT zx) zej) zY) yD zK) (f2 zR xT zm) zej) dN))) (f2 yg xT zx) ixP))) sNx)
  (zE (zJ false 3 (xg dN))
  (zE (wH (yX (aC yD zbv) zpy) zgv (zE (zJ true 2 (f2 yJ yg zm))
  (ww (vg 3 (dC (f2 (xg (dC (f2 yJ yg zx) (dC (f2 yD (f2 yJ (f2 yg yD zej) zx) zK) dN))) (f2 zR yD zej) ixP) dN) vC))))
  (zE (sIf (fT (f2 zR yD yE)) (zJ false 3 (fP zbo zmL)) sNx)
  (yZ (f2 (xg (dC wk dN)) xW zK))))))
def Zy : Fn := fnR 5 3 VL
abbrev wJ : Stmt := top 11
abbrev Ze : List Str := ["_law_kind", "_law_n", "_law_m", "_law_x", "_law_images_here", "_law_step"]
theorem Z4 : FnScope Ze ["_law_kind", "_law_n", "_law_m", "_law_x"] (zF wJ) := ⟨rfl, rfl, rfl, by decide +kernel, rfl, by decide +kernel, by decide +kernel⟩
theorem zae : (["_law_c", "_law_images_here"] : List Str).Nodup := by decide +kernel
theorem zaF : (["_law_c", "_law_n", "_law_step", "_law_x"] : List Str).Nodup := by decide +kernel
theorem zaC : (["_law_a", "_law_n", "_law_step", "_law_c", "_law_x"] : List Str).Nodup := by decide +kernel
def W7 : SF :=
 (zE (sIf (fT (f2 zR wk (Xh .Gt))) (zE (zJ true 4 (zO (aC zR (aC yg zbo)) Zy))
  (yZ (yj (yX Va xq) [none, some 4] wQ xX (fP zbv lstP)))) sNx)
  (zE (zJ true 5 (f2 (f2 yg (zO (aC yg Va) ZG) zm) (f2 (f2 xW Vs zm) Vs zx) zY))
  (yZ (yj (yX Va xq) [none, some 1, some 5, some 3] wQ xX (yj (yX zbv xq) [none, some 1, some 2, some 0, some 3] wQ xX (f2 (f2 (f2 (f2 xF Vs zx) zR zY) (f2 yJ xW zY) zK) yg zx))))))
def wL : Fn := fnR 6 4 W7
abbrev Yb : Stmt := top 12
abbrev zbl : List Str := ["_law_x", "_law_first", "_law_size", "_law_other"]
theorem wZ : FnScope zbl ["_law_x"] (zF Yb) := ⟨rfl, rfl, rfl, by decide +kernel, rfl, by decide +kernel, by decide +kernel⟩
def zbd : SF :=
 (zE (zJ true 1 (f2 zR Zj zx))
  (zE (zJ true 2 (f2 (xg (dC (f2 yD (f2 (f2 zR Zj zm) zik zx) zK) (dC (f2 yD (f2 (f2 zR Zj zm) Vs zx) zK) dN))) (fP (aC (f2 (f2 (f2 zR (fC (.int 40)) zm) Zj zx) yD yE) aN) Yz) ixP))
  (zE (sIf (fT (f2 yg Xv yE)) (zJ true 2 Zj) sNx)
  (zE (zJ true 3 (f2 yD (f2 (f2 zR (fC (.int 160)) zm) Xv zx) zK))
  (zE (sIf (fT (f2 (f2 yJ xW zY) Vs (Xh .Gt))) (zJ true 3 yD) sNx)
  (yZ (Zo (dC yg (dC yJ (dC (f2 (f2 zR (fC (.int 480)) zm) Xv zx) (dC xW dN)))))))))))
def vK : Fn := fnR 4 1 zbd
abbrev ZF : Stmt := top 13
abbrev V5 : List Str := ["_law_cell", "_law_many", "_law_found", "_law_rest", "_law_k"]
theorem vo : FnScope V5 ["_law_cell", "_law_many"] (zF ZF) := ⟨rfl, rfl, rfl, by decide +kernel, rfl, by decide +kernel, by decide +kernel⟩
def VP : SF :=
 (zE (zJ false 2 (xg dN))
  (zE (zJ true 3 (f2 zR xT zm))
  (zE (wH (yX zbv xq) zgv (sIf (fT (f2 (f2 zR xT zx) wk yE)) (zE (ww (vg 2 (dC (f2 xW (fC (.int 1000000007)) zx) dN) vC))
  (zJ true 3 (f2 xW (fC (.int 1000000007)) zm))) (ww (vg 2 (dC (zO (aC xW zps) yu) dN) vC))))
  (yZ yJ))))
def yh : Fn := fnR 5 2 VP
abbrev xO : Stmt := top 14
abbrev vp : List Str := ["_law_cell", "_law_head", "_law_many", "_law_xs", "_law_ys", "_law_kind", "_law_n", "_law_more", "_law_times", "_law_m", "_law_size", "_law_left", "_law_order", "_law_k", "_law_join", "_law_a", "_law_b", "_law_there", "_law_names", "_law_deeds", "_law_rows", "_law_beside", "_law_made", "_law_c", "_law_signs", "_law_bits", "_law_held", "_law_nothing"]
theorem zr : FnScope vp ["_law_cell", "_law_head", "_law_many"] (zF xO) := ⟨rfl, rfl, rfl, by decide +kernel, rfl, by decide +kernel, by decide +kernel⟩
theorem zat : (["_law_a", "_law_order"] : List Str).Nodup := by decide +kernel
theorem zaw : (["_law_b"] : List Str).Nodup := by decide +kernel
theorem zad : (["_law_c", "_law_order"] : List Str).Nodup := by decide +kernel
theorem zap : (["_law_a"] : List Str).Nodup := by decide +kernel
theorem zaD : (["_law_a", "_law_bits"] : List Str).Nodup := by decide +kernel
def Yi : SF :=
 (zE (zJ true 3 (zO (aC zR (aC (f2 yD (f2 xT yJ zY) zK) aN)) yh))
  (zE (zJ true 4 (zO (aC yg (aC zna aN)) yh))
  (zE (zcI (zO (aC (f2 xW wk ixP) aN) vK) (gT 4 (gsC Vb (gsC zbq (gsC (gN 7) (gsC (gN 8) gsN))))))
  (zE (zJ true 9 (f2 (f2 yD (f2 (f2 xF wk ixP) Zj zx) zK) (f2 xT (fP (aC (f2 (f2 (f2 (f2 xF wk ixP) Zj zm) Vs zx) zik yE) aN) Yz) zY) zK))
  (zE (zJ true 10 (f2 Zk wF zY))
  (zE (zJ false 11 (fP Ye lrP))
  (zE (zJ false 12 (xg dN))
  (zE (wH (yX Ye xq) zdi (ww (vg 12 (dC (vg 11 (dC (f2 (f2 xF (f2 yD YD zK) ixP) (fP (aC zku aN) zbI) zx) dN) YK) dN) vC)))
  (zil 12 (zE (zJ false 14 (yj (Yn zaJ) [none, some 12] wQ xX (yj (Yn yg) [none] wQ xX wk)))
  (zE (wH (yX Ye xq) zjb (wH (yX Ye xq) zjB (zE (zJ true 17 (f2 (zO (aC xU (aC Zk (aC (f2 Zv wF zm) (aC (f2 YB wF zm) aN)))) zN) wF zY))
  (zE (zJ true 17 (f2 zeY (zO (aC zfS (aC wF (aC (f2 Zv wF zx) (aC (f2 YB wF zx) aN)))) zN) zK))
  (Vm 14 (xAt 12 (xV 15)) (xAt 12 (xV 16)) (xAt 12 (xV 17)))))))
  (zE (zJ true 18 (zO (aC (f2 yg zoa zm) (aC zmK aN)) xJ))
  (zE (zJ false 19 (xg dN))
  (zE (wH (yX Va xq) zdi (zE (zJ true 20 (zO (aC xU (aC Zk (aC zcO (aC (f2 xW (f2 yD (f2 xT YD zY) zK) ixP) aN)))) wL))
  (zE (zJ true 21 (zO (aC zfS (aC wF (aC zcO (aC (f2 xW (f2 xT (f2 xT YD zY) zK) ixP) aN)))) wL))
  (zE (zJ false 22 (yj (yX (aC zcO aN) xq) [none, some 12] wQ xX (yj (Yn yg) [none] wQ xX wk)))
  (zE (wH (yX (aC zcO aN) xq) (gN 23) (wH (yX Ye xq) zjb (zE (zJ true 17 (f2 (f2 zqp zmI ixP) (f2 Zv wF zm) ixP))
  (zE (zJ true 17 (f2 (f2 zeY wF zY) (f2 (f2 zpz zmI ixP) (f2 Zv wF zx) ixP) zK))
  (Vm 22 (xV 23) (xAt 12 (xV 15)) (xAt 12 (xV 17)))))))
  (ww (vg 19 (dC (Zo (dC (f2 zkT YD ixP) (dC zpV dN))) dN) vC)))))))
  (zE (zJ false 24 (xg dN))
  (zE (wH (yX (aC Xv aN) xq) zdi (zE (zJ true 25 (f2 xF (f2 zpS YD zK) ixP))
  (zE (zJ true 26 (yj (yX Ye xq) [none, some 25] wQ (fT (f2 (f2 (f2 yg (f2 yD zR zct) zm) xT zx) yD yE)) zR))
  (ww (vg 24 (dC (Zo (dC (f2 zkT (f2 YD (f2 Zj (f2 (f2 znk (fC (.int 512)) zm) xT zx) zY) zK) ixP) (dC zmQ dN))) dN) vC)))))
  (zE (zJ true 27 (f2 zaJ (f2 (xg (dC wk (dC wF dN))) (fP (aC (f2 xU Xv yE) aN) Yz) ixP) ixP))
  (yZ (Zo (dC vX (dC zcO (dC zbZ (dC zjU (dC zkh (dC (fSl zju oN (oS (f2 (f2 xF zgT ixP) Zj zx)) slP) dN)))))))))))))))))))))))))
def wM : Fn := fnR 28 3 Yi
abbrev vD : Stmt := top 15
abbrev Z2 : List Str := ["_law_algebra_here", "_law_n", "_law_m", "_law_join", "_law_nothing", "_law_deeds", "_law_signs", "_law_rows", "_law_held"]
theorem xG : FnScope Z2 ["_law_algebra_here"] (zF vD) := ⟨rfl, rfl, rfl, by decide +kernel, rfl, by decide +kernel, by decide +kernel⟩
theorem W0 : (["_law_name", "_law_table"] : List Str).Nodup := by decide +kernel
theorem zcS : (["_law_row"] : List Str).Nodup := by decide +kernel
theorem W6 : (["_law_name", "_law_values_here"] : List Str).Nodup := by decide +kernel
theorem zcL : (["_law_row"] : List Str).Nodup := by decide +kernel
def zco : SF :=
 (zE (zcI zR (gT 6 (gsC (gN 1) (gsC (gN 2) (gsC (gN 3) (gsC zgv (gsC Vb (gsC zbq gsN))))))))
  (zE (zJ true 7 (yj (Yn xU) [none, none] (gT 2 (gsC wQ (gsC (gN 1) gsN))) xX (Zo (dC zR (dC (yj (Yn yg) [none] wQ xX (fP zcT lstP)) dN)))))
  (zE (zJ true 8 (yj (Yn Zk) [none, none] (gT 2 (gsC wQ (gsC (gN 1) gsN))) xX (Zo (dC zR (dC (fP zbv lstP) dN)))))
  (yZ (Zo (dC yg (dC yJ (dC (yj (Yn xW) [none] wQ xX (fP zcT lstP)) (dC xF (dC zfS (dC wF dN)))))))))))
def ZZ : Fn := fnR 9 1 zco
abbrev ZK : Stmt := top 16
abbrev Vn : List Str := ["_law_script", "_law_start", "_law_most", "_law_size", "_law_number", "_law_row", "_law_k"]
theorem Yu : FnScope Vn ["_law_script", "_law_start", "_law_most", "_law_size", "_law_number"] (zF ZK) := ⟨rfl, rfl, rfl, by decide +kernel, rfl, by decide +kernel, by decide +kernel⟩
def Vp : SF :=
 (zE (zJ false 5 (xg dN))
  (zE (wH (yX (aC (f2 xF (f2 yJ yD zK) zx) aN) xq) zbq (ww (vg 5 (dC (f2 (zO (aC (zO (aC zR (aC (f2 yg Zk zK) aN)) zB) (aC (f2 Zk zmH zK) aN)) yu) xW zx) dN) vC)))
  (yZ xU)))
def w6 : Fn := fnR 7 5 Vp
abbrev ZV : Stmt := top 17
abbrev Ww : List Str := ["_law_cell", "_law_head", "_law_size", "_law_xs", "_law_join", "_law_ys", "_law_names", "_law_signs", "_law_k", "_law_bits", "_law_held"]
theorem wB : FnScope Ww ["_law_cell", "_law_head", "_law_size"] (zF ZV) := ⟨rfl, rfl, rfl, by decide +kernel, rfl, by decide +kernel, by decide +kernel⟩
theorem zdZ : (["_law_a", "_law_size", "_law_xs"] : List Str).Nodup := by decide +kernel
theorem zei : (["_law_b", "_law_size", "_law_xs", "_law_a"] : List Str).Nodup := by decide +kernel
theorem zdD : (["_law_a", "_law_bits"] : List Str).Nodup := by decide +kernel
def zcZ : SF :=
 (zE (zJ true 3 (zO (aC zR (aC (f2 yJ yJ zY) aN)) yh))
  (zE (zJ true 4 (yj (yX Va xq) [none, some 2, some 3] wQ xX (yj (yX zbv xq) [none, some 1, some 2, some 0] wQ xX (f2 (f2 yJ (f2 (f2 yg xW zY) zR zK) ixP) yg zx))))
  (zE (zJ true 5 (zO (aC yg (aC Zj aN)) yh))
  (zE (zJ true 6 (zO (aC (f2 yg zoa zm) (aC Xv aN)) xJ))
  (zE (zJ false 7 (xg dN))
  (zE (wH (yX (aC (f2 yD (f2 (f2 xU wk ixP) Xv zx) zK) aN) xq) (gN 8) (zE (zJ true 9 (f2 xU (f2 yD wF zK) ixP))
  (zE (zJ true 10 (yj (yX Va xq) [none, some 9] wQ (fT (f2 (f2 (f2 yg (f2 yD zR zct) zm) Zj zx) yD yE)) zR))
  (ww (vg 7 (dC (Zo (dC (f2 Zk wF ixP) (dC vX dN))) dN) vC)))))
  (yZ (Zo (dC yJ (dC yD (dC xF (dC (f2 (f2 (f2 xU wk ixP) Xv zm) yJ zx) (dC (xg dN) (dC zfS dN))))))))))))))
def ZR : Fn := fnR 11 3 zcZ
abbrev Z5 : Stmt := top 18
abbrev Vc : List Str := ["_law_algebra_here", "_law_row", "_law_values_here", "_law_n", "_law_m", "_law_join", "_law_nothing", "_law_deeds", "_law_signs", "_law_best_here", "_law_value", "_law_size", "_law_good", "_law_longer", "_law_other", "_law_some", "_law_there"]
theorem ye : FnScope Vc ["_law_algebra_here", "_law_row", "_law_values_here"] (zF Z5) := ⟨rfl, rfl, rfl, by decide +kernel, rfl, by decide +kernel, by decide +kernel⟩
theorem zcQ : (["_law_value", "_law_best_here", "_law_values_here"] : List Str).Nodup := by decide +kernel
def zbK : SF :=
 (zE (zcI zR (gT 6 (gsC (gN 3) (gsC zgv (gsC Vb (gsC zbq (gsC (gN 7) (gsC (gN 8) gsN))))))))
  (zE (sIf (fT (f2 Zk yJ zbi)) (yZ (xg dN)) sNx)
  (zE (zJ false 9 fD0)
  (zE (wH (Vk yg) zfg (VG 9 vX (xg (dC vX dN))))
  (zE (wH (yX zbo xq) zeX (zE (zJ true 12 (yj (iKB 9) [none, some 9, some 2] wQ (fT (f2 zR yJ zbi)) (f2 yg zR ixP)))
  (zE (sIf (fT (f2 zaJ (xg dN) Z7)) (yZ (fP zkn zhJ)) sNx)
  (zE (zJ false 13 fD0)
  (zE (wH (iKZ 9) zfg (wH (Vk yg) zfd (zE (zJ true 15 (f2 (f2 zcO vX ixP) (xg (dC zbZ dN)) zK))
  (zE (zJ true 16 (f2 (f2 xU vX ixP) zbZ ixP))
  (VG 13 YB (zdt (aC (zbH YD (aC YB (aC Zv aN))) (aC Zv aN))))))))
  (zJ false 9 (fMv 13)))))))
  (yZ (fC .non)))))))
def Z6 : Fn := fnR 17 3 zbK
abbrev Zh : Stmt := top 19
abbrev Wa : List Str := ["_law_algebra_here", "_law_row", "_law_name", "_law_values_here", "_law_due", "_law_found"]
theorem YZ : FnScope Wa ["_law_algebra_here", "_law_row", "_law_name", "_law_values_here"] (zF Zh) := ⟨rfl, rfl, rfl, by decide +kernel, rfl, by decide +kernel, by decide +kernel⟩
theorem zcm : (["_law_value"] : List Str).Nodup := by decide +kernel
def zba : SF :=
 (zE (zJ true 4 (zO (aC zR (aC yg zbo)) Z6))
  (zE (zJ false 5 (zao (aC zR (aC yg Va)) yR))
  (zE (sIf (zic (fT (f2 xF (fC .non) zbj)) (fT (f2 xU (fC .non) zbj))) (yZ (zib (f2 xF (fC .non) zbj) (f2 xU (fC .non) zbj))) sNx)
  (zE (sIf (zic (zbn (fT (zgf xU "list"))) (zic (fT (f2 xU xF Z7)) (fT (f2 (yj (Yn xU) [none] wQ (zbn (fT (zO zcT vH))) zR) (xg dN) Z7)))) (yZ (fC (.bl false))) sNx)
  (zE (ww (vg 5 (dC wk dN) vC))
  (yZ (f2 (zO (aC zR (aC yg Va)) yR) xF yE)))))))
def vI : Fn := fnR 6 4 zba
abbrev zgO : Stmt := top 20
abbrev zmP : List Str := ["_law_script", "_law_head", "_law_algebra_here", "_law_row", "_law_handed", "_law_kept", "_law_name", "_law_values_here"]
theorem Y8 : FnScope zmP ["_law_script"] (zF zgO) := ⟨rfl, rfl, rfl, by decide +kernel, rfl, by decide +kernel, by decide +kernel⟩
def zmY : SF :=
 (zE (zJ true 1 (zO (aC zR (aC yD aN)) zB))
  (zE (sIf (fT (f2 (f2 (zO (aC zR (aC xT aN)) zB) xT zx) wk yE)) (zJ true 2 (zO (aC (zO (aC zR (aC wk aN)) zB) (aC yg (aC (f2 yD (f2 (f2 (zO (aC zR (aC xT aN)) zB) xT zm) Vs zx) zK) aN))) ZR)) (zJ true 2 (zO (aC (zO (aC zR (aC wk aN)) zB) (aC yg (aC wk aN))) wM)))
  (zE (zJ true 3 (zO (aC zR (aC Xv (aC zqY (aC (f2 yJ wk ixP) (aC (f2 (zO (aC zR (aC xT aN)) zB) (fC (.int 16)) zm) aN))))) w6))
  (zE (zJ true 4 (zO Va ZZ))
  (zE (zJ true 5 (fP zbo lstP))
  (zE (wH (Vk (f2 yJ zik ixP)) (gT 2 (gsC zbq (gsC (gN 7) gsN))) (sIf (zbn (fT (zO (aC xF (aC xU (aC Zk zkb))) vI))) (yZ (fC (.bl false))) sNx))
  (yZ (zib (f2 xF yJ yE) (f2 xU xW yE)))))))))
def zbN : Fn := fnR 8 1 zmY
set_option genInjectivity false in
set_option genSizeOf false in
structure Adr where
 Xb : Addr
 Xd : FuncData
 Wd : Addr
 XR : FuncData
 Yp : Addr
 Yo : FuncData
 We : Addr
 Wl : FuncData
 XJ : Addr
 XQ : FuncData
 XS : Addr
 X5 : FuncData
 Y7 : Addr
 YS : FuncData
 Zt : Addr
 Zn : FuncData
 Y5 : Addr
 YW : FuncData
 Yx : Addr
 Yw : FuncData
 XC : Addr
 Xw : FuncData
 Xf : Addr
 YL : FuncData
 Ym : Addr
 Yl : FuncData
 W8 : Addr
 Ve : FuncData
 Xi : Addr
 Xl : FuncData
 zah : Addr
 zaH : FuncData
 Vg : Addr
 Vj : FuncData
 XF : Addr
 XM : FuncData
 zkH : Addr
 zjA : FuncData
structure Txt (K : zC) (kd : KD) (mg : Str -> Option Value) (t : Adr) : Prop where
 VF : Fun K "least_rows" "least_rows" v7 t.Xb t.Xd
 zdH : Binds K t.Xd ["algebra", "values"] []
 wC : mg "least_rows" = some (.ref t.Xb)
 Wb : Fun K "least_row" "least_row" Yd t.Wd t.XR
 zbe : Binds K t.XR ["algebra", "row", "name"] []
 yR : mg "least_row" = some (.ref t.Wd)
 yU : Fun K "_law_cell_at" "_law_cell_at" Zb t.Yp t.Yo
 xR : Binds K t.Yo ["_law_script", "_law_k"] []
 zB : mg "_law_cell_at" = some (.ref t.Yp)
 Yh : Fun K "_law_mixed" "_law_mixed" Z9 t.We t.Wl
 X3 : Binds K t.Wl ["_law_cell", "_law_k"] []
 yu : mg "_law_mixed" = some (.ref t.We)
 zbc : Fun K "_law_whole" "_law_whole" Yc t.XJ t.XQ
 zeH : Binds K t.XQ ["_law_found"] []
 vH : mg "_law_whole" = some (.ref t.XJ)
 Xx : Fun K "_law_words" "_law_words" Zi t.XS t.X5
 zaK : Binds K t.X5 ["_law_cell", "_law_many"] []
 xJ : mg "_law_words" = some (.ref t.XS)
 Vz : Fun K "_law_common" "_law_common" Zx t.Y7 t.YS
 zdy : Binds K t.YS ["_law_n", "_law_m"] []
 ZG : mg "_law_common" = some (.ref t.Y7)
 Zq : Fun K "_law_joined_by" "_law_joined_by" vB t.Zt t.Zn
 Xm : Binds K t.Zn ["_law_kind", "_law_n", "_law_a", "_law_b"] []
 zN : mg "_law_joined_by" = some (.ref t.Zt)
 VD : Fun K "_law_images" "_law_images" vV t.Y5 t.YW
 zdY : Binds K t.YW ["_law_kind", "_law_n", "_law_x"] []
 Zy : mg "_law_images" = some (.ref t.Y5)
 Yj : Fun K "_law_done_by" "_law_done_by" wJ t.Yx t.Yw
 WN : Binds K t.Yw ["_law_kind", "_law_n", "_law_m", "_law_x"] []
 wL : mg "_law_done_by" = some (.ref t.Yx)
 zaU : Fun K "_law_kinds" "_law_kinds" Yb t.XC t.Xw
 zfe : Binds K t.Xw ["_law_x"] []
 vK : mg "_law_kinds" = some (.ref t.XC)
 vZ : Fun K "_law_stream" "_law_stream" ZF t.Xf t.YL
 ZC : Binds K t.YL ["_law_cell", "_law_many"] []
 yh : mg "_law_stream" = some (.ref t.Xf)
 WY : Fun K "_law_algebra" "_law_algebra" xO t.Ym t.Yl
 zcK : Binds K t.Yl ["_law_cell", "_law_head", "_law_many"] []
 wM : mg "_law_algebra" = some (.ref t.Ym)
 zcr : Fun K "_law_copy" "_law_copy" vD t.W8 t.Ve
 zfU : Binds K t.Ve ["_law_algebra_here"] []
 ZZ : mg "_law_copy" = some (.ref t.W8)
 zab : Fun K "_law_values" "_law_values" ZK t.Xi t.Xl
 zdC : Binds K t.Xl ["_law_script", "_law_start", "_law_most", "_law_size", "_law_number"] []
 w6 : mg "_law_values" = some (.ref t.Xi)
 zdf : Fun K "_law_any" "_law_any" ZV t.zah t.zaH
 ziw : Binds K t.zaH ["_law_cell", "_law_head", "_law_size"] []
 ZR : mg "_law_any" = some (.ref t.zah)
 zcG : Fun K "_law_best" "_law_best" Z5 t.Vg t.Vj
 zfY : Binds K t.Vj ["_law_algebra_here", "_law_row", "_law_values_here"] []
 Z6 : mg "_law_best" = some (.ref t.Vg)
 zaO : Fun K "_law_right" "_law_right" Zh t.XF t.XM
 zeJ : Binds K t.XM ["_law_algebra_here", "_law_row", "_law_name", "_law_values_here"] []
 vI : mg "_law_right" = some (.ref t.XF)
 zqm : Fun K "law" "law" zgO t.zkH t.zjA
 zrL : Binds K t.zjA ["_law_script"] []
 zbN : mg "law" = some (.ref t.zkH)
 znG : mg "bool" = none
 zka : mg "dict" = none
 zdc : mg "int" = none
 Y4 : mg "isinstance" = none
 zjx : mg "len" = none
 Wj : mg "list" = none
 zqh : mg "max" = none
 zmM : mg "min" = none
 yw : mg "range" = none
 zpP : mg "set" = none
 zeU : mg "sorted" = none
 nl : zep K = true
set_option maxHeartbeats 8000000
section
variable {P : Program} {w : World} {K : zC} {mg : Str -> Option Value} {base : Heap} {kd : KD} {t : Adr}
theorem zet (T : Txt K kd mg t) (hkd : KD1 P w K kd) : FnOk P w K mg base CX0 1 t.Xb t.Xd ["algebra", "values"] (spD K kd wC) := by
 refine vU (N := YX) (ps := ["algebra", "values"]) (k := 0) (c := V0) T.VF xM λ cdv A outer s H E hr => ?_
 exact (by
  refine zf ?_ ?_; exact (by refine sv false 2 xM.nd ?_; exact (v9 (zcj rfl (hkd _ rfl rfl rfl)) rfl T.zka Bt.dict (zc (vN (N := ["value"]) (cap := [none]) (S := [0]) rfl (Y6 (av 1)) rfl (by change vz _ YX _ (zF v7).names _ = true; decide +kernel) (by decide) (λ cl s H fp => (an 0 zbs)) (λ cl s H fp => xZ) (λ cl s H fp => (Yv (by refine zu ?_ ?_ ?_; exact (av 0); refine zu ?_ ?_ ?_; exact (yP (zu (av 0) zV (za rfl))); exact zV; exact za rfl; exact za rfl))) (λ _ => rfl)) zy (za rfl)) (Bt.n _ rfl) (by decide) rfl rfl))
  refine zf ?_ ?_; exact (by refine sv false 3 xM.nd ?_; exact (v9 ZS rfl T.Wj Bt.list (zc (av 1) zy (za rfl)) (Bt.n _ rfl) (by decide) rfl rfl))
  refine zf ?_ ?_; exact (by refine sv true 4 xM.nd ?_; exact aI)
  refine zf ?_ ?_; exact (zeZ (n := 10000) PassesOwn.never (yG (ym (hkd _ rfl rfl rfl) (yC hr) .Lt) (yr .Lt) (av 4) (zac (zal (hkd _ rfl rfl rfl)) rfl T.zjx Bt.len (zc (av 3) zy (za rfl)) (Bt.n _ rfl) (by decide) rfl rfl) (yx _)) (by
  refine zf ?_ ?_; exact (wD PassesOwn.never rfl (zea (av 1)) (an 5 xM.nd) (by
  refine zf ?_ ?_; exact (by refine sv true 6 xM.nd ?_; exact (ax hkd (ax hkd (ax hkd (av 0) aI) (ax hkd (av 3) (av 4))) (av 5)))
  exact zA (vO (yG (ym (hkd _ rfl rfl rfl) (yC hr) .NotIn) (yr .NotIn) (av 6) (av 2) rfl) (by
  refine zf ?_ ?_; exact (zgn (zkt hr) (pv 2) (av 6) (zg (zj .Add) (ax hkd (av 2) (ax hkd (av 3) (av 4))) (yP (zu (av 5) zV (za rfl)))) rfl)
  exact zA (v6 (Zr wg Z1 PySem.F.slot_list_append PySem.F.type_list_append (pv 3) (zu (av 6) zV (za rfl)) rfl rfl rfl rfl rfl) rfl)) xu)) (λ _ => rfl))
  exact zA (zoV (i := 4) xM.nd rfl (.inl rfl) (by first | exact Or.inl rfl | exact Or.inr rfl))))
  exact zA (yq (av 2)))
theorem zbh (T : Txt K kd mg t) (hkd : KD1 P w K kd) : FnOk P w K mg base CX0 2 t.Wd t.XR ["algebra", "row", "name"] (spD K kd yR) := by
 refine vU (N := zaV) (ps := ["algebra", "row", "name"]) (k := 1) (c := zaL) T.Wb Zw λ cdv A outer s H E hr => ?_
 exact (by
  refine zf ?_ ?_; exact (by refine sv true 3 Zw.nd ?_; exact (ax hkd (v9 (zcj rfl (hkd _ rfl rfl rfl)) rfl T.zka Bt.dict (zc (ax hkd (av 0) aI) zy (za rfl)) (Bt.n _ rfl) (by decide) rfl rfl) (av 2)))
  refine zf ?_ ?_; exact (vO (yG (ym (hkd _ rfl rfl rfl) (yC hr) .In) (yr .In) (ax hkd (av 0) aI) (av 3) rfl) (zA (yq (yP zV))) xu)
  refine zf ?_ ?_; exact (by refine sv false 4 Zw.nd ?_; exact (yd (zet T hkd) (hr.mono (by omega)) rfl T.wC T.VF.kp T.zdH yK (zc (av 0) (zc (zgt rfl rfl T.zpP rfl T.zeU (zc (av 1) zy (za rfl)) rfl rfl) zy (za rfl)) (za rfl)) (by decide) rfl rfl))
  refine zf ?_ ?_; exact (wD PassesOwn.never rfl (zji (pv 4)) (an 5 Zw.nd) (zA (vO (yG (ym (hkd _ rfl rfl rfl) (yC hr) .In) (yr .In) (av 5) (av 3) rfl) (zA (yq (ax hkd (av 4) (av 5)))) xu)) (λ _ => rfl))
  exact zA (yq aZ))
theorem xN (T : Txt K kd mg t) (hkd : KD1 P w K kd) : FnOk P w K mg base CX0 1 t.Yp t.Yo ["_law_script", "_law_k"] (spD K kd zB) := by
 refine vU (N := WP) (ps := ["_law_script", "_law_k"]) (k := 0) (c := WQ) T.yU zcx λ cdv A outer s H E hr => ?_
 exact (by
  refine zf ?_ ?_; exact (vO (yG (ym (hkd _ rfl rfl rfl) (yC hr) .Lt) (yr .Lt) (av 1) (zac (zal (hkd _ rfl rfl rfl)) rfl T.zjx Bt.len (zc (av 0) zy (za rfl)) (Bt.n _ rfl) (by decide) rfl rfl) (yx _)) (zA (yq (ax hkd (av 0) (av 1)))) xu)
  exact zA (yq aI))
theorem Wk (T : Txt K kd mg t) (hkd : KD1 P w K kd) : FnOk P w K mg base CX0 1 t.We t.Wl ["_law_cell", "_law_k"] (spD K kd yu) := by
 refine vU (N := zbf) (ps := ["_law_cell", "_law_k"]) (k := 0) (c := zaR) T.Yh Vt λ cdv A outer s H E hr => ?_
 exact (by
  refine zf ?_ ?_; exact (by refine sv true 2 Vt.nd ?_; exact (zg (zj .Mod) (zg (zj .Add) (zg (zj .Add) (zg (zj .Mult) (zg (zj .Mod) (av 0) aI) aI) (zg (zj .Mult) (zg (zj .Mult) (av 1) (av 1)) aI)) aI) aI))
  exact zA (yq (zg (zj .Mod) (zg (zj .Add) (zg (zj .Add) (zg (zj .Mult) (av 2) (av 2)) (zg (zj .Mult) aI (av 2))) (av 1)) aI)))
theorem zeE (T : Txt K kd mg t) (hkd : KD1 P w K kd) : FnOk P w K mg base CX0 1 t.XJ t.XQ ["_law_found"] (spD K kd vH) := by
 refine vU (N := zaQ) (ps := ["_law_found"]) (k := 0) (c := zaW) T.zbc zdT λ cdv A outer s H E hr => ?_
 exact (zA (yq (zgu (zgG (hkd _ rfl rfl rfl) rfl rfl T.Y4 Bt.isinstance rfl T.zdc Bt.int (av 0) (Bt.n _ rfl) (by decide) (Bt.n _ rfl) (by decide) rfl rfl rfl) (zgl (znN (zgG (hkd _ rfl rfl rfl) rfl rfl T.Y4 Bt.isinstance rfl T.znG Bt.bool (av 0) (Bt.n _ rfl) (by decide) (Bt.n _ rfl) (by decide) rfl rfl rfl))))))
theorem zaZ (T : Txt K kd mg t) (hkd : KD1 P w K kd) : FnOk P w K mg base CX0 2 t.XS t.X5 ["_law_cell", "_law_many"] (spD K kd xJ) := by
 refine vU (N := Wi) (ps := ["_law_cell", "_law_many"]) (k := 1) (c := zbg) T.Xx wz λ cdv A outer s H E hr => ?_
 exact (by
  refine zf ?_ ?_; exact (by refine sv true 2 wz.nd ?_; exact aS)
  refine zf ?_ ?_; exact (by refine sv true 3 wz.nd ?_; exact (zg (zj .Add) aI (zg (zj .Mod) (av 0) aI)))
  refine zf ?_ ?_; exact (by refine sv true 4 wz.nd ?_; exact (zg (zj .Mod) (zg (zj .FloorDiv) (av 0) aI) (av 3)))
  refine zf ?_ ?_; exact (by refine sv false 5 wz.nd ?_; exact (yP zV))
  refine zf ?_ ?_; exact (wD PassesOwn.never rfl (xr rfl T.yw (zc (av 1) zy (za rfl)) rfl) (an 6 wz.nd) (by
  refine zf ?_ ?_; exact (ZM (z := true) (i := 7) (N := ["_law_j", "_law_letters", "_law_k", "_law_cell", "_law_at"]) (cap := [none, some 2, some 6, some 0, some 4]) (S := [0]) wz.nd rfl (by exact Or.inl rfl) (by exact Or.inr rfl) rfl rfl (wK rfl T.yw (zc (av 3) zy (za rfl)) rfl) rfl (by change vz _ Wi _ (zF Zi).names _ = true; decide +kernel) (by decide) (λ cl s H fp => (an 0 zcz)) (λ cl s H fp => xZ) (λ cl s H fp => (ax hkd (av 1) (zg (zj .Mod) (zg (zj .Add) (zg (zj .FloorDiv) (yd (Wk T hkd) (hr.mono (by omega)) rfl T.yu T.Yh.kp T.X3 yK (zc (av 3) (zc (av 0) zy (za rfl)) (za rfl)) (by decide) rfl rfl) aI) (zg (zj .Mult) (av 2) (v9 Z3 rfl T.zdc Bt.int (zc (Ys (ym (hkd _ rfl rfl rfl) (yC hr) .Eq) (av 0) (av 4) (yx _)) zy (za rfl)) (Bt.n _ rfl) (by decide) rfl rfl))) aI))) (λ _ => rfl))
  exact zA (v6 (Zr wg Z1 PySem.F.slot_list_append PySem.F.type_list_append (pv 5) (zu (zlh (ty := .str) (hkd _ rfl rfl rfl) zmo PySem.F.plainAttrs_str PySem.F.slot_str_join PySem.F.type_str_join aS (zc (av 7) zy (za rfl)) rfl rfl rfl rfl rfl) zV (za rfl)) rfl rfl rfl rfl rfl) rfl)) (λ _ => rfl))
  exact zA (yq (av 5)))
theorem zeq (T : Txt K kd mg t) (hkd : KD1 P w K kd) : FnOk P w K mg base CX0 1 t.Y7 t.YS ["_law_n", "_law_m"] (spD K kd ZG) := by
 refine vU (N := V9) (ps := ["_law_n", "_law_m"]) (k := 0) (c := Vu) T.Vz WX λ cdv A outer s H E hr => ?_
 exact (by
  refine zf ?_ ?_; exact (zeZ (n := 10000) PassesOwn.never (yG (ym (hkd _ rfl rfl rfl) (yC hr) .Gt) (yr .Gt) (av 1) aI (yx _)) (zA (zow (i := 0) (j := 1) rfl WX.nd rfl rfl (by decide) rfl rfl (zu (av 1) (zu (zg (zj .Mod) (av 0) (av 1)) zV (za rfl)) (za rfl)) rfl rfl)))
  exact zA (yq (av 0)))
theorem Xo (T : Txt K kd mg t) (hkd : KD1 P w K kd) : FnOk P w K mg base CX0 1 t.Zt t.Zn ["_law_kind", "_law_n", "_law_a", "_law_b"] (spD K kd zN) := by
 refine vU (N := Xn) (ps := ["_law_kind", "_law_n", "_law_a", "_law_b"]) (k := 0) (c := Xp) T.Zq YC λ cdv A outer s H E hr => ?_
 exact (by
  refine zf ?_ ?_; exact (vO (yG (ym (hkd _ rfl rfl rfl) (yC hr) .Eq) (yr .Eq) (av 0) aI (yx _)) (zA (yq (zg (zj .Mod) (zg (zj .Add) (av 2) (av 3)) (av 1)))) xu)
  refine zf ?_ ?_; exact (vO (yG (ym (hkd _ rfl rfl rfl) (yC hr) .Eq) (yr .Eq) (av 0) aI (yx _)) (zA (yq (zac (zhR rfl) rfl T.zqh Bt.max (zc (av 2) (zc (av 3) zy (za rfl)) (za rfl)) (Bt.n _ rfl) (by decide) rfl rfl))) xu)
  refine zf ?_ ?_; exact (vO (yG (ym (hkd _ rfl rfl rfl) (yC hr) .Eq) (yr .Eq) (av 0) aI (yx _)) (zA (yq (ax hkd (yP (zu (av 3) (zu (av 2) zV (za rfl)) (za rfl))) (v9 Z3 rfl T.zdc Bt.int (zc (Ys (ym (hkd _ rfl rfl rfl) (yC hr) .Eq) (av 3) aI (yx _)) zy (za rfl)) (Bt.n _ rfl) (by decide) rfl rfl)))) xu)
  refine zf ?_ ?_; exact (by refine sv true 4 YC.nd ?_; exact (yP (zu (zg (zj .FloorDiv) (av 3) aI) (zu (zg (zj .Mod) (av 3) aI) zV (za rfl)) (za rfl))))
  exact zA (yq (zg (zj .Add) (zg (zj .Mult) aI (ax hkd (av 4) (zg (zj .FloorDiv) (av 2) aI))) (ax hkd (av 4) (zg (zj .Mod) (av 2) aI)))))
theorem zdG (T : Txt K kd mg t) (hkd : KD1 P w K kd) : FnOk P w K mg base CX0 1 t.Y5 t.YW ["_law_kind", "_law_n", "_law_x"] (spD K kd Zy) := by
 refine vU (N := Xc) (ps := ["_law_kind", "_law_n", "_law_x"]) (k := 0) (c := VL) T.VD vA λ cdv A outer s H E hr => ?_
 exact (by
  refine zf ?_ ?_; exact (vO (yG (ym (hkd _ rfl rfl rfl) (yC hr) .Eq) (yr .Eq) (av 0) aI (yx _)) (zA (yq (vN (N := ["_law_a", "_law_x"]) (cap := [none, some 2]) (S := [0]) rfl (wK rfl T.yw (zc (av 1) zy (za rfl)) rfl) rfl (by change vz _ Xc _ (zF vV).names _ = true; decide +kernel) (by decide) (λ cl s H fp => (an 0 zbt)) (λ cl s H fp => xZ) (λ cl s H fp => (ax hkd (yP (zu (av 0) (zu (zg (zj .Sub) (zg (zj .Add) (zg (zj .Mult) aI (zg (zj .Sub) aI (zg (zj .Mod) (av 0) aI))) aI) (zg (zj .FloorDiv) (av 0) aI)) zV (za rfl)) (za rfl))) (zg (zj .Mod) (av 1) aI))) (λ _ => rfl)))) xu)
  refine zf ?_ ?_; exact (by refine sv false 3 vA.nd ?_; exact (yP zV))
  refine zf ?_ ?_; exact (wD PassesOwn.never rfl (zih rfl T.yw (zc aI (zc (av 1) zy (za rfl)) (za rfl)) rfl rfl) (an 4 vA.nd) (by
  refine zf ?_ ?_; exact (by refine sv true 2 vA.nd ?_; exact (zg (zj .FloorDiv) (av 2) (av 1)))
  exact zA (v6 (Zr wg Z1 PySem.F.slot_list_append PySem.F.type_list_append (pv 3) (zu (ax hkd (yP (zu (zg (zj .Mod) (av 2) (av 1)) (zu (zg (zj .Add) aI (zg (zj .Mod) (av 2) (zg (zj .Sub) (av 1) aI))) zV (za rfl)) (za rfl))) (zg (zj .Sub) (av 0) aI)) zV (za rfl)) rfl rfl rfl rfl rfl) rfl)) (λ _ => rfl))
  refine zf ?_ ?_; exact (vO (yG (ym (hkd _ rfl rfl rfl) (yC hr) .Eq) (yr .Eq) (av 0) aI (yx _)) (zA (by refine sv false 3 vA.nd ?_; exact (zac zgj rfl T.zeU Bt.sorted (zc (av 3) zy (za rfl)) (Bt.n _ rfl) (by decide) rfl rfl))) xu)
  exact zA (yq (zg (zj .Add) (yP (zu aI zV (za rfl))) (av 3))))
theorem WR (T : Txt K kd mg t) (hkd : KD1 P w K kd) : FnOk P w K mg base CX0 2 t.Yx t.Yw ["_law_kind", "_law_n", "_law_m", "_law_x"] (spD K kd wL) := by
 refine vU (N := Ze) (ps := ["_law_kind", "_law_n", "_law_m", "_law_x"]) (k := 1) (c := W7) T.Yj Z4 λ cdv A outer s H E hr => ?_
 exact (by
  refine zf ?_ ?_; exact (vO (yG (ym (hkd _ rfl rfl rfl) (yC hr) .Gt) (yr .Gt) (av 0) aI (yx _)) (by
  refine zf ?_ ?_; exact (by refine sv true 4 Z4.nd ?_; exact (yd (zdG T hkd) (hr.mono (by omega)) rfl T.Zy T.VD.kp T.zdY yK (by refine zc ?_ ?_ ?_; exact (av 0); refine zc ?_ ?_ ?_; exact (av 1); refine zc ?_ ?_ ?_; exact (av 3); exact zy; exact za rfl; exact za rfl; exact za rfl) (by decide) rfl rfl))
  exact zA (yq (vN (N := ["_law_c", "_law_images_here"]) (cap := [none, some 4]) (S := [0]) rfl (wK rfl T.yw (zc (av 2) zy (za rfl)) rfl) rfl (by change vz _ Ze _ (zF wJ).names _ = true; decide +kernel) (by decide) (λ cl s H fp => (an 0 zae)) (λ cl s H fp => xZ) (λ cl s H fp => (v9 ZS rfl T.Wj Bt.list (zc (av 1) zy (za rfl)) (Bt.n _ rfl) (by decide) rfl rfl)) (λ _ => rfl)))) xu)
  refine zf ?_ ?_; exact (by refine sv true 5 Z4.nd ?_; exact (zg (zj .Mult) (zg (zj .FloorDiv) (av 1) (yd (zeq T hkd) (hr.mono (by omega)) rfl T.ZG T.Vz.kp T.zdy yK (zc (av 1) (zc (av 2) zy (za rfl)) (za rfl)) (by decide) rfl rfl)) (zg (zj .Mod) (zg (zj .FloorDiv) (av 3) aI) aI)))
  exact zA (yq (vN (N := ["_law_c", "_law_n", "_law_step", "_law_x"]) (cap := [none, some 1, some 5, some 3]) (S := [0]) rfl (wK rfl T.yw (zc (av 2) zy (za rfl)) rfl) rfl (by change vz _ Ze _ (zF wJ).names _ = true; decide +kernel) (by decide) (λ cl s H fp => (an 0 zaF)) (λ cl s H fp => xZ) (λ cl s H fp => (vN (N := ["_law_a", "_law_n", "_law_step", "_law_c", "_law_x"]) (cap := [none, some 1, some 2, some 0, some 3]) (S := [0]) rfl (wK rfl T.yw (zc (av 1) zy (za rfl)) rfl) rfl (by with_unfolding_all rfl) (by decide) (λ cl s H fp => (an 0 zaC)) (λ cl s H fp => xZ) (λ cl s H fp => (zg (zj .Mod) (zg (zj .Add) (zg (zj .Mult) (zg (zj .Mod) (av 4) aI) (av 0)) (zg (zj .Mult) (av 2) (av 3))) (av 1))) (λ _ => rfl))) (λ _ => rfl))))
theorem zeV (T : Txt K kd mg t) (hkd : KD1 P w K kd) : FnOk P w K mg base CX0 1 t.XC t.Xw ["_law_x"] (spD K kd vK) := by
 refine vU (N := zbl) (ps := ["_law_x"]) (k := 0) (c := zbd) T.zaU wZ λ cdv A outer s H E hr => ?_
 exact (by
  refine zf ?_ ?_; exact (by refine sv true 1 wZ.nd ?_; exact (zg (zj .Mod) (av 0) aI))
  refine zf ?_ ?_; exact (by refine sv true 2 wZ.nd ?_; exact (ax hkd (yP (zu (zg (zj .Add) aI (zg (zj .Mod) (zg (zj .FloorDiv) (av 0) aI) aI)) (zu (zg (zj .Add) aI (zg (zj .Mod) (zg (zj .FloorDiv) (av 0) aI) aI)) zV (za rfl)) (za rfl))) (v9 Z3 rfl T.zdc Bt.int (zc (Ys (ym (hkd _ rfl rfl rfl) (yC hr) .Eq) (zg (zj .Mod) (zg (zj .FloorDiv) (av 0) aI) aI) aI (yx _)) zy (za rfl)) (Bt.n _ rfl) (by decide) rfl rfl)))
  refine zf ?_ ?_; exact (vO (yG (ym (hkd _ rfl rfl rfl) (yC hr) .Eq) (yr .Eq) (av 1) aI (yx _)) (zA (by refine sv true 2 wZ.nd ?_; exact aI)) xu)
  refine zf ?_ ?_; exact (by refine sv true 3 wZ.nd ?_; exact (zg (zj .Add) aI (zg (zj .Mod) (zg (zj .FloorDiv) (av 0) aI) aI)))
  refine zf ?_ ?_; exact (vO (yG (ym (hkd _ rfl rfl rfl) (yC hr) .Gt) (yr .Gt) (zg (zj .Mult) (av 2) (av 3)) aI (yx _)) (zA (by refine sv true 3 wZ.nd ?_; exact aI)) xu)
  exact zA (yq (Yv (by refine zu ?_ ?_ ?_; exact (av 1); refine zu ?_ ?_ ?_; exact (av 2); refine zu ?_ ?_ ?_; exact (zg (zj .Mod) (zg (zj .FloorDiv) (av 0) aI) aI); refine zu ?_ ?_ ?_; exact (av 3); exact zV; exact za rfl; exact za rfl; exact za rfl; exact za rfl))))
theorem ZJ (T : Txt K kd mg t) (hkd : KD1 P w K kd) : FnOk P w K mg base CX0 2 t.Xf t.YL ["_law_cell", "_law_many"] (spD K kd yh) := by
 refine vU (N := V5) (ps := ["_law_cell", "_law_many"]) (k := 1) (c := VP) T.vZ vo λ cdv A outer s H E hr => ?_
 exact (by
  refine zf ?_ ?_; exact (by refine sv false 2 vo.nd ?_; exact (yP zV))
  refine zf ?_ ?_; exact (by refine sv true 3 vo.nd ?_; exact (zg (zj .FloorDiv) (av 0) aI))
  refine zf ?_ ?_; exact (wD PassesOwn.never rfl (xr rfl T.yw (zc (av 1) zy (za rfl)) rfl) (an 4 vo.nd) (zA (vO (yG (ym (hkd _ rfl rfl rfl) (yC hr) .Eq) (yr .Eq) (zg (zj .Mod) (av 0) aI) aI (yx _)) (by
  refine zf ?_ ?_; exact (v6 (Zr wg Z1 PySem.F.slot_list_append PySem.F.type_list_append (pv 2) (zu (zg (zj .Mod) (av 3) aI) zV (za rfl)) rfl rfl rfl rfl rfl) rfl)
  exact zA (by refine sv true 3 vo.nd ?_; exact (zg (zj .FloorDiv) (av 3) aI))) (zA (v6 (Zr wg Z1 PySem.F.slot_list_append PySem.F.type_list_append (pv 2) (zu (yd (Wk T hkd) (hr.mono (by omega)) rfl T.yu T.Yh.kp T.X3 yK (zc (av 3) (zc (av 4) zy (za rfl)) (za rfl)) (by decide) rfl rfl) zV (za rfl)) rfl rfl rfl rfl rfl) rfl)))) (λ _ => rfl))
  exact zA (yq (av 2)))
theorem zcM (T : Txt K kd mg t) (hkd : KD1 P w K kd) : FnOk P w K mg base CX0 3 t.Ym t.Yl ["_law_cell", "_law_head", "_law_many"] (spD K kd wM) := by
 refine vU (N := vp) (ps := ["_law_cell", "_law_head", "_law_many"]) (k := 2) (c := Yi) T.WY zr λ cdv A outer s H E hr => ?_
 exact (by
  refine zf ?_ ?_; exact (by refine sv true 3 zr.nd ?_; exact (yd (ZJ T hkd) (hr.mono (by omega)) rfl T.yh T.vZ.kp T.ZC yK (zc (av 0) (zc (zg (zj .Add) aI (zg (zj .Mult) aI (av 2))) zy (za rfl)) (za rfl)) (by decide) rfl rfl))
  refine zf ?_ ?_; exact (by refine sv true 4 zr.nd ?_; exact (yd (ZJ T hkd) (hr.mono (by omega)) rfl T.yh T.vZ.kp T.ZC yK (zc (av 1) (zc aI zy (za rfl)) (za rfl)) (by decide) rfl rfl))
  refine zf ?_ ?_; exact (zgb (yd (zeV T hkd) (hr.mono (by omega)) rfl T.vK T.zaU.kp T.zfe yK (zc (ax hkd (av 3) aI) zy (za rfl)) (by decide) rfl rfl) (zav rfl (yp (an 5 zr.nd) (yp (an 6 zr.nd) (yp (an 7 zr.nd) (yp (an 8 zr.nd) Wt rfl) rfl) rfl) rfl) rfl rfl) rfl rfl rfl)
  refine zf ?_ ?_; exact (by refine sv true 9 zr.nd ?_; exact (zg (zj .Add) (zg (zj .Add) aI (zg (zj .Mod) (ax hkd (av 4) aI) aI)) (zg (zj .Mult) aI (v9 Z3 rfl T.zdc Bt.int (zc (Ys (ym (hkd _ rfl rfl rfl) (yC hr) .Eq) (zg (zj .Mod) (zg (zj .FloorDiv) (ax hkd (av 4) aI) aI) aI) aI (yx _)) zy (za rfl)) (Bt.n _ rfl) (by decide) rfl rfl))))
  refine zf ?_ ?_; exact (by refine sv true 10 zr.nd ?_; exact (zg (zj .Mult) (av 6) (av 8)))
  refine zf ?_ ?_; exact (by refine sv false 11 zr.nd ?_; exact (ziK rfl rfl T.yw rfl T.Wj (zc (av 10) zy (za rfl)) rfl rfl))
  refine zf ?_ ?_; exact (by refine sv false 12 zr.nd ?_; exact (yP zV))
  refine zf ?_ ?_; exact (wD PassesOwn.never rfl (xr rfl T.yw (zc (av 10) zy (za rfl)) rfl) (an 13 zr.nd) (zA (v6 (Zr wg Z1 PySem.F.slot_list_append PySem.F.type_list_append (pv 12) (zu (Zr zjP zkx PySem.F.slot_list_pop PySem.F.type_list_pop (pv 11) (zu (zg (zj .Mod) (ax hkd (av 4) (zg (zj .Add) aI (av 13))) (zac (zal (hkd _ rfl rfl rfl)) rfl T.zjx Bt.len (zc (av 11) zy (za rfl)) (Bt.n _ rfl) (by decide) rfl rfl)) zV (za rfl)) rfl rfl rfl rfl rfl) zV (za rfl)) rfl rfl rfl rfl rfl) rfl)) (λ _ => rfl))
  refine zlv ?_
  refine zf ?_ ?_; exact (ZM (z := false) (i := 14) (N := ["_law_a", "_law_order"]) (cap := [none, some 12]) (S := [0]) zr.nd rfl (by exact Or.inl rfl) (by exact Or.inr rfl) rfl rfl (Y6 (av 12)) rfl (by change vz _ vp _ (zF xO).names _ = true; decide +kernel) (by decide) (λ cl s H fp => (an 0 zat)) (λ cl s H fp => xZ) (λ cl s H fp => (vN (N := ["_law_b"]) (cap := [none]) (S := [0]) rfl (Y6 (av 1)) rfl (by with_unfolding_all rfl) (by decide) (λ cl s H fp => (an 0 zaw)) (λ cl s H fp => xZ) (λ cl s H fp => aI) (λ _ => rfl))) (λ _ => rfl))
  refine zf ?_ ?_; exact (wD PassesOwn.never rfl (xr rfl T.yw (zc (av 10) zy (za rfl)) rfl) (an 15 zr.nd) (zA (wD PassesOwn.never rfl (xr rfl T.yw (zc (av 10) zy (za rfl)) rfl) (an 16 zr.nd) (by
  refine zf ?_ ?_; exact (by refine sv true 17 zr.nd ?_; exact (zg (zj .Mult) (yd (Xo T hkd) (hr.mono (by omega)) rfl T.zN T.Zq.kp T.Xm yK (by refine zc ?_ ?_ ?_; exact (av 5); refine zc ?_ ?_ ?_; exact (av 6); refine zc ?_ ?_ ?_; exact (zg (zj .FloorDiv) (av 15) (av 8)); refine zc ?_ ?_ ?_; exact (zg (zj .FloorDiv) (av 16) (av 8)); exact zy; exact za rfl; exact za rfl; exact za rfl; exact za rfl) (by decide) rfl rfl) (av 8)))
  refine zf ?_ ?_; exact (by refine sv true 17 zr.nd ?_; exact (zg (zj .Add) (av 17) (yd (Xo T hkd) (hr.mono (by omega)) rfl T.zN T.Zq.kp T.Xm yK (by refine zc ?_ ?_ ?_; exact (av 7); refine zc ?_ ?_ ?_; exact (av 8); refine zc ?_ ?_ ?_; exact (zg (zj .Mod) (av 15) (av 8)); refine zc ?_ ?_ ?_; exact (zg (zj .Mod) (av 16) (av 8)); exact zy; exact za rfl; exact za rfl; exact za rfl; exact za rfl) (by decide) rfl rfl)))
  exact zA (zgK (pv 14) (zfq (pv 12) (zay (pv 15)) (λ _ _ => rfl)) (λ _ _ => rfl) (zfq (pv 12) (zay (pv 16)) (λ _ _ => rfl)) (zfq (pv 12) (zay (pv 17)) (λ _ _ => rfl)) (λ _ => rfl) rfl rfl rfl)) (λ _ => rfl))) (λ _ => rfl))
  refine zf ?_ ?_; exact (by refine sv true 18 zr.nd ?_; exact (yd (zaZ T hkd) (hr.mono (by omega)) rfl T.xJ T.Xx.kp T.zaK yK (zc (zg (zj .FloorDiv) (av 1) aI) (zc aI zy (za rfl)) (za rfl)) (by decide) rfl rfl))
  refine zf ?_ ?_; exact (by refine sv false 19 zr.nd ?_; exact (yP zV))
  refine zf ?_ ?_; exact (wD PassesOwn.never rfl (xr rfl T.yw (zc (av 2) zy (za rfl)) rfl) (an 13 zr.nd) (by
  refine zf ?_ ?_; exact (by refine sv true 20 zr.nd ?_; exact (yd (WR T hkd) (hr.mono (by omega)) rfl T.wL T.Yj.kp T.WN yK (by refine zc ?_ ?_ ?_; exact (av 5); refine zc ?_ ?_ ?_; exact (av 6); refine zc ?_ ?_ ?_; exact (av 9); refine zc ?_ ?_ ?_; exact (ax hkd (av 3) (zg (zj .Add) aI (zg (zj .Mult) aI (av 13)))); exact zy; exact za rfl; exact za rfl; exact za rfl; exact za rfl) (by decide) rfl rfl))
  refine zf ?_ ?_; exact (by refine sv true 21 zr.nd ?_; exact (yd (WR T hkd) (hr.mono (by omega)) rfl T.wL T.Yj.kp T.WN yK (by refine zc ?_ ?_ ?_; exact (av 7); refine zc ?_ ?_ ?_; exact (av 8); refine zc ?_ ?_ ?_; exact (av 9); refine zc ?_ ?_ ?_; exact (ax hkd (av 3) (zg (zj .Add) aI (zg (zj .Mult) aI (av 13)))); exact zy; exact za rfl; exact za rfl; exact za rfl; exact za rfl) (by decide) rfl rfl))
  refine zf ?_ ?_; exact (ZM (z := false) (i := 22) (N := ["_law_c", "_law_order"]) (cap := [none, some 12]) (S := [0]) zr.nd rfl (by exact Or.inl rfl) (by exact Or.inr rfl) rfl rfl (wK rfl T.yw (zc (av 9) zy (za rfl)) rfl) rfl (by change vz _ vp _ (zF xO).names _ = true; decide +kernel) (by decide) (λ cl s H fp => (an 0 zad)) (λ cl s H fp => xZ) (λ cl s H fp => (vN (N := ["_law_a"]) (cap := [none]) (S := [0]) rfl (Y6 (av 1)) rfl (by with_unfolding_all rfl) (by decide) (λ cl s H fp => (an 0 zap)) (λ cl s H fp => xZ) (λ cl s H fp => aI) (λ _ => rfl))) (λ _ => rfl))
  refine zf ?_ ?_; exact (wD PassesOwn.never rfl (xr rfl T.yw (zc (av 9) zy (za rfl)) rfl) (an 23 zr.nd) (zA (wD PassesOwn.never rfl (xr rfl T.yw (zc (av 10) zy (za rfl)) rfl) (an 15 zr.nd) (by
  refine zf ?_ ?_; exact (by refine sv true 17 zr.nd ?_; exact (ax hkd (ax hkd (av 20) (av 23)) (zg (zj .FloorDiv) (av 15) (av 8))))
  refine zf ?_ ?_; exact (by refine sv true 17 zr.nd ?_; exact (zg (zj .Add) (zg (zj .Mult) (av 17) (av 8)) (ax hkd (ax hkd (av 21) (av 23)) (zg (zj .Mod) (av 15) (av 8)))))
  exact zA (zgK (pv 22) (zay (pv 23)) (λ _ _ => rfl) (zfq (pv 12) (zay (pv 15)) (λ _ _ => rfl)) (zfq (pv 12) (zay (pv 17)) (λ _ _ => rfl)) (λ _ => rfl) rfl rfl rfl)) (λ _ => rfl))) (λ _ => rfl))
  exact zA (v6 (Zr wg Z1 PySem.F.slot_list_append PySem.F.type_list_append (pv 19) (by refine zu ?_ ?_ ?_; exact (Yv (zu (ax hkd (av 18) (av 13)) (zu (av 22) zV (za rfl)) (za rfl))); exact zV; exact za rfl) rfl rfl rfl rfl rfl) rfl)) (λ _ => rfl))
  refine zf ?_ ?_; exact (by refine sv false 24 zr.nd ?_; exact (yP zV))
  refine zf ?_ ?_; exact (wD PassesOwn.never rfl (xr rfl T.yw (zc aI zy (za rfl)) rfl) (an 13 zr.nd) (by
  refine zf ?_ ?_; exact (by refine sv true 25 zr.nd ?_; exact (ax hkd (av 4) (zg (zj .Add) aI (av 13))))
  refine zf ?_ ?_; exact (ZM (z := true) (i := 26) (N := ["_law_a", "_law_bits"]) (cap := [none, some 25]) (S := [0]) zr.nd rfl (by exact Or.inl rfl) (by exact Or.inr rfl) rfl rfl (wK rfl T.yw (zc (av 10) zy (za rfl)) rfl) rfl (by change vz _ vp _ (zF xO).names _ = true; decide +kernel) (by decide) (λ cl s H fp => (an 0 zaD)) (λ cl s H fp => (zby (yG (ym (hkd _ rfl rfl rfl) (yC hr) .Eq) (yr .Eq) (zg (zj .Mod) (zg (zj .FloorDiv) (av 1) (zg zhr aI (av 0))) aI) aI (yx _)))) (λ cl s H fp => (av 0)) (λ _ => rfl))
  exact zA (v6 (Zr wg Z1 PySem.F.slot_list_append PySem.F.type_list_append (pv 24) (by refine zu ?_ ?_ ?_; exact (Yv (zu (ax hkd (av 18) (zg (zj .Add) (av 13) (zg (zj .Mult) aI (zg (zj .Mod) (zg (zj .FloorDiv) (av 25) aI) aI)))) (zu (av 26) zV (za rfl)) (za rfl))); exact zV; exact za rfl) rfl rfl rfl rfl rfl) rfl)) (λ _ => rfl))
  refine zf ?_ ?_; exact (by refine sv true 27 zr.nd ?_; exact (ax hkd (av 12) (ax hkd (yP (zu aI (zu (av 8) zV (za rfl)) (za rfl))) (v9 Z3 rfl T.zdc Bt.int (zc (Ys (ym (hkd _ rfl rfl rfl) (yC hr) .Eq) (av 5) aI (yx _)) zy (za rfl)) (Bt.n _ rfl) (by decide) rfl rfl))))
  exact zA (yq (Yv (by refine zu ?_ ?_ ?_; exact (av 10); refine zu ?_ ?_ ?_; exact (av 9); refine zu ?_ ?_ ?_; exact (av 14); refine zu ?_ ?_ ?_; exact (av 27); refine zu ?_ ?_ ?_; exact (av 19); refine zu ?_ ?_ ?_; exact (ziU (av 24) zlK (zlJ (zg (zj .Mod) (ax hkd (av 4) aI) aI))); exact zV; exact za rfl; exact za rfl; exact za rfl; exact za rfl; exact za rfl; exact za rfl))))
theorem zgz (T : Txt K kd mg t) (hkd : KD1 P w K kd) : FnOk P w K mg base CX0 1 t.W8 t.Ve ["_law_algebra_here"] (spD K kd ZZ) := by
 refine vU (N := Z2) (ps := ["_law_algebra_here"]) (k := 0) (c := zco) T.zcr xG λ cdv A outer s H E hr => ?_
 exact (by
  refine zf ?_ ?_; exact (zgb (av 0) (zav rfl (yp (an 1 xG.nd) (yp (an 2 xG.nd) (yp (an 3 xG.nd) (yp (an 4 xG.nd) (yp (an 5 xG.nd) (yp (an 6 xG.nd) Wt rfl) rfl) rfl) rfl) rfl) rfl) rfl rfl) rfl rfl rfl)
  refine zf ?_ ?_; exact (ZM (z := true) (i := 7) (N := ["_law_name", "_law_table"]) (cap := [none, none]) (S := [0, 1]) xG.nd rfl (by exact Or.inl rfl) (by exact Or.inr rfl) rfl rfl (Y6 (av 5)) rfl (by change vz _ Z2 _ (zF vD).names _ = true; decide +kernel) (by decide) (λ cl s H fp => (zav rfl (yp (an 0 W0) (yp (an 1 W0) Wt rfl) rfl) rfl rfl)) (λ cl s H fp => xZ) (λ cl s H fp => (Yv (zu (av 0) (zu (vN (N := ["_law_row"]) (cap := [none]) (S := [0]) rfl (Y6 (av 1)) rfl (by with_unfolding_all rfl) (by decide) (λ cl s H fp => (an 0 zcS)) (λ cl s H fp => xZ) (λ cl s H fp => (v9 ZS rfl T.Wj Bt.list (zc (av 0) zy (za rfl)) (Bt.n _ rfl) (by decide) rfl rfl)) (λ _ => rfl)) zV (za rfl)) (za rfl)))) (λ _ => rfl))
  refine zf ?_ ?_; exact (ZM (z := true) (i := 8) (N := ["_law_name", "_law_values_here"]) (cap := [none, none]) (S := [0, 1]) xG.nd rfl (by exact Or.inl rfl) (by exact Or.inr rfl) rfl rfl (Y6 (av 6)) rfl (by change vz _ Z2 _ (zF vD).names _ = true; decide +kernel) (by decide) (λ cl s H fp => (zav rfl (yp (an 0 W6) (yp (an 1 W6) Wt rfl) rfl) rfl rfl)) (λ cl s H fp => xZ) (λ cl s H fp => (Yv (zu (av 0) (zu (v9 ZS rfl T.Wj Bt.list (zc (av 1) zy (za rfl)) (Bt.n _ rfl) (by decide) rfl rfl) zV (za rfl)) (za rfl)))) (λ _ => rfl))
  exact zA (yq (Yv (by refine zu ?_ ?_ ?_; exact (av 1); refine zu ?_ ?_ ?_; exact (av 2); refine zu ?_ ?_ ?_; exact (vN (N := ["_law_row"]) (cap := [none]) (S := [0]) rfl (Y6 (av 3)) rfl (by change vz _ Z2 _ (zF vD).names _ = true; decide +kernel) (by decide) (λ cl s H fp => (an 0 zcL)) (λ cl s H fp => xZ) (λ cl s H fp => (v9 ZS rfl T.Wj Bt.list (zc (av 0) zy (za rfl)) (Bt.n _ rfl) (by decide) rfl rfl)) (λ _ => rfl)); refine zu ?_ ?_ ?_; exact (av 4); refine zu ?_ ?_ ?_; exact (av 7); refine zu ?_ ?_ ?_; exact (av 8); exact zV; exact za rfl; exact za rfl; exact za rfl; exact za rfl; exact za rfl; exact za rfl))))
theorem zeu (T : Txt K kd mg t) (hkd : KD1 P w K kd) : FnOk P w K mg base CX0 2 t.Xi t.Xl ["_law_script", "_law_start", "_law_most", "_law_size", "_law_number"] (spD K kd w6) := by
 refine vU (N := Vn) (ps := ["_law_script", "_law_start", "_law_most", "_law_size", "_law_number"]) (k := 1) (c := Vp) T.zab Yu λ cdv A outer s H E hr => ?_
 exact (by
  refine zf ?_ ?_; exact (by refine sv false 5 Yu.nd ?_; exact (yP zV))
  refine zf ?_ ?_; exact (wD PassesOwn.never rfl (xr rfl T.yw (zc (zg (zj .Mod) (av 4) (zg (zj .Add) (av 2) aI)) zy (za rfl)) rfl) (an 6 Yu.nd) (zA (v6 (Zr wg Z1 PySem.F.slot_list_append PySem.F.type_list_append (pv 5) (zu (zg (zj .Mod) (yd (Wk T hkd) (hr.mono (by omega)) rfl T.yu T.Yh.kp T.X3 yK (zc (yd (xN T hkd) (hr.mono (by omega)) rfl T.zB T.yU.kp T.xR yK (zc (av 0) (zc (zg (zj .Add) (av 1) (av 6)) zy (za rfl)) (za rfl)) (by decide) rfl rfl) (zc (zg (zj .Add) (av 6) aI) zy (za rfl)) (za rfl)) (by decide) rfl rfl) (av 3)) zV (za rfl)) rfl rfl rfl rfl rfl) rfl)) (λ _ => rfl))
  exact zA (yq (av 5)))
theorem zif (T : Txt K kd mg t) (hkd : KD1 P w K kd) : FnOk P w K mg base CX0 3 t.zah t.zaH ["_law_cell", "_law_head", "_law_size"] (spD K kd ZR) := by
 refine vU (N := Ww) (ps := ["_law_cell", "_law_head", "_law_size"]) (k := 2) (c := zcZ) T.zdf wB λ cdv A outer s H E hr => ?_
 exact (by
  refine zf ?_ ?_; exact (by refine sv true 3 wB.nd ?_; exact (yd (ZJ T hkd) (hr.mono (by omega)) rfl T.yh T.vZ.kp T.ZC yK (zc (av 0) (zc (zg (zj .Mult) (av 2) (av 2)) zy (za rfl)) (za rfl)) (by decide) rfl rfl))
  refine zf ?_ ?_; exact (ZM (z := true) (i := 4) (N := ["_law_a", "_law_size", "_law_xs"]) (cap := [none, some 2, some 3]) (S := [0]) wB.nd rfl (by exact Or.inl rfl) (by exact Or.inr rfl) rfl rfl (wK rfl T.yw (zc (av 2) zy (za rfl)) rfl) rfl (by change vz _ Ww _ (zF ZV).names _ = true; decide +kernel) (by decide) (λ cl s H fp => (an 0 zdZ)) (λ cl s H fp => xZ) (λ cl s H fp => (vN (N := ["_law_b", "_law_size", "_law_xs", "_law_a"]) (cap := [none, some 1, some 2, some 0]) (S := [0]) rfl (wK rfl T.yw (zc (av 1) zy (za rfl)) rfl) rfl (by with_unfolding_all rfl) (by decide) (λ cl s H fp => (an 0 zei)) (λ cl s H fp => xZ) (λ cl s H fp => (zg (zj .Mod) (ax hkd (av 2) (zg (zj .Add) (zg (zj .Mult) (av 1) (av 3)) (av 0))) (av 1))) (λ _ => rfl))) (λ _ => rfl))
  refine zf ?_ ?_; exact (by refine sv true 5 wB.nd ?_; exact (yd (ZJ T hkd) (hr.mono (by omega)) rfl T.yh T.vZ.kp T.ZC yK (zc (av 1) (zc aI zy (za rfl)) (za rfl)) (by decide) rfl rfl))
  refine zf ?_ ?_; exact (by refine sv true 6 wB.nd ?_; exact (yd (zaZ T hkd) (hr.mono (by omega)) rfl T.xJ T.Xx.kp T.zaK yK (zc (zg (zj .FloorDiv) (av 1) aI) (zc aI zy (za rfl)) (za rfl)) (by decide) rfl rfl))
  refine zf ?_ ?_; exact (by refine sv false 7 wB.nd ?_; exact (yP zV))
  refine zf ?_ ?_; exact (wD PassesOwn.never rfl (xr rfl T.yw (zc (zg (zj .Add) aI (zg (zj .Mod) (ax hkd (av 5) aI) aI)) zy (za rfl)) rfl) (an 8 wB.nd) (by
  refine zf ?_ ?_; exact (by refine sv true 9 wB.nd ?_; exact (ax hkd (av 5) (zg (zj .Add) aI (av 8))))
  refine zf ?_ ?_; exact (ZM (z := true) (i := 10) (N := ["_law_a", "_law_bits"]) (cap := [none, some 9]) (S := [0]) wB.nd rfl (by exact Or.inl rfl) (by exact Or.inr rfl) rfl rfl (wK rfl T.yw (zc (av 2) zy (za rfl)) rfl) rfl (by change vz _ Ww _ (zF ZV).names _ = true; decide +kernel) (by decide) (λ cl s H fp => (an 0 zdD)) (λ cl s H fp => (zby (yG (ym (hkd _ rfl rfl rfl) (yC hr) .Eq) (yr .Eq) (zg (zj .Mod) (zg (zj .FloorDiv) (av 1) (zg zhr aI (av 0))) aI) aI (yx _)))) (λ cl s H fp => (av 0)) (λ _ => rfl))
  exact zA (v6 (Zr wg Z1 PySem.F.slot_list_append PySem.F.type_list_append (pv 7) (by refine zu ?_ ?_ ?_; exact (Yv (zu (ax hkd (av 6) (av 8)) (zu (av 10) zV (za rfl)) (za rfl))); exact zV; exact za rfl) rfl rfl rfl rfl rfl) rfl)) (λ _ => rfl))
  exact zA (yq (Yv (by refine zu ?_ ?_ ?_; exact (av 2); refine zu ?_ ?_ ?_; exact aI; refine zu ?_ ?_ ?_; exact (av 4); refine zu ?_ ?_ ?_; exact (zg (zj .Mod) (zg (zj .FloorDiv) (ax hkd (av 5) aI) aI) (av 2)); refine zu ?_ ?_ ?_; exact (yP zV); refine zu ?_ ?_ ?_; exact (av 7); exact zV; exact za rfl; exact za rfl; exact za rfl; exact za rfl; exact za rfl; exact za rfl))))
theorem zgA (T : Txt K kd mg t) (hkd : KD1 P w K kd) : FnOk P w K mg base CX0 1 t.Vg t.Vj ["_law_algebra_here", "_law_row", "_law_values_here"] (spD K kd Z6) := by
 refine vU (N := Vc) (ps := ["_law_algebra_here", "_law_row", "_law_values_here"]) (k := 0) (c := zbK) T.zcG ye λ cdv A outer s H E hr => ?_
 exact (by
  refine zf ?_ ?_; exact (zgb (av 0) (zav rfl (yp (an 3 ye.nd) (yp (an 4 ye.nd) (yp (an 5 ye.nd) (yp (an 6 ye.nd) (yp (an 7 ye.nd) (yp (an 8 ye.nd) Wt rfl) rfl) rfl) rfl) rfl) rfl) rfl rfl) rfl rfl rfl)
  refine zf ?_ ?_; exact (vO (yG (ym (hkd _ rfl rfl rfl) (yC hr) .In) (yr .In) (av 6) (av 2) rfl) (zA (yq (yP zV))) xu)
  refine zf ?_ ?_; exact (by refine sv false 9 ye.nd ?_; exact zmR)
  refine zf ?_ ?_; exact (wD PassesOwn.never rfl (zea (av 1)) (an 10 ye.nd) (zA (zgn (zkt hr) (pv 9) (av 10) (yP (zu (av 10) zV (za rfl))) rfl)) (λ _ => rfl))
  refine zf ?_ ?_; exact (wD PassesOwn.never rfl (xr rfl T.yw (zc (av 3) zy (za rfl)) rfl) (an 11 ye.nd) (by
  refine zf ?_ ?_; exact (ZM (z := true) (i := 12) (N := ["_law_value", "_law_best_here", "_law_values_here"]) (cap := [none, some 9, some 2]) (S := [0]) ye.nd rfl (by exact Or.inl rfl) (by exact Or.inr rfl) rfl rfl (zhX (pv 9)) rfl (by change vz _ Vc _ (zF Z5).names _ = true; decide +kernel) (by decide) (λ cl s H fp => (an 0 zcQ)) (λ cl s H fp => (zby (yG (ym (hkd _ rfl rfl rfl) (yC hr) .In) (yr .In) (av 0) (av 2) rfl))) (λ cl s H fp => (ax hkd (av 1) (av 0))) (λ _ => rfl))
  refine zf ?_ ?_; exact (vO (yG (ym (hkd _ rfl rfl rfl) (yC hr) .NotEq) (yr .NotEq) (av 12) (yP zV) (yx _)) (zA (yq (zac (zgm rfl (yC hr)) rfl T.zmM Bt.min (zc (av 12) zy (za rfl)) (Bt.n _ rfl) (by decide) rfl rfl))) xu)
  refine zf ?_ ?_; exact (by refine sv false 13 ye.nd ?_; exact zmR)
  refine zf ?_ ?_; exact (wD PassesOwn.never rfl (zjD (pv 9)) (an 10 ye.nd) (zA (wD PassesOwn.never rfl (zea (av 1)) (an 14 ye.nd) (by
  refine zf ?_ ?_; exact (by refine sv true 15 ye.nd ?_; exact (zg (zj .Add) (ax hkd (av 9) (av 10)) (yP (zu (av 14) zV (za rfl)))))
  refine zf ?_ ?_; exact (by refine sv true 16 ye.nd ?_; exact (ax hkd (ax hkd (av 5) (av 10)) (av 14)))
  exact zA (zgn (zkt hr) (pv 13) (av 16) (zlf rfl (yC hr) rfl T.zmM (zc (zmt (hkd _ rfl rfl rfl) (av 13) (zc (av 16) (zc (av 15) zy (za rfl)) (za rfl)) rfl rfl rfl rfl rfl) (zc (av 15) zy (za rfl)) (za rfl)) rfl rfl) rfl)) (λ _ => rfl))) (λ _ => rfl))
  exact zA (by refine sv false 9 ye.nd ?_; exact (zpp (pv 13)))) (λ _ => rfl))
  exact zA (yq aZ))
theorem zeO (T : Txt K kd mg t) (hkd : KD1 P w K kd) : FnOk P w K mg base CX0 3 t.XF t.XM ["_law_algebra_here", "_law_row", "_law_name", "_law_values_here"] (spD K kd vI) := by
 refine vU (N := Wa) (ps := ["_law_algebra_here", "_law_row", "_law_name", "_law_values_here"]) (k := 2) (c := zba) T.zaO YZ λ cdv A outer s H E hr => ?_
 exact (by
  refine zf ?_ ?_; exact (by refine sv true 4 YZ.nd ?_; exact (yd (zgA T hkd) (hr.mono (by omega)) rfl T.Z6 T.zcG.kp T.zfY yK (by refine zc ?_ ?_ ?_; exact (av 0); refine zc ?_ ?_ ?_; exact (av 1); refine zc ?_ ?_ ?_; exact (av 3); exact zy; exact za rfl; exact za rfl; exact za rfl) (by decide) rfl rfl))
  refine zf ?_ ?_; exact (by refine sv false 5 YZ.nd ?_; exact (ziM (ziv T.nl) (zbh T hkd) (hr.mono (by omega)) rfl T.yR T.Wb.kp T.zbe yK (by refine zc ?_ ?_ ?_; exact (av 0); refine zc ?_ ?_ ?_; exact (av 1); refine zc ?_ ?_ ?_; exact (av 2); exact zy; exact za rfl; exact za rfl; exact za rfl) (by decide) rfl rfl))
  refine zf ?_ ?_; exact (vO (AW.at_ (zjw (yG (ym (hkd _ rfl rfl rfl) (yC hr) .Is) (yr .Is) (av 4) aZ (yx _)) (zcV (yG (ym (hkd _ rfl rfl rfl) (yC hr) .Is) (yr .Is) (av 5) aZ (yx _))))) (zA (yq (zgu (Ys (ym (hkd _ rfl rfl rfl) (yC hr) .Is) (av 4) aZ (yx _)) (zgl (Ys (ym (hkd _ rfl rfl rfl) (yC hr) .Is) (av 5) aZ (yx _)))))) xu)
  refine zf ?_ ?_; exact (vO (AW.at_ (zjw (zfJ (zgH (zgG (hkd _ rfl rfl rfl) rfl rfl T.Y4 Bt.isinstance rfl T.Wj Bt.list (av 5) (Bt.n _ rfl) (by decide) (Bt.n _ rfl) (by decide) rfl rfl rfl) (λ _ => rfl))) (zjw (yG (ym (hkd _ rfl rfl rfl) (yC hr) .NotEq) (yr .NotEq) (av 5) (av 4) (yx _)) (zcV (yG (ym (hkd _ rfl rfl rfl) (yC hr) .NotEq) (yr .NotEq) (vN (N := ["_law_value"]) (cap := [none]) (S := [0]) rfl (Y6 (av 5)) rfl (by change vz _ Wa _ (zF Zh).names _ = true; decide +kernel) (by decide) (λ cl s H fp => (an 0 zcm)) (λ cl s H fp => (zby (zfJ (zgH (yd (zeE T hkd) (hr.mono (by omega)) rfl T.vH T.zbc.kp T.zeH yK (zc (av 0) zy (za rfl)) (by decide) rfl rfl) (λ _ => rfl))))) (λ cl s H fp => (av 0)) (λ _ => rfl)) (yP zV) (yx _)))))) (zA (yq aB)) xu)
  refine zf ?_ ?_; exact (v6 (Zr wg Z1 PySem.F.slot_list_append PySem.F.type_list_append (pv 5) (zu aI zV (za rfl)) rfl rfl rfl rfl rfl) rfl)
  exact zA (yq (Ys (ym (hkd _ rfl rfl rfl) (yC hr) .Eq) (yd (zbh T hkd) (hr.mono (by omega)) rfl T.yR T.Wb.kp T.zbe yK (by refine zc ?_ ?_ ?_; exact (av 0); refine zc ?_ ?_ ?_; exact (av 1); refine zc ?_ ?_ ?_; exact (av 2); exact zy; exact za rfl; exact za rfl; exact za rfl) (by decide) rfl rfl) (av 4) (yx _))))
theorem o_law (T : Txt K kd mg t) (hkd : KD1 P w K kd) : FnOk P w K mg base CX0 4 t.zkH t.zjA ["_law_script"] (spD K kd zbN) := by
 refine vU (N := zmP) (ps := ["_law_script"]) (k := 3) (c := zmY) T.zqm Y8 λ cdv A outer s H E hr => ?_
 exact (by
  refine zf ?_ ?_; exact (by refine sv true 1 Y8.nd ?_; exact (yd (xN T hkd) (hr.mono (by omega)) rfl T.zB T.yU.kp T.xR yK (zc (av 0) (zc aI zy (za rfl)) (za rfl)) (by decide) rfl rfl))
  refine zf ?_ ?_; exact (vO (yG (ym (hkd _ rfl rfl rfl) (yC hr) .Eq) (yr .Eq) (zg (zj .Mod) (yd (xN T hkd) (hr.mono (by omega)) rfl T.zB T.yU.kp T.xR yK (zc (av 0) (zc aI zy (za rfl)) (za rfl)) (by decide) rfl rfl) aI) aI (yx _)) (zA (by refine sv true 2 Y8.nd ?_; exact (yd (zif T hkd) (hr.mono (by omega)) rfl T.ZR T.zdf.kp T.ziw yK (by refine zc ?_ ?_ ?_; exact (yd (xN T hkd) (hr.mono (by omega)) rfl T.zB T.yU.kp T.xR yK (zc (av 0) (zc aI zy (za rfl)) (za rfl)) (by decide) rfl rfl); refine zc ?_ ?_ ?_; exact (av 1); refine zc ?_ ?_ ?_; exact (zg (zj .Add) aI (zg (zj .Mod) (zg (zj .FloorDiv) (yd (xN T hkd) (hr.mono (by omega)) rfl T.zB T.yU.kp T.xR yK (zc (av 0) (zc aI zy (za rfl)) (za rfl)) (by decide) rfl rfl) aI) aI)); exact zy; exact za rfl; exact za rfl; exact za rfl) (by decide) rfl rfl))) (zA (by refine sv true 2 Y8.nd ?_; exact (yd (zcM T hkd) (hr.mono (by omega)) rfl T.wM T.WY.kp T.zcK yK (by refine zc ?_ ?_ ?_; exact (yd (xN T hkd) (hr.mono (by omega)) rfl T.zB T.yU.kp T.xR yK (zc (av 0) (zc aI zy (za rfl)) (za rfl)) (by decide) rfl rfl); refine zc ?_ ?_ ?_; exact (av 1); refine zc ?_ ?_ ?_; exact aI; exact zy; exact za rfl; exact za rfl; exact za rfl) (by decide) rfl rfl))))
  refine zf ?_ ?_; exact (by refine sv true 3 Y8.nd ?_; exact (yd (zeu T hkd) (hr.mono (by omega)) rfl T.w6 T.zab.kp T.zdC yK (by refine zc ?_ ?_ ?_; exact (av 0); refine zc ?_ ?_ ?_; exact aI; refine zc ?_ ?_ ?_; exact aI; refine zc ?_ ?_ ?_; exact (ax hkd (av 2) aI); refine zc ?_ ?_ ?_; exact (zg (zj .FloorDiv) (yd (xN T hkd) (hr.mono (by omega)) rfl T.zB T.yU.kp T.xR yK (zc (av 0) (zc aI zy (za rfl)) (za rfl)) (by decide) rfl rfl) aI); exact zy; exact za rfl; exact za rfl; exact za rfl; exact za rfl; exact za rfl) (by decide) rfl rfl))
  refine zf ?_ ?_; exact (by refine sv true 4 Y8.nd ?_; exact (yd (zgz T hkd) (hr.mono (by omega)) rfl T.ZZ T.zcr.kp T.zfU yK (zc (av 2) zy (za rfl)) (by decide) rfl rfl))
  refine zf ?_ ?_; exact (by refine sv true 5 Y8.nd ?_; exact (v9 ZS rfl T.Wj Bt.list (zc (av 3) zy (za rfl)) (Bt.n _ rfl) (by decide) rfl rfl))
  refine zf ?_ ?_; exact (wD PassesOwn.never rfl (zea (ax hkd (av 2) aI)) (zav rfl (yp (an 6 Y8.nd) (yp (an 7 Y8.nd) Wt rfl) rfl) rfl rfl) (zA (vO (zfJ (zgH (yd (zeO T hkd) (hr.mono (by omega)) rfl T.vI T.zaO.kp T.zeJ yK (by refine zc ?_ ?_ ?_; exact (av 4); refine zc ?_ ?_ ?_; exact (av 5); refine zc ?_ ?_ ?_; exact (av 6); refine zc ?_ ?_ ?_; exact (av 7); exact zy; exact za rfl; exact za rfl; exact za rfl; exact za rfl) (by decide) rfl rfl) (λ _ => rfl))) (zA (yq aB)) xu)) (λ _ => rfl))
  exact zA (yq (zgu (Ys (ym (hkd _ rfl rfl rfl) (yC hr) .Eq) (av 4) (av 2) (yx _)) (zgl (Ys (ym (hkd _ rfl rfl rfl) (yC hr) .Eq) (av 5) (av 3) (yx _))))))
end
abbrev NsR (K : zC) (x : Str) (f : Addr) : Prop := PySem.W.nsIn K mainGlobals x = some (some (.ref f))
abbrev FnAt (K : zC) (x q : Str) (s : Stmt) (f : Addr) : Prop := ∃ d, Fun K x q s f d
theorem zoM {l : PySem.W.OpenLaw} {w : World} {K : zC} {h : Heap} {mg : Str -> Option Value} {fa : Addr} (X : K.In h) (G : h.Ns mainGlobals mg) (hfa : mg "law" = some (.ref fa))
 {f0 f1 f2 f3 f4 f5 f6 f7 f8 f9 f10 f11 f12 f13 f14 f15 f16 f17 f18 : Addr}
 (a0 : NsR K "least_rows" f0) (l0 : FnAt K "least_rows" "least_rows" v7 f0)
 (a1 : NsR K "least_row" f1) (l1 : FnAt K "least_row" "least_row" Yd f1)
 (a2 : NsR K "_law_cell_at" f2) (l2 : FnAt K "_law_cell_at" "_law_cell_at" Zb f2)
 (a3 : NsR K "_law_mixed" f3) (l3 : FnAt K "_law_mixed" "_law_mixed" Z9 f3)
 (a4 : NsR K "_law_whole" f4) (l4 : FnAt K "_law_whole" "_law_whole" Yc f4)
 (a5 : NsR K "_law_words" f5) (l5 : FnAt K "_law_words" "_law_words" Zi f5)
 (a6 : NsR K "_law_common" f6) (l6 : FnAt K "_law_common" "_law_common" Zx f6)
 (a7 : NsR K "_law_joined_by" f7) (l7 : FnAt K "_law_joined_by" "_law_joined_by" vB f7)
 (a8 : NsR K "_law_images" f8) (l8 : FnAt K "_law_images" "_law_images" vV f8)
 (a9 : NsR K "_law_done_by" f9) (l9 : FnAt K "_law_done_by" "_law_done_by" wJ f9)
 (a10 : NsR K "_law_kinds" f10) (l10 : FnAt K "_law_kinds" "_law_kinds" Yb f10)
 (a11 : NsR K "_law_stream" f11) (l11 : FnAt K "_law_stream" "_law_stream" ZF f11)
 (a12 : NsR K "_law_algebra" f12) (l12 : FnAt K "_law_algebra" "_law_algebra" xO f12)
 (a13 : NsR K "_law_copy" f13) (l13 : FnAt K "_law_copy" "_law_copy" vD f13)
 (a14 : NsR K "_law_values" f14) (l14 : FnAt K "_law_values" "_law_values" ZK f14)
 (a15 : NsR K "_law_any" f15) (l15 : FnAt K "_law_any" "_law_any" ZV f15)
 (a16 : NsR K "_law_best" f16) (l16 : FnAt K "_law_best" "_law_best" Z5 f16)
 (a17 : NsR K "_law_right" f17) (l17 : FnAt K "_law_right" "_law_right" Zh f17)
 (a18 : NsR K "law" f18) (l18 : FnAt K "law" "law" zgO f18)
 (z0 : PySem.W.nsIn K mainGlobals "bool" = some none) (z1 : PySem.W.nsIn K mainGlobals "dict" = some none) (z2 : PySem.W.nsIn K mainGlobals "int" = some none) (z3 : PySem.W.nsIn K mainGlobals "isinstance" = some none) (z4 : PySem.W.nsIn K mainGlobals "len" = some none) (z5 : PySem.W.nsIn K mainGlobals "list" = some none) (z6 : PySem.W.nsIn K mainGlobals "max" = some none) (z7 : PySem.W.nsIn K mainGlobals "min" = some none) (z8 : PySem.W.nsIn K mainGlobals "range" = some none) (z9 : PySem.W.nsIn K mainGlobals "set" = some none) (z10 : PySem.W.nsIn K mainGlobals "sorted" = some none) (nl : zep K = true) :
 ∃ fd : FuncData, (∀ (s : Shared) (v : Value), BindsTo s fd ⟨[v], []⟩ [("_law_script", v)]) /\ ∀ base : Heap, K.In base -> base.Ns mainGlobals mg -> FnOk l.prog w K mg base CX0 4 fa fd ["_law_script"] (spL K zbN) := by
 have e := hfa.symm.trans (PySem.W.mg_of X G a18)
 cases e
 obtain ⟨_, F0⟩ := l0
 have b0 := F0.binds (ps := ["algebra", "values"]) λ _ _ _ _ _ _ => l2_ λ _ _ => rfl
 obtain ⟨_, F1⟩ := l1
 have b1 := F1.binds (ps := ["algebra", "row", "name"]) λ _ _ _ _ _ _ => l3_ λ _ _ _ => rfl
 obtain ⟨_, F2⟩ := l2
 have b2 := F2.binds (ps := ["_law_script", "_law_k"]) λ _ _ _ _ _ _ => l2_ λ _ _ => rfl
 obtain ⟨_, F3⟩ := l3
 have b3 := F3.binds (ps := ["_law_cell", "_law_k"]) λ _ _ _ _ _ _ => l2_ λ _ _ => rfl
 obtain ⟨_, F4⟩ := l4
 have b4 := F4.binds (ps := ["_law_found"]) λ _ _ _ _ _ _ => l1_ λ _ => rfl
 obtain ⟨_, F5⟩ := l5
 have b5 := F5.binds (ps := ["_law_cell", "_law_many"]) λ _ _ _ _ _ _ => l2_ λ _ _ => rfl
 obtain ⟨_, F6⟩ := l6
 have b6 := F6.binds (ps := ["_law_n", "_law_m"]) λ _ _ _ _ _ _ => l2_ λ _ _ => rfl
 obtain ⟨_, F7⟩ := l7
 have b7 := F7.binds (ps := ["_law_kind", "_law_n", "_law_a", "_law_b"]) λ _ _ _ _ _ _ => l4_ λ _ _ _ _ => rfl
 obtain ⟨_, F8⟩ := l8
 have b8 := F8.binds (ps := ["_law_kind", "_law_n", "_law_x"]) λ _ _ _ _ _ _ => l3_ λ _ _ _ => rfl
 obtain ⟨_, F9⟩ := l9
 have b9 := F9.binds (ps := ["_law_kind", "_law_n", "_law_m", "_law_x"]) λ _ _ _ _ _ _ => l4_ λ _ _ _ _ => rfl
 obtain ⟨_, F10⟩ := l10
 have b10 := F10.binds (ps := ["_law_x"]) λ _ _ _ _ _ _ => l1_ λ _ => rfl
 obtain ⟨_, F11⟩ := l11
 have b11 := F11.binds (ps := ["_law_cell", "_law_many"]) λ _ _ _ _ _ _ => l2_ λ _ _ => rfl
 obtain ⟨_, F12⟩ := l12
 have b12 := F12.binds (ps := ["_law_cell", "_law_head", "_law_many"]) λ _ _ _ _ _ _ => l3_ λ _ _ _ => rfl
 obtain ⟨_, F13⟩ := l13
 have b13 := F13.binds (ps := ["_law_algebra_here"]) λ _ _ _ _ _ _ => l1_ λ _ => rfl
 obtain ⟨_, F14⟩ := l14
 have b14 := F14.binds (ps := ["_law_script", "_law_start", "_law_most", "_law_size", "_law_number"]) λ _ _ _ _ _ _ => l5_ λ _ _ _ _ _ => rfl
 obtain ⟨_, F15⟩ := l15
 have b15 := F15.binds (ps := ["_law_cell", "_law_head", "_law_size"]) λ _ _ _ _ _ _ => l3_ λ _ _ _ => rfl
 obtain ⟨_, F16⟩ := l16
 have b16 := F16.binds (ps := ["_law_algebra_here", "_law_row", "_law_values_here"]) λ _ _ _ _ _ _ => l3_ λ _ _ _ => rfl
 obtain ⟨_, F17⟩ := l17
 have b17 := F17.binds (ps := ["_law_algebra_here", "_law_row", "_law_name", "_law_values_here"]) λ _ _ _ _ _ _ => l4_ λ _ _ _ _ => rfl
 obtain ⟨_, F18⟩ := l18
 obtain ⟨_, _, _, _, _, _, _, _, _, rfl, _, _⟩ := F18.ex
 have b18 := F18.binds (ps := ["_law_script"]) λ _ _ _ _ _ _ => l1_ λ _ => rfl
 let KL : List (Addr × List (Key × V)) := []
 have hkd : KD1 l.prog w K (kdL KL) := znV λ p m => by
  exact absurd (show p ∈ ([] : List (Addr × List (Key × V))) from m) zyZ
 have T : Txt K (kdL KL) mg ⟨_, _, _, _, _, _, _, _, _, _, _, _, _, _, _, _, _, _, _, _, _, _, _, _, _, _, _, _, _, _, _, _, _, _, _, _, _, _⟩ := ⟨F0, b0, PySem.W.mg_of X G a0, F1, b1, PySem.W.mg_of X G a1, F2, b2, PySem.W.mg_of X G a2, F3, b3, PySem.W.mg_of X G a3, F4, b4, PySem.W.mg_of X G a4, F5, b5, PySem.W.mg_of X G a5, F6, b6, PySem.W.mg_of X G a6, F7, b7, PySem.W.mg_of X G a7, F8, b8, PySem.W.mg_of X G a8, F9, b9, PySem.W.mg_of X G a9, F10, b10, PySem.W.mg_of X G a10, F11, b11, PySem.W.mg_of X G a11, F12, b12, PySem.W.mg_of X G a12, F13, b13, PySem.W.mg_of X G a13, F14, b14, PySem.W.mg_of X G a14, F15, b15, PySem.W.mg_of X G a15, F16, b16, PySem.W.mg_of X G a16, F17, b17, PySem.W.mg_of X G a17, F18, b18, PySem.W.mg_of X G a18, PySem.W.mg_none_of X G z0, PySem.W.mg_none_of X G z1, PySem.W.mg_none_of X G z2, PySem.W.mg_none_of X G z3, PySem.W.mg_none_of X G z4, PySem.W.mg_none_of X G z5, PySem.W.mg_none_of X G z6, PySem.W.mg_none_of X G z7, PySem.W.mg_none_of X G z8, PySem.W.mg_none_of X G z9, PySem.W.mg_none_of X G z10, nl⟩
 exact ⟨_, λ s v => .of_eq rfl, λ base _ _ => (o_law T hkd).imp λ vs H Q E h => h _⟩
theorem walk {l : PySem.W.OpenLaw} {q : Program} {loose : List Str} {XP : (Str -> Option Value) -> Heap -> Prop} {YP : World -> Heap -> Prop} {d : DefRec} {K : Params -> zC} (hn : l.most = some 63) (hdf : d.params.defaults = [])
 (hY : ∀ (w : World) (h : Heap), YP w h -> (K w.params).In h) (hm : ∀ ns : List Int, ns.length <= 63 -> zbN [(true, .lst (ns.map D.int))] = some (.lf true (.bl true)))
 (F : ∀ (w : World) (mg : Str -> Option Value) (fa : Addr) (h : Heap), (K w.params).In h -> h.Ns mainGlobals mg -> mg d.name = some (.ref fa) ->
  ∃ fd : FuncData, (∀ (s : Shared) (u : Value), BindsTo s fd ⟨[u], []⟩ [("_law_script", u)]) /\ ∀ base : Heap, (K w.params).In base -> base.Ns mainGlobals mg -> FnOk l.prog w (K w.params) mg base CX0 4 fa fd ["_law_script"] (spL (K w.params) zbN)) :
 PySem.W.WalkO q loose XP YP l.row.toRowW d [] (λ f vs => PySem.call f vs) :=
 L2.walk_of (n := 63) (k := 4) (x := "_law_script") (CX := λ _ => CX0) (sp := λ w => spL (K w.params) zbN) hn (by decide) hdf ⟨rfl, by decide, by decide, rfl⟩ hY F (λ _ _ a ns hl _ hS kd => znU (hm ns hl) hS) λ _ _ _ _ _ z => z
theorem zfy : ∀ a : List Int, ltI a a = false
 | [] => rfl
 | x :: r => by show (decide (x < x) || (x == x && ltI r r)) = false; rw [zfy r]; simp
theorem zng : ∀ {a b c : List Int}, ltI a b = true -> ltI b c = true -> ltI a c = true
 | a, [], _, h, _ => by cases a <;> cases h
 | _, _ :: _, [], _, h => by cases h
 | [], _ :: _, _ :: _, _, _ => rfl
 | x :: a, y :: b, z :: c, h, k => by
  have h' : (decide (x < y) || (x == y && ltI a b)) = true := h
  have k' : (decide (y < z) || (y == z && ltI b c)) = true := k
  show (decide (x < z) || (x == z && ltI a c)) = true
  simp only [Bool.or_eq_true, zzZ, decide_eq_true_eq, beq_iff_eq] at h' k' ⊢
  rcases h' with h' | ⟨rfl, h'⟩
  · rcases k' with k' | ⟨rfl, k'⟩
    · left; omega
    · left; exact h'
  · rcases k' with k' | ⟨rfl, k'⟩
    · left; exact k'
    · right; exact ⟨rfl, zng h' k'⟩
def sl (a b : List Int) : Prop := a.length < b.length \/ (a.length = b.length /\ ltI a b = true)
theorem zkG {a : List Int} (h : sl a a) : False := by
 rcases h with h | ⟨_, h⟩
 · omega
 · rw [zfy] at h; cases h
theorem zeA {a b c : List Int} (h : sl a b) (k : sl b c) : sl a c := by
 rcases h with h | ⟨e, h⟩
 · rcases k with k | ⟨e', k⟩
   · left; omega
   · left; omega
 · rcases k with k | ⟨e', k⟩
   · left; omega
   · right; exact ⟨e.trans e', zng h k⟩
abbrev sle (a b : List Int) : Prop := a = b \/ sl a b
theorem W9 {a b c : List Int} (h : sle a b) (k : sle b c) : sle a c := by
 rcases h with rfl | h
 · exact k
 · rcases k with rfl | k
   · exact .inr h
   · exact .inr (zeA h k)
theorem zoo {a b : List Int} (h : sle a b) (k : sl b a) : False := by
 rcases h with rfl | h
 · exact zkG k
 · exact zkG (zeA h k)
theorem zkE : ∀ {a b x y : List Int}, a.length = b.length -> ltI a b = true -> ltI (a ++ x) (b ++ y) = true
 | [], [], _, _, _, h => by cases h
 | [], _ :: _, _, _, e, _ => by simp at e
 | _ :: _, [], _, _, e, _ => by simp at e
 | p :: a, q :: b, x, y, e, h => by
  have h' : (decide (p < q) || (p == q && ltI a b)) = true := h
  show (decide (p < q) || (p == q && ltI (a ++ x) (b ++ y))) = true
  simp only [Bool.or_eq_true, zzZ, decide_eq_true_eq, beq_iff_eq] at h' ⊢
  rcases h' with h' | ⟨h1, h'⟩
  · exact .inl h'
  · exact .inr ⟨h1, zkE (by simpa using e) h'⟩
theorem zhk : ∀ {a : List Int} {x y : Int}, x < y -> ltI (a ++ [x]) (a ++ [y]) = true
 | [], x, y, h => by show (decide (x < y) || _) = true; rw [zyL h]; rfl
 | p :: a, x, y, h => by show (decide (p < p) || (p == p && ltI (a ++ [x]) (a ++ [y]))) = true; rw [zhk h]; simp
theorem zdF {a b : List Int} {x y : Int} (h : sl a b) : sl (a ++ [x]) (b ++ [y]) := by
 rcases h with h | ⟨e, h⟩
 · left; simp only [zzG, List.length_singleton]; omega
 · right; exact ⟨by simp only [zzG, List.length_singleton]; omega, zkE e h⟩
theorem zhh {a b : List Int} {x : Int} (h : sle a b) : sle (a ++ [x]) (b ++ [x]) := by
 rcases h with rfl | h
 · exact .inl rfl
 · exact .inr (zdF h)
theorem zdW {a : List Int} {x y : Int} (h : x < y) : sl (a ++ [x]) (a ++ [y]) := .inr ⟨by simp, zhk h⟩
section
variable {f : Int -> Int -> Int} {vs : List Int}
def wh (f : Int -> Int -> Int) : List Int -> Int
 | [] => 0
 | x :: r => r.foldl f x
theorem zcs {u : List Int} {c : Int} (h : u ≠ []) : wh f (u ++ [c]) = f (wh f u) c := by
 cases u with
 | nil => exact absurd rfl h
 | cons x r => show (r ++ [c]).foldl f x = f (r.foldl f x) c; rw [List.foldl_append]; rfl
structure Bs (f : Int -> Int -> Int) (vs K : List Int) (R : List (List Int)) (a : Nat) (dn : List Int) : Prop where
 len : K.length = R.length
 nd : K.Nodup
 row : ∀ (i : Nat) (k : Int) (r : List Int), K[i]? = some k -> R[i]? = some r -> r ≠ [] /\ (∀ x ∈ r, x ∈ vs) /\ wh f r = k
 one : ∀ v ∈ vs, ∃ j : Nat, K[j]? = some v /\ R[j]? = some [v]
 asc : R.Pairwise sl
 up : ∀ r ∈ R, ∀ ra : List Int, R[a]? = some ra -> (∃ w ∈ dn, sle r (ra ++ [w])) \/ ∀ w ∈ vs, sl r (ra ++ [w])
 bef : ∀ (i : Nat) (k : Int) (r : List Int), i < a -> K[i]? = some k -> R[i]? = some r -> ∀ c ∈ vs, ∃ (j : Nat) (k' : Int) (r' : List Int), K[j]? = some k' /\ R[j]? = some r' /\ k' = f k c /\ sle r' (r ++ [c])
 now : ∀ (k : Int) (r : List Int), K[a]? = some k -> R[a]? = some r -> ∀ c ∈ dn, ∃ (j : Nat) (k' : Int) (r' : List Int), K[j]? = some k' /\ R[j]? = some r' /\ k' = f k c /\ sle r' (r ++ [c])
theorem zfj : ∀ {vs : List Int}, vs.Pairwise (· < ·) -> (vs.map λ v => [v]).Pairwise sl
 | [], _ => List.Pairwise.nil
 | v :: r, h => by
  rw [List.pairwise_cons] at h
  refine List.pairwise_cons.mpr ⟨λ w mw => ?_, zfj h.2⟩
  obtain ⟨x, mx, rfl⟩ := zxB.mp mw
  exact zdW (a := []) (h.1 x mx)
theorem Bs.start (h : vs.Pairwise (· < ·)) : Bs f vs vs (vs.map λ v => [v]) 0 [] := by
 refine ⟨by rw [zD], h.imp λ q => Int.ne_of_lt q, λ i k r hk hr => ?_, λ v mv => ?_, zfj h, λ r mr ra e => .inr λ v mv => ?_, λ i k r hi => absurd hi (Nat.not_lt_zero _), λ k r _ _ c mc => nomatch mc⟩
 · rw [zzF, hk] at hr
   cases hr
   exact ⟨by simp, λ x mx => by rw [zzO.mp mx]; exact zzX hk, rfl⟩
 · obtain ⟨j, hj⟩ := zyS mv
   exact ⟨j, hj, by rw [zzF, hj]; rfl⟩
 · obtain ⟨x, _, rfl⟩ := zxB.mp mr
   have : ∃ y, ra = [y] := by
    cases hy : vs[0]? with
    | none => rw [zzF, hy] at e; cases e
    | some y => rw [zzF, hy] at e; cases e; exact ⟨y, rfl⟩
   obtain ⟨y, rfl⟩ := this
   left; simp
theorem Bs.below {K : List Int} {R : List (List Int)} {a : Nat} {dn rest : List Int} {v : Int} {ra : List Int} (h : Bs f vs K R a dn) (hs : vs.Pairwise (· < ·)) (hvs : vs = dn ++ v :: rest) (hr : R[a]? = some ra) : ∀ r ∈ R, sl r (ra ++ [v]) := λ r mr => by
 rcases h.up r mr ra hr with ⟨w, mw, hw⟩ | hw
 · have : w < v := by rw [hvs, List.pairwise_append] at hs; exact hs.2.2 w mw v zzC
   rcases hw with rfl | hw
   · exact zdW this
   · exact zeA hw (zdW this)
 · exact hw v (by rw [hvs]; exact zzI _ zzC)
theorem Bs.skip {K : List Int} {R : List (List Int)} {a : Nat} {dn rest : List Int} {k v : Int} {ra : List Int} (h : Bs f vs K R a dn) (hs : vs.Pairwise (· < ·)) (hvs : vs = dn ++ v :: rest) (hk : K[a]? = some k) (hr : R[a]? = some ra) (hin : f k v ∈ K) : Bs f vs K R a (dn ++ [v]) := by
 refine ⟨h.len, h.nd, h.row, h.one, h.asc, λ r mr ra' e => (h.up r mr ra' e).imp (λ ⟨w, mw, q⟩ => ⟨w, zzM _ mw, q⟩) id, h.bef, λ k' r' hk' hr' c mc => ?_⟩
 rcases zzJ.mp mc with mc | mc
 · exact h.now k' r' hk' hr' c mc
 · rw [zzO.mp mc]
   rw [hk] at hk'
   rw [hr] at hr'
   cases hk'
   cases hr'
   obtain ⟨j, hj⟩ := zyS hin
   have hjl : j < R.length := by rw [<- h.len]; exact (zzD.mp hj).1
   exact ⟨j, _, _, hj, zzB hjl, rfl, .inr (h.below hs hvs hr _ (zyX hjl))⟩
theorem Bs.put {K : List Int} {R : List (List Int)} {a : Nat} {dn rest : List Int} {k v : Int} {ra : List Int} (h : Bs f vs K R a dn) (hs : vs.Pairwise (· < ·)) (hvs : vs = dn ++ v :: rest) (hk : K[a]? = some k) (hr : R[a]? = some ra) (hin : f k v ∉ K) : Bs f vs (K ++ [f k v]) (R ++ [ra ++ [v]]) a (dn ++ [v]) := by
 have hv : v ∈ vs := by rw [hvs]; exact zzI _ zzC
 have hd : v ∉ dn := λ z => by
  rw [hvs, List.pairwise_append] at hs
  exact Int.lt_irrefl _ (hs.2.2 v z v zzC)
 have ha : a < K.length := (zzD.mp hk).1
 have ha' : a < R.length := (zzD.mp hr).1
 have up1 : ∀ i x, K[i]? = some x -> (K ++ [f k v])[i]? = some x := λ i x e => by rw [zyM (zzD.mp e).1]; exact e
 have up2 : ∀ i x, R[i]? = some x -> (R ++ [ra ++ [v]])[i]? = some x := λ i x e => by rw [zyM (zzD.mp e).1]; exact e
 have dn1 : ∀ i x, i < K.length -> (K ++ [f k v])[i]? = some x -> K[i]? = some x := λ i x hi e => by rw [zyM hi] at e; exact e
 have dn2 : ∀ i x, i < R.length -> (R ++ [ra ++ [v]])[i]? = some x -> R[i]? = some x := λ i x hi e => by rw [zyM hi] at e; exact e
 have hra := h.row a k ra hk hr
 refine ⟨by rw [zzG, zzG, h.len]; rfl, zxC.mpr ⟨h.nd, by simp, λ x mx y my e => by rw [zzO.mp my] at e; subst e; exact hin mx⟩, λ i k' r' hk' hr' => ?_, λ w mw => ?_, List.pairwise_append.mpr ⟨h.asc, List.pairwise_singleton _ _, λ r mr y my => ?_⟩, λ r mr ra' e => ?_, λ i k' r' hi hk' hr' c mc => ?_, λ k' r' hk' hr' c mc => ?_⟩
 · by_cases hi : i < K.length
   · exact h.row i k' r' (dn1 i k' hi hk') (dn2 i r' (by rw [<- h.len]; exact hi) hr')
   · have e1 : i = K.length := by have := (zzD.mp hk').1; rw [zzG] at this; simp at this; omega
     subst e1
     rw [zyO (zzK _), Nat.sub_self] at hk'
     rw [h.len, zyO (zzK _), Nat.sub_self] at hr'
     cases hk'
     cases hr'
     refine ⟨by simp, λ x mx => ?_, ?_⟩
     · rcases zzJ.mp mx with mx | mx
       · exact hra.2.1 x mx
       · rw [zzO.mp mx]; exact hv
     · rw [zcs hra.1, hra.2.2]
 · obtain ⟨j, h1, h2⟩ := h.one w mw
   exact ⟨j, up1 j _ h1, up2 j _ h2⟩
 · rw [zzO.mp my]
   exact h.below hs hvs hr r mr
 · have e' := dn2 a ra' ha' e
   rw [hr] at e'
   cases e'
   rcases zzJ.mp mr with mr | mr
   · exact (h.up r mr ra hr).imp (λ ⟨w, mw, q⟩ => ⟨w, zzM _ mw, q⟩) id
   · rw [zzO.mp mr]
     exact .inl ⟨v, zzI _ (zzO.mpr rfl), .inl rfl⟩
 · have hiK : i < K.length := by omega
   obtain ⟨j, k2, r2, q1, q2, q3, q4⟩ := h.bef i k' r' hi (dn1 i k' hiK hk') (dn2 i r' (by rw [<- h.len]; exact hiK) hr') c mc
   exact ⟨j, k2, r2, up1 j _ q1, up2 j _ q2, q3, q4⟩
 · have hk2 := dn1 a k' ha hk'
   have hr2 := dn2 a r' ha' hr'
   rcases zzJ.mp mc with mc | mc
   · obtain ⟨j, k2, r2, q1, q2, q3, q4⟩ := h.now k' r' hk2 hr2 c mc
     exact ⟨j, k2, r2, up1 j _ q1, up2 j _ q2, q3, q4⟩
   · rw [zzO.mp mc]
     rw [hk] at hk2
     rw [hr] at hr2
     cases hk2
     cases hr2
     exact ⟨K.length, _, _, by rw [zyO (zzK _), Nat.sub_self]; rfl, by rw [h.len, zyO (zzK _), Nat.sub_self]; rfl, rfl, .inl rfl⟩
theorem Bs.next {K : List Int} {R : List (List Int)} {a : Nat} (h : Bs f vs K R a vs) (ha : a < K.length) : Bs f vs K R (a + 1) [] := by
 have ha' : a < R.length := by rw [<- h.len]; exact ha
 have hk := zzB ha
 have hr := zzB ha'
 refine ⟨h.len, h.nd, h.row, h.one, h.asc, λ r mr rb e => .inr λ v mv => ?_, λ i k r hi hk' hr' c mc => ?_, λ k r _ _ c mc => nomatch mc⟩
 · -- every row stands below the next one's rows
   have hb : a + 1 < R.length := (zzD.mp e).1
   have hab : sl R[a] rb := by
    have := List.pairwise_iff_getElem.mp h.asc a (a + 1) ha' hb (Nat.lt_succ_self _)
    rw [zzB hb] at e
    cases e
    exact this
   rcases h.up r mr _ hr with ⟨w, _, q⟩ | q
   · rcases q with rfl | q
     · exact zdF hab
     · exact zeA q (zdF hab)
   · exact zeA (q v mv) (zdF hab)
 · by_cases q : i < a
   · exact h.bef i k r q hk' hr' c mc
   · have : i = a := by omega
     subst this
     exact h.now k r hk' hr' c mc
theorem Bs.least {K : List Int} {R : List (List Int)} {dn : List Int} (h : Bs f vs K R K.length dn) : ∀ (t : Nat) (w : List Int), w.length = t + 1 -> (∀ x ∈ w, x ∈ vs) -> ∃ (j : Nat) (r : List Int), K[j]? = some (wh f w) /\ R[j]? = some r /\ sle r w
 | 0, w, hl, hw => by
  obtain ⟨v, rfl⟩ : ∃ v, w = [v] := by
   match w, hl with
   | [v], _ => exact ⟨v, rfl⟩
  obtain ⟨j, h1, h2⟩ := h.one v (hw v zzC)
  exact ⟨j, [v], h1, h2, .inl rfl⟩
 | t + 1, w, hl, hw => by
  have hne : w ≠ [] := λ z => by rw [z] at hl; cases hl
  have hd := List.dropLast_concat_getLast hne
  have hu : w.dropLast.length = t + 1 := by rw [List.length_dropLast]; omega
  have hu0 : w.dropLast ≠ [] := λ z => by rw [z] at hu; cases hu
  obtain ⟨i, r, h1, h2, h3⟩ := h.least t w.dropLast hu λ x mx => hw x (List.dropLast_subset w mx)
  have hi : i < K.length := (zzD.mp h1).1
  obtain ⟨j, k', r', q1, q2, q3, q4⟩ := h.bef i _ r hi h1 h2 (w.getLast hne) (hw _ (List.getLast_mem hne))
  refine ⟨j, r', ?_, q2, ?_⟩
  · rw [q1, q3, <- zcs (f := f) (c := w.getLast hne) hu0, hd]
  · have := zhh (x := w.getLast hne) h3
    rw [hd] at this
    exact W9 q4 this
end
open L2 (zW)
local macro_rules | `(tactic| trivial) => `(tactic| first | with_reducible first | assumption | exact Int.natCast_nonneg _ | exact Nat.le_refl _ | exact Int.le_refl _ | exact rfl | exact leN (by assumption) | exact np1 (by assumption) | exact np2 (by assumption) | exact nq1 (by assumption) | exact nq2 (by assumption) | exact Int.natCast_pos.mpr (by assumption) | exact Nat.le_trans (by assumption) (by decide) | exact bgL _ | exact bgU (by assumption) | exact mU (by assumption) | exact zI _ | exact bL0 (by assumption) | exact bU0 (by assumption) (by assumption) | exact iL (by assumption) | exact iU (by assumption) (by assumption) | exact iC (by assumption) | exact iT (by assumption) | exact stL (by assumption) | exact stU (by assumption) | exact lnK (by assumption) (by assumption) (by assumption) | exact zi1 _ | exact lnE (by assumption) | exact ltL (by assumption) | exact Int.toNat_of_nonneg (by assumption) | exact tS (by assumption) (by assumption) | exact b6 (by assumption) | exact Int.emod_nonneg _ (by decide) | exact Int.emod_lt_of_pos _ (by decide) | decide | omega)
def mx (c k : Int) : Int := ((c % 2147483647 * 48271 + k * k * 69621 + 7919) % 2147483647 * ((c % 2147483647 * 48271 + k * k * 69621 + 7919) % 2147483647) + 16807 * ((c % 2147483647 * 48271 + k * k * 69621 + 7919) % 2147483647) + k) % 2147483629
abbrev St (x : Int) : Prop := 0 <= x /\ x < 2147483647
theorem zpo (c k : Int) : St (mx c k) := ⟨zyK _ (by decide), Int.lt_trans (zyE _ (by decide)) (by decide)⟩
theorem zbR {c k : Int} {s t : Bool} (k0 : 0 <= k) (k1 : k <= 1000) : yu [(s, .int c), (t, .int k)] = sI (mx c k) := by
 have c0 := zyK c (show (2147483647 : Int) ≠ 0 by decide)
 have c1 := zyE c (show (0 : Int) < 2147483647 by decide)
 have kk0 : 0 <= k * k := Int.mul_nonneg k0 k0
 have kk1 : k * k <= 1000 * 1000 := Int.mul_le_mul k1 k1 k0 (by decide)
 have u0 := zyK (c % 2147483647 * 48271 + k * k * 69621 + 7919) (show (2147483647 : Int) ≠ 0 by decide)
 have u1 := zyE (c % 2147483647 * 48271 + k * k * 69621 + 7919) (show (0 : Int) < 2147483647 by decide)
 have bk : k.natAbs < big := zZ (by omega) (by omega)
 have bu : ((c % 2147483647 * 48271 + k * k * 69621 + 7919) % 2147483647).natAbs < big := zZ (by omega) (by omega)
 exact Z8 rfl (zU (xQ (i := 2) (yt (yN (yN (vW (yt (zb (i := 0) rfl) zp (by decide)) zp (zZ (by omega) (by omega)) (zZ (by decide) (by decide))) (vW (vW (zb (i := 1) rfl) (zb (i := 1) rfl) bk bk) zp (zZ (by omega) (by omega)) (zZ (by decide) (by decide)))) zp) zp (by decide)) (zL rfl))
  (Zu (yt (yN (yN (vW (zb (i := 2) rfl) (zb (i := 2) rfl) bu bu) (vW zp (zb (i := 2) rfl) (zZ (by decide) (by decide)) bu)) (zb (i := 1) rfl)) zp (by decide))))
theorem zbC {ns : List Int} {k : Int} {s t : Bool} (hk : 0 <= k) : ∃ x, zB [(s, .lst (ns.map .int)), (t, .int k)] = sT (.int x) := by
 by_cases h : k < ((ns.map D.int).length : Int)
 · obtain ⟨x, hx⟩ := zlH (ns := ns) hk (by rw [zD] at h; exact h)
   exact ⟨x, Z8 rfl (Zc (v4 (vq (zkl (zb rfl) (Zf (zG (zb rfl) zX) rfl rfl)) (congrArg some (zyL h))) (Zu (yO (zb rfl) (zb rfl) hx rfl))))⟩
 · exact ⟨0, Z8 rfl (zU (wN (vq (zkl (zb rfl) (Zf (zG (zb rfl) zX) rfl rfl)) (congrArg some (zyD h))) rfl) (Zu zp))⟩
theorem ziJ {c : Int} {m : Nat} (h1 : m <= 900) : ∃ xs : List Int, xs.length = m /\ (∀ x ∈ xs, St x) /\ RE (yh [(true, .int c), (true, .int m)]) (zq xs) := by
 obtain ⟨as', hf, ys, r, e4, rfl, hl, hy⟩ := xx (g := gN 4) (f := sIf (fT (f2 (f2 zR xT zx) wk yE)) (zE (ww (vg 2 (dC (f2 xW (fC (.int 1000000007)) zx) dN) vC)) (zJ true 3 (f2 xW (fC (.int 1000000007)) zm))) (ww (vg 2 (dC (zO (aC xW zps) yu) dN) vC)))
  (λ i as => ∃ (ys : List Int) (r : Int) (e4 : Option O), as = [sI c, sI m, sN (ys.map lfI), sI r, e4] /\ ys.length = i /\ ∀ y ∈ ys, St y)
  (wI 0 m) 0 [sI c, sI m, sN [], sI (c / 2), none] (λ i x as hx hI => by
   obtain ⟨ys, r, e4, rfl, hl, hy⟩ := hI
   obtain ⟨rfl, hi⟩ := vQ hx
   have tt : WT (fT (f2 (f2 zR xT zx) wk yE)) [sI c, sI m, sN (ys.map lfI), sI r, sI (0 + i)] (c % 2 == 0) := vq (zaS (c := c % 2 == 0) (yt (zb (i := 0) rfl) zp (by decide)) zp rfl) rfl
   refine ⟨[sI c, sI m, sN (ys.map lfI), sI r, sI (0 + i)], rfl, ?_⟩
   have fin : ∀ w, St w -> (ys ++ [w]).length = 0 + i + 1 /\ ∀ y ∈ ys ++ [w], St y := λ w hw => ⟨by rw [zzG, hl]; rfl, λ y m => (zzJ.mp m).elim (hy y) λ m => by rw [zzO.mp m]; exact hw⟩
   cases hb : (c % 2 == 0) with
   | true =>
    rw [hb] at tt
    have w0 := zyK r (show (1000000007 : Int) ≠ 0 by decide)
    have w1 := zyE r (show (0 : Int) < 1000000007 by decide)
    have ap := zfV (i := 2) (as := [sI c, sI m, sN (ys.map lfI), sI r, sI (0 + i)]) rfl (by rw [zD]; exact zW (by omega)) (yt (zb (i := 3) rfl) (zp (x := .int 1000000007)) (by decide))
    rw [<- V1] at ap
    exact ⟨_, v4 tt (zU ap (xQ (i := 3) (wj (zb (i := 3) rfl) zp (by decide) (zZ (by decide) (by decide))) (zL rfl))), ys ++ [r % 1000000007], _, _, rfl, fin _ ⟨w0, by omega⟩⟩
   | false =>
    rw [hb] at tt
    have ap := zfV (i := 2) (as := [sI c, sI m, sN (ys.map lfI), sI r, sI (0 + i)]) rfl (by rw [zD]; exact zW (by omega)) (Yg (zG (zb (i := 3) rfl) (zG (zb (i := 4) rfl) zX)) (zbR (c := r) (k := 0 + i) (by omega) (by omega)))
    rw [<- V1] at ap
    exact ⟨_, wN tt ap, ys ++ [mx r (0 + i)], _, _, rfl, fin _ (zpo _ _)⟩)
  ⟨[], c / 2, none, rfl, rfl, λ _ m => nomatch m⟩
 rw [wG] at hl
 refine ⟨ys, by omega, hy, WW rfl (yf (wX (i := 2) (YH yM (szl rfl)) (zL rfl)) (yf (xQ (i := 3) (wj (zb (i := 0) rfl) zp (by decide) (zZ (by decide) (by decide))) (zL rfl)) (yf (wO (wR (zG (zb (i := 1) rfl) zX) (by omega) (by omega)) hf) ⟨_, zbw (i := 2) rfl (vM ys).2.1, (Vy ys).1, (Vy ys).2⟩)))⟩
theorem stE {a b : EF} {as : AS} {c : Int} {m : Nat} (hm : m <= 900) (ha : WE a as (.int c)) (hb : WE b as (.int m)) : ∃ xs : List Int, xs.length = m /\ (∀ x ∈ xs, St x) /\ WE (zO (aC a (aC b aN)) yh) as (zq xs) := by
 obtain ⟨xs, h1, h2, h3⟩ := ziJ (c := c) (m := m) hm
 exact ⟨xs, h1, h2, zfI ha hb h3⟩
theorem at2 {xs : List Int} (h : ∀ x ∈ xs, St x) {k : Int} (h0 : 0 <= k) (h1 : k < xs.length) : ∃ x, ixP (zq xs) (.int k) = some (.im (.int x)) /\ St x := znX h0 h1 h
theorem eqT {a b : EF} {as : AS} {x y : Int} {s t q : Bool} (ha : WD a as s (.int x)) (hb : WD b as t (.int y)) (e : (x == y) = q) : WT (fT (f2 a b yE)) as q := vq (zaS (c := q) ha hb (congrArg some e)) rfl
theorem VH {k : Int} {n : Nat} {a b : Int} (h : KN k n) (ha : InR n a) (hb : InR n b) : zN [(true, .int k), (true, .int n), (true, .int a), (true, .int b)] = sI (jK k n a b) := by
 rcases h with ⟨rfl, hn⟩ | ⟨rfl, hn⟩ | ⟨rfl, hn⟩ | ⟨rfl, rfl⟩
 · exact Z8 rfl (Zc (v4 (eqT (zb (i := 0) rfl) zp rfl) (Zu (yt (yN (zb (i := 2) rfl) (zb (i := 3) rfl)) (zb (i := 1) rfl) (by omega)))))
 · exact Z8 rfl (zU (wN (eqT (zb (i := 0) rfl) zp rfl) rfl) (Zc (v4 (eqT (zb (i := 0) rfl) zp rfl) (Zu (Zf (zG (zb (i := 2) rfl) (zG (zb (i := 3) rfl) zX)) rfl rfl)))))
 · exact Z8 rfl (zU (wN (eqT (zb (i := 0) rfl) zp rfl) rfl) (zU (wN (eqT (zb (i := 0) rfl) zp rfl) rfl) (Zc (v4 (eqT (zb (i := 0) rfl) zp rfl) (Zu (f2E (Zd (os := [lfI b, lfI a]) (xf (zb (i := 3) rfl) (xf (zb (i := 2) rfl) yM)) (szl rfl) rfl rfl) (WD.e (Zf (zG (zaS (zb (i := 3) rfl) zp rfl) zX) rfl rfl)) (zjj.trans (by show _ = some (R0.im (.int (jL a b))); unfold jL; by_cases h : b = 0 <;> simp [h]))))))))
 · have P : ∀ a ∈ ([0, 1, 2, 3] : List Int), ∀ b ∈ ([0, 1, 2, 3] : List Int), zN [(true, .int 3), (true, .int (4 : Nat)), (true, .int a), (true, .int b)] = sI (jK 3 4 a b) := by
    intro a ma b mb
    simp only [zS, zyZ, or_false] at ma mb
    rcases ma with rfl | rfl | rfl | rfl <;> rcases mb with rfl | rfl | rfl | rfl <;> rfl
   exact f4 (P := λ a => zN [(true, .int 3), (true, .int (4 : Nat)), (true, .int a), (true, .int b)] = sI (jK 3 4 a b)) (λ a m => f4 (P := λ b => zN [(true, .int 3), (true, .int (4 : Nat)), (true, .int a), (true, .int b)] = sI (jK 3 4 a b)) (P a m) hb) ha
open L2 (zW)
theorem kinds_ok {x : Int} : ∃ (k : Int) (n : Nat) (k2 : Int) (n2 : Nat), KN k n /\ KN k2 n2 /\ n * n2 <= 8 /\ eK k2 = 0 /\ RE (vK [(true, .int x)]) (.tup [.int k, .int n, .int k2, .int n2]) := by
 have s1 : zJ true 1 (f2 zR Zj zx) [sI x, none, none, none] = some (.nx [sI x, sI (x % 4), none, none]) := xQ (i := 1) (yt (zb (i := 0) rfl) zp (by decide)) (zL rfl)
 obtain ⟨sz, z1, z8, s2⟩ : ∃ sz : Int, 1 <= sz /\ sz <= 8 /\ zJ true 2 (f2 (xg (dC (f2 yD (f2 (f2 zR Zj zm) zik zx) zK) (dC (f2 yD (f2 (f2 zR Zj zm) Vs zx) zK) dN))) (fP (aC (f2 (f2 (f2 zR (fC (.int 40)) zm) Zj zx) yD yE) aN) Yz) ixP) [sI x, sI (x % 4), none, none] = some (.nx [sI x, sI (x % 4), sI sz, none]) := by
  have w5 := yN (as := [sI x, sI (x % 4), none, none]) (zp (x := .int 1)) (yt (wj (zb (i := 0) rfl) (zp (x := .int 4)) (by decide) (zZ (by decide) (by decide))) (zp (x := .int 5)) (by decide))
  have w8 := yN (as := [sI x, sI (x % 4), none, none]) (zp (x := .int 1)) (yt (wj (zb (i := 0) rfl) (zp (x := .int 4)) (by decide) (zZ (by decide) (by decide))) (zp (x := .int 8)) (by decide))
  refine ⟨if (x / 40 % 4 == 1) = true then 1 + x / 4 % 8 else 1 + x / 4 % 5, by split <;> omega, by split <;> omega, xQ (i := 2) (f2E (Zd (os := [lfI (1 + x / 4 % 5), lfI (1 + x / 4 % 8)]) (xf w5 (xf w8 yM)) (szl rfl) rfl rfl) (WD.e (Zf (zG (zaS (c := x / 40 % 4 == 1) (yt (wj (zb (i := 0) rfl) (zp (x := .int 40)) (by decide) (zZ (by decide) (by decide))) (zp (x := .int 4)) (by decide)) (zp (x := .int 1)) rfl) zX) rfl rfl)) zjj) (zL rfl)⟩
 obtain ⟨n, hk, n8, s3⟩ : ∃ n : Nat, KN (x % 4) n /\ n <= 8 /\ sIf (fT (f2 yg Xv yE)) (zJ true 2 Zj) sNx [sI x, sI (x % 4), sI sz, none] = some (.nx [sI x, sI (x % 4), sI n, none]) := by
  by_cases h3 : x % 4 = 3
  · exact ⟨4, by rw [h3]; exact .inr (.inr (.inr ⟨rfl, rfl⟩)), by decide, v4 (eqT (zb (i := 1) rfl) zp (by simp [h3])) (xQ (i := 2) zp (zL rfl))⟩
  · refine ⟨sz.toNat, ?_, by omega, (wN (eqT (zb (i := 1) rfl) zp (by simp [h3])) rfl).trans (by rw [show ((sz.toNat : Nat) : Int) = sz by omega]; rfl)⟩
    rcases (show x % 4 = 0 \/ x % 4 = 1 \/ x % 4 = 2 by omega) with h | h | h <;> rw [h]
    · exact .inl ⟨rfl, by omega⟩
    · exact .inr (.inl ⟨rfl, by omega⟩)
    · exact .inr (.inr (.inl ⟨rfl, by omega⟩))
 have s4 : zJ true 3 (f2 yD (f2 (f2 zR (fC (.int 160)) zm) Xv zx) zK) [sI x, sI (x % 4), sI n, none] = some (.nx [sI x, sI (x % 4), sI n, sI (1 + x / 160 % 3)]) := xQ (i := 3) (yN zp (yt (wj (zb (i := 0) rfl) zp (by decide) (zZ (by decide) (by decide))) zp (by decide))) (zL rfl)
 have n1 := hk.n1
 obtain ⟨n2, p2, q2, s5⟩ : ∃ n2 : Nat, 1 <= n2 /\ n * n2 <= 8 /\ sIf (fT (f2 (f2 yJ xW zY) Vs (Xh .Gt))) (zJ true 3 yD) sNx [sI x, sI (x % 4), sI n, sI (1 + x / 160 % 3)] = some (.nx [sI x, sI (x % 4), sI n, sI n2]) := by
  have wm := zpN (vW (as := [sI x, sI (x % 4), sI n, sI (1 + x / 160 % 3)]) (zb (i := 2) rfl) (zb (i := 3) rfl) (zZ (i := (n : Int)) (by omega) (by omega)) (zZ (i := 1 + x / 160 % 3) (by omega) (by omega))) (zp (x := .int 8))
  by_cases h : (8 : Int) < (n : Int) * (1 + x / 160 % 3)
  · exact ⟨1, by decide, by omega, v4 (vq wm (congrArg some (zyL h))) (xQ (i := 3) zp (zL rfl))⟩
  · have e : (((1 + x / 160 % 3).toNat : Nat) : Int) = 1 + x / 160 % 3 := by omega
    refine ⟨(1 + x / 160 % 3).toNat, by omega, ?_, (wN (vq wm (congrArg some (zyD h))) rfl).trans (by rw [e]; rfl)⟩
    have : ((n * (1 + x / 160 % 3).toNat : Nat) : Int) <= 8 := by rw [zzS, e]; omega
    omega
 have w7 := yt (as := [sI x, sI (x % 4), sI n, sI n2]) (wj (zb (i := 0) rfl) (zp (x := .int 480)) (by decide) (zZ (by decide) (by decide))) (zp (x := .int 3)) (by decide)
 refine ⟨x % 4, n, x / 480 % 3, n2, hk, ?_, q2, ?_, WW rfl (yf s1 (yf s2 (yf s3 (yf s4 (yf s5 (zen (zre (os := [lfI (x % 4), lfI n, lfI (x / 480 % 3), lfI n2]) (xf (zb (i := 1) rfl) (xf (zb (i := 2) rfl) (xf w7 (xf (zb (i := 3) rfl) yM)))) (szl rfl) rfl rfl))))))) ⟩
 · rcases (show x / 480 % 3 = 0 \/ x / 480 % 3 = 1 \/ x / 480 % 3 = 2 by omega) with h | h | h <;> rw [h]
   · exact .inl ⟨rfl, by omega⟩
   · exact .inr (.inl ⟨rfl, by omega⟩)
   · exact .inr (.inr (.inl ⟨rfl, by omega⟩))
 · exact if_neg (by omega)
abbrev ch (c : Nat) : Str := ⟨#[c]⟩
theorem zhB : ∀ cs : List Nat, (Str.join "" (cs.map ch)).cps.toList = cs
 | [] => rfl
 | [x] => rfl
 | x :: y :: r => by
  show (ch x ++ "" ++ Str.join "" ((y :: r).map ch)).cps.toList = _
  rw [Str.cps_append, Str.cps_append, Array.toList_append, Array.toList_append, zhB (y :: r)]
  rfl
def lt (c : Int) (k : Nat) (at_ : Int) (i : Nat) : Nat := 97 + ((mx c i / 64 + (k : Int) * (if ((i : Int) == at_) = true then 1 else 0)) % 26).toNat
def wd (c : Int) (n : Nat) (at_ : Int) (k : Nat) : Str := Str.join "" (((List.range n).map (lt c k at_)).map ch)
theorem znH {c at_ : Int} {n k j : Nat} (h0 : 0 <= at_) (h1 : at_ < n) (hk : k < 10) (hj : j < 10) (h : wd c n at_ k = wd c n at_ j) : k = j := by
 have h := congrArg (λ s : Str => s.cps.toList[at_.toNat]?) h
 simp only [wd, zhB, zzF] at h
 rw [List.getElem?_range (by omega)] at h
 have h : some (lt c k at_ at_.toNat) = some (lt c j at_ at_.toNat) := h
 injection h with h
 unfold lt at h
 rw [show ((at_.toNat : Nat) : Int) = at_ by omega] at h
 simp only [beq_self_eq_true, if_true, Int.mul_one] at h
 omega
theorem zhL {c : Int} {N : Nat} (hN : N <= 10) : ∃ ss : List Str, ss.length = N /\ ss.Nodup /\ RE (xJ [(true, .int c), (true, .int N)]) (.lst (ss.map D.str)) := by
 have z0 := zyK c (show (8 : Int) ≠ 0 by decide)
 have z1 := zyE c (show (0 : Int) < 8 by decide)
 obtain ⟨n, hn, hn1, hn8⟩ : ∃ n : Nat, (n : Int) = 1 + c % 8 /\ 1 <= n /\ n <= 8 := ⟨(1 + c % 8).toNat, by omega, by omega, by omega⟩
 have t0 := zyK (c / 8) (show (n : Int) ≠ 0 by omega)
 have t1 := zyE (c / 8) (show (0 : Int) < n by omega)
 have s3 := xQ (st := true) (i := 3) (as := [sI c, sI N, sT (.str abc), none, none, none, none, none]) (yN (zp (x := .int 1)) (yt (zb (i := 0) rfl) (zp (x := .int 8)) (by decide))) (zL rfl)
 rw [<- hn] at s3
 have s4 := xQ (st := true) (i := 4) (as := [sI c, sI N, sT (.str abc), sI n, none, none, none, none]) (yt (wj (zb (i := 0) rfl) (zp (x := .int 8)) (by decide) (zZ (by decide) (by decide))) (zb (i := 3) (x := .int n) (s := true) rfl) (by omega)) (zL rfl)
 generalize hat : c / 8 % (n : Int) = at_ at t0 t1 s4
 obtain ⟨as', hf, os, e6, e7, rfl, ho⟩ := xx (g := gN 6) (f := (zE (zJ true 7 (yj (yX zbo xq) [none, some 2, some 6, some 0, some 4] wQ xX (f2 yg (f2 (f2 (f2 (zO (aC xW zcT) yu) (fC (.int 64)) zm) (f2 yJ (fP (aC (f2 zR xF yE) aN) Yz) zY) zK) (fC (.int 26)) zx) ixP)))
  (ww (vg 5 (dC (zcw .str (fC (.str "")) zkb zeD) dN) vC))))
  (λ i as => ∃ (os : List O) (e6 e7 : Option O), as = [sI c, sI N, sT (.str abc), sI n, sI at_, sN os, e6, e7] /\ Ows D.str (λ _ => True) os ((List.range i).map (wd c n at_)))
  (wI 0 N) 0 [sI c, sI N, sT (.str abc), sI n, sI at_, sN [], none, none] (λ i x as hx' hI => by
   obtain ⟨os, e6, e7, rfl, ho⟩ := hI
   obtain ⟨rfl, hi⟩ := vQ hx'
   rw [zyV] at ho
   rw [Int.zero_add]
   obtain ⟨l, l1, l2, l3⟩ := zmj (λ c => D.str (ch c)) (Q := λ j a => a = lt c i at_ j) (n := n) (u := true) (as := [sI c, sI N, sT (.str abc), sI n, sI at_, sN os, sI i, e7]) (cap := [none, some 2, some 6, some 0, some 4]) (fr := aC xW aN) (fe := f2 yg (f2 (f2 (f2 (zO (aC xW zcT) yu) (fC (.int 64)) zm) (f2 yJ (fP (aC (f2 zR xF yE) aN) Yz) zY) zK) (fC (.int 26)) zx) ixP) (zG (zb rfl) zX) (by omega) λ j hj => by
    have q0 := zyK (mx c j / 64 + (i : Int) * (if ((j : Int) == at_) = true then 1 else 0)) (show (26 : Int) ≠ 0 by decide)
    have q1 := zyE (mx c j / 64 + (i : Int) * (if ((j : Int) == at_) = true then 1 else 0)) (show (0 : Int) < 26 by decide)
    refine ⟨[sI j, sT (.str abc), sI i, sI c, sI at_], _, rfl, WD.e (yO (zb (i := 1) rfl) (yt (yN (wj (Yg (zG (zb (i := 3) rfl) (zG (zb (i := 0) rfl) zX)) (zbR (by omega) (by omega))) zp (by decide) (zZ (by decide) (by decide))) (vW (zb (i := 2) rfl) (Zf (x := .int (if ((j : Int) == at_) = true then 1 else 0)) (zG (zaS (c := (j : Int) == at_) (zb (i := 0) rfl) (zb (i := 4) rfl) rfl) zX) rfl rfl) (zZ (by omega) (by omega)) (by split <;> exact zZ (by decide) (by decide)))) zp (by decide)) (zoY q0 q1) rfl), rfl⟩
   have el : l = (List.range n).map (lt c i at_) := by
    refine List.ext_getElem? λ j => ?_
    rw [zzF]
    by_cases hj : j < n
    · rw [List.getElem?_range hj, zzB (by omega), l2 j _ (zzB (by omega))]; rfl
    · rw [List.getElem?_eq_none (by omega), List.getElem?_eq_none (by rw [zyR]; omega)]; rfl
   have hm : WE (zcw .str (fC (.str "")) zkb zeD) [sI c, sI N, sT (.str abc), sI n, sI at_, sN os, sI i, sT (.lst (l.map λ c => D.str (ch c)))] (.str (wd c n at_ i)) := by
    refine WD.e (zlb zp rfl (zG (zb (i := 7) rfl) zX) ?_ rfl)
    have e1 : l.map (λ c => D.str (ch c)) = (l.map ch).map D.str := by rw [zzY]; rfl
    rw [e1]
    show (zaP ((l.map ch).map D.str)).bind _ = _
    rw [zff]
    show (if ((l.map ch).map (·.length)).sum + (l.map ch).length * 0 <= 16777216 then some (R0.im (.str (Txt.join "" (l.map ch)))) else none) = _
    have e2 := zpH (l.map ch) λ s m => by
     obtain ⟨a, _, rfl⟩ := zxB.mp m
     rfl
    rw [if_pos (by rw [e2, zD]; omega), zjs, el]; rfl
   obtain ⟨os', o1, o2⟩ := zqB (i := 5) (toD := D.str) (Q := λ _ => True) rfl ho (by rw [zD, zyR]; omega) hm trivial
   refine ⟨[sI c, sI N, sT (.str abc), sI n, sI at_, sN os, sI i, e7], rfl, _, zU (Yy (p := 7) l3 (zL rfl)) o2, os', _, _, rfl, ?_⟩
   rw [show 0 + i + 1 = i + 1 by omega, List.range_succ, zyJ]
   exact o1)
  ⟨[], none, none, rfl, Ows.nil⟩
 rw [wG, zyV] at ho
 have hr := wR (as := [sI c, sI N, sT (.str abc), sI n, sI at_, sN [], none, none]) (zG (zb (i := 1) rfl) zX) (show (0 : Int) <= (N : Int) by omega) (by omega)
 rw [zyF] at hr
 refine ⟨(List.range N).map (wd c n at_), by rw [zD, zyR], ?_, WW rfl (yf (xQ (i := 2) zp (zL rfl)) (yf s3 (yf s4 (yf (wX (i := 5) (YH yM (szl rfl)) (zL rfl)) (yf (wO hr hf) (Ows.retB (i := 5) rfl ho))))))⟩
 exact List.pairwise_map.mpr ((List.nodup_range (n := N)).imp_of_mem λ ha hb hne he => hne (znH t0 t1 (zzH (List.mem_range.mp ha) hN) (zzH (List.mem_range.mp hb) hN) he))
theorem zkD {c : Int} : ∃ ss : List Str, ss.length = 10 /\ ss.Nodup /\ RE (xJ [(true, .int c), (true, .int (10 : Nat))]) (.lst (ss.map D.str)) := zhL (N := 10) (by decide)
open L2 (zW)
structure Par where
 c : Int
 h : Int
 w : Nat
 xs : List Int
 ys : List Int
 k : Int
 n : Nat
 k2 : Int
 n2 : Nat
 m : Nat
structure POk (P : Par) : Prop where
 k1 : KN P.k P.n
 k2 : KN P.k2 P.n2
 n8 : P.n * P.n2 <= 8
 e2 : eK P.k2 = 0
 m1 : 1 <= P.m
 m6 : P.m <= 6
 w4 : P.w <= 4
 xl : P.xs.length = 1 + 2 * P.w
 xS : ∀ x ∈ P.xs, St x
 yl : P.ys.length = 13
 yS : ∀ x ∈ P.ys, St x
abbrev Par.N (P : Par) : Nat := P.n * P.n2
theorem POk.n1 {P : Par} (h : POk P) : 1 <= P.n := h.k1.n1
theorem POk.p2 {P : Par} (h : POk P) : 1 <= P.n2 := h.k2.n1
theorem POk.a8 {P : Par} (h : POk P) : P.n <= 8 := zzL (Nat.le_mul_of_pos_right _ h.p2) h.n8
theorem POk.b8 {P : Par} (h : POk P) : P.n2 <= 8 := zzL (Nat.le_mul_of_pos_left _ h.n1) h.n8
theorem POk.N1 {P : Par} (h : POk P) : 1 <= P.N := Nat.mul_pos h.n1 h.p2
abbrev Z (P : Par) (e11 e12 e13 e14 e15 e16 e17 e18 e19 e20 e21 e22 e23 e24 e25 e26 e27 : Option O) : AS :=
 [sI P.c, sI P.h, sI P.w, sT (zq P.xs), sT (zq P.ys), sI P.k, sI P.n, sI P.k2, sI P.n2, sI P.m, sI P.N, e11, e12, e13, e14, e15, e16, e17, e18, e19, e20, e21, e22, e23, e24, e25, e26, e27]
def Rq (r : Option Out) (Q : D -> Prop) : Prop := ∃ x, Rt r x /\ Q x
theorem Za {f g : SF} {as as1 : AS} {Q : D -> Prop} (h1 : f as = some (.nx as1)) (h2 : Rq (g as1) Q) : Rq (zE f g as) Q := by
 obtain ⟨x, h, q⟩ := h2
 exact ⟨x, yf h1 h, q⟩
theorem zno {f : SF} {as : AS} {i : Nat} {o : O} {Q : D -> Prop} (h : as[i]? = some (some o)) (k : Rq (f (as.set i (some o.frz))) Q) : Rq (zil i f as) Q := by
 unfold zil
 rw [h]; exact k
theorem zlF {c h : Int} {w : Nat} (hw : w <= 4) {f : SF} {Q : D -> Prop} (K : ∀ P : Par, POk P -> P.w = w -> P.h = h -> Rq (f (Z P none none none none none none none none none none none none none none none none none)) Q) :
 Rq ((zE (zJ true 3 (zO (aC zR (aC (f2 yD (f2 xT yJ zY) zK) aN)) yh))
 (zE (zJ true 4 (zO (aC yg (aC zna aN)) yh))
 (zE (zcI (zO (aC (f2 xW wk ixP) aN) vK) (gT 4 (gsC Vb (gsC zbq (gsC (gN 7) (gsC (gN 8) gsN))))))
 (zE (zJ true 9 (f2 (f2 yD (f2 (f2 xF wk ixP) Zj zx) zK) (f2 xT (fP (aC (f2 (f2 (f2 (f2 xF wk ixP) Zj zm) Vs zx) zik yE) aN) Yz) zY) zK))
 (zE (zJ true 10 (f2 Zk wF zY)) f))))) (vG 28 [(true, .int c), (true, .int h), (true, .int w)])) Q := by
 have w1 := yN (as := vG 28 [(true, .int c), (true, .int h), (true, .int w)]) (zp (x := .int 1)) (vW (zp (x := .int 2)) (zb (i := 2) (s := true) (x := .int w) rfl) (zZ (by decide) (by decide)) (zZ (by omega) (by omega)))
 rw [show (1 : Int) + 2 * (w : Int) = ((1 + 2 * w : Nat) : Int) by omega] at w1
 obtain ⟨xs, xl, xS, wx⟩ := stE (m := 1 + 2 * w) (by omega) (WD.e (zb (i := 0) (as := vG 28 [(true, .int c), (true, .int h), (true, .int w)]) rfl)) (WD.e w1)
 obtain ⟨ys, yl, yS, wy⟩ := stE (m := 13) (as := [sI c, sI h, sI w, sT (zq xs), none, none, none, none, none, none, none, none, none, none, none, none, none, none, none, none, none, none, none, none, none, none, none, none]) (b := fC (.int 13)) (by omega) (WD.e (zb (i := 1) rfl)) (WD.e zp)
 obtain ⟨x0, a0, b0⟩ := at2 xS (k := 0) (by omega) (by omega)
 obtain ⟨y0, c0, d0⟩ := at2 yS (k := 0) (by omega) (by omega)
 obtain ⟨k, n, k2, n2, h1, h2, h3, h4, h5⟩ := kinds_ok (x := x0)
 have hm0 : 1 <= 1 + y0 % 4 + 2 * (if (y0 / 4 % 8 == 5) = true then 1 else 0) /\ 1 + y0 % 4 + 2 * (if (y0 / 4 % 8 == 5) = true then 1 else 0) <= 6 := by split <;> omega
 obtain ⟨m, hm⟩ : ∃ m : Nat, (m : Int) = 1 + y0 % 4 + 2 * (if (y0 / 4 % 8 == 5) = true then 1 else 0) := ⟨(1 + y0 % 4 + 2 * (if (y0 / 4 % 8 == 5) = true then 1 else 0)).toNat, by omega⟩
 have P1 : POk ⟨c, h, w, xs, ys, k, n, k2, n2, m⟩ := ⟨h1, h2, h3, h4, by show 1 <= m; omega, by show m <= 6; omega, hw, xl, xS, yl, yS⟩
 have A8 : n <= 8 := P1.a8
 have B8 : n2 <= 8 := P1.b8
 have y4 : WD (f2 xF wk ixP) [sI c, sI h, sI w, sT (zq xs), sT (zq ys), sI k, sI n, sI k2, sI n2, none, none, none, none, none, none, none, none, none, none, none, none, none, none, none, none, none, none, none] true (.int y0) := yO (zb (i := 4) rfl) zp c0 rfl
 have s9 := xQ (st := true) (i := 9) (yN (yN (zp (x := .int 1)) (yt y4 (zp (x := .int 4)) (by decide))) (vW (zp (x := .int 2)) (Zf (g := Yz) (x := .int (if (y0 / 4 % 8 == 5) = true then 1 else 0)) (zG (zaS (c := y0 / 4 % 8 == 5) (yt (wj y4 (zp (x := .int 4)) (by decide) (zZ (by decide) (by decide))) (zp (x := .int 8)) (by decide)) (zp (x := .int 5)) rfl) zX) rfl rfl) (zZ (by decide) (by decide)) (by split <;> exact zZ (by decide) (by decide)))) (zL rfl)
 rw [<- hm] at s9
 have s10 := xQ (st := true) (i := 10) (as := [sI c, sI h, sI w, sT (zq xs), sT (zq ys), sI k, sI n, sI k2, sI n2, sI m, none, none, none, none, none, none, none, none, none, none, none, none, none, none, none, none, none, none]) (vW (zb (i := 6) rfl) (zb (i := 8) rfl) (zZ (i := (n : Int)) (by omega) (by omega)) (zZ (i := (n2 : Int)) (by omega) (by omega))) (zL rfl)
 rw [<- zzS] at s10
 exact Za (Yy (p := 3) wx (zL rfl)) (Za (Yy (p := 4) wy (zL rfl)) (Za (zqX (ziR (zpr (WD.e (zb (i := 3) rfl)) (WD.e zp) a0) h5) rfl) (Za s9 (Za s10 (K ⟨c, h, w, xs, ys, k, n, k2, n2, m⟩ P1 rfl rfl)))))
theorem zjt {P : Par} (h : POk P) {f : SF} {Q : D -> Prop} (K : ∀ (F : List Int) (e11 e13 : Option O), F.Perm (zcR P.N) -> Rq (f (Z P e11 (sT (zq F)) e13 none none none none none none none none none none none none none none)) Q) :
 Rq ((zE (zJ false 11 (fP Ye lrP))
 (zE (zJ false 12 (xg dN))
 (zE (wH (yX Ye xq) zdi (ww (vg 12 (dC (vg 11 (dC (f2 (f2 xF (f2 yD YD zK) ixP) (fP (aC zku aN) zbI) zx) dN) YK) dN) vC)))
 (zil 12 f)))) (Z P none none none none none none none none none none none none none none none none none)) Q := by
 have N8 := h.n8
 obtain ⟨as', hf, L, F, e13, rfl, hp, hlen⟩ := xx (g := gN 13) (f := ww (vg 12 (dC (vg 11 (dC (f2 (f2 xF (f2 yD YD zK) ixP) (fP (aC zku aN) zbI) zx) dN) YK) dN) vC))
  (λ i as => ∃ (L F : List Int) (e13 : Option O), as = Z P (sN (L.map lfI)) (sN (F.map lfI)) e13 none none none none none none none none none none none none none none /\ (L ++ F).Perm (zcR P.N) /\ L.length + i = P.N)
  (wI 0 P.N) 0 (Z P (sN ((zcR P.N).map lfI)) (sN []) none none none none none none none none none none none none none none none) (λ i x as hx' hI => by
   obtain ⟨L, F, e13, rfl, hp, hlen⟩ := hI
   obtain ⟨rfl, hi⟩ := vQ hx'
   obtain ⟨y, a1, b1⟩ := at2 h.yS (k := 1 + (0 + i)) (by omega) (by rw [h.yl]; have : i < P.n * P.n2 := hi; omega)
   have hL0 : 0 < L.length := by have : i < P.N := hi; omega
   have hL8 : L.length <= 8 := zzL (show L.length <= P.N by omega) N8
   have l0 : (0 : Int) < ((L.map lfI).length : Int) := by rw [zD]; omega
   have z0 := zyK y (show ((L.map lfI).length : Int) ≠ 0 by omega)
   have z1 := zyE y l0
   have hk : (y % ((L.map lfI).length : Int)).toNat < L.length := by rw [zD] at z0 z1 ⊢; omega
   generalize hkk : (y % ((L.map lfI).length : Int)).toNat = k at hk
   have pop := zkN (as := Z P (sN (L.map lfI)) (sN (F.map lfI)) (sI (0 + i)) none none none none none none none none none none none none none none) (i := 11) (os := L.map lfI) (o := lfI L[k]) rfl (yt (yO (zb (i := 4) rfl) (yN zp (zb (i := 13) rfl)) a1 rfl) (zoh (i := 11) rfl) l0) z0 z1 (by rw [zD]; exact Nat.lt_of_le_of_lt hL8 (by decide)) (by rw [hkk, zzF, zzB hk]; rfl)
   rw [hkk, show (L.map lfI).eraseIdx k = (L.eraseIdx k).map lfI by rw [List.eraseIdx_eq_take_drop_succ, List.eraseIdx_eq_take_drop_succ, zyJ, List.map_take, List.map_drop]] at pop
   have hF : F.length <= 8 := by
    have e := hp.length_eq
    rw [zzG, zD, zyR] at e
    have : P.N <= 8 := N8
    omega
   have ap := VN (i := 12) (os := F.map lfI) (as := Z P (sN (L.map lfI)) (sN (F.map lfI)) (sI (0 + i)) none none none none none none none none none none none none none none) rfl pop rfl (by rw [zD]; exact zW (by omega))
   rw [<- V1] at ap
   refine ⟨Z P (sN (L.map lfI)) (sN (F.map lfI)) (sI (0 + i)) none none none none none none none none none none none none none none, rfl, _, ap, L.eraseIdx k, F ++ [L[k]], _, rfl, ?_, by rw [List.length_eraseIdx_of_lt hk]; omega⟩
   rw [<- zxA]
   refine (List.perm_append_singleton _ _).trans ?_
   rw [<- List.cons_append]
   exact ((zbX L k hk).append_right F).trans hp)
  ⟨zcR P.N, [], none, rfl, by rw [zyB], by rw [zD, zyR]; rfl⟩
 rw [wG] at hlen
 have hL : L = [] := List.eq_nil_of_length_eq_zero (by omega)
 subst hL
 have s2 := wX (i := 11) (as := Z P none none none none none none none none none none none none none none none none none) (ziW (a := fV 10) (x := .int P.N) (g := lrP) (zs := (zcR P.N).map D.int) (WD.e (zb (i := 10) rfl)) (by
  show (if (0 : Int) <= P.N /\ (P.N : Int) <= 100000 then _ else _) = _
  rw [if_pos ⟨by omega, by have : P.N <= 8 := N8; omega⟩, zzY]; rfl)) (zL rfl)
 rw [zmF] at s2
 have hfz : (O.nd .ls (F.map lfI)).frz = .lf true (zq F) := by
  show O.lf (O.nd .ls (F.map lfI)).str (O.nd .ls (F.map lfI)).toD = _
  rw [(Vy F).1, (Vy F).2]
 refine Za s2 (Za (wX (i := 12) (YH yM (szl rfl)) (zL rfl)) (Za (wO (wR (zG (zb (i := 10) rfl) zX) (by omega) (by have : P.N <= 8 := N8; omega)) (by rw [zyF]; exact hf)) (zno (i := 12) rfl ?_)))
 rw [hfz]
 exact K F _ _ hp
open L2 (zW)
abbrev Par.j (P : Par) : Int -> Int -> Int := jB P.n2 (jK P.k P.n) (jK P.k2 P.n2)
abbrev Par.e (P : Par) : Int := eK P.k * P.n2 + eK P.k2
structure Lc (n : Nat) (j : Int -> Int -> Int) (e : Int) : Prop where
 cl : ∀ a b, InR n a -> InR n b -> InR n (j a b)
 ce : InR n e
theorem lcK {k : Int} {n : Nat} (h : KN k n) : Lc n (jK k n) (eK k) := by
 rcases h with ⟨rfl, h⟩ | ⟨rfl, h⟩ | ⟨rfl, h⟩ | ⟨rfl, rfl⟩
 · exact ⟨λ a b _ _ => zkk h, ⟨by decide, Int.ofNat_lt.mpr h⟩⟩
 · refine ⟨λ a b ha hb => ?_, ⟨by decide, Int.ofNat_lt.mpr h⟩⟩
   show InR n (if b > a then b else a)
   split <;> assumption
 · refine ⟨λ a b ha hb => ?_, ⟨by decide, Int.ofNat_lt.mpr h⟩⟩
   show InR n (if b = 0 then a else b)
   split <;> assumption
 · refine ⟨λ a b ha hb => ?_, ⟨by decide, by decide⟩⟩
   have : ∀ a ∈ ([0, 1, 2, 3] : List Int), ∀ b ∈ ([0, 1, 2, 3] : List Int), InR 4 (jP a b) := by decide
   exact f4 (P := λ a => InR 4 (jP a b)) (λ a m => f4 (P := λ b => InR 4 (jP a b)) (this a m) hb) ha
theorem POk.lj {P : Par} (h : POk P) : Lc P.N P.j P.e := ⟨λ a b ha hb => zqE ((lcK h.k1).cl _ _ (zaB h.p2 ha).1 (zaB h.p2 hb).1) ((lcK h.k2).cl _ _ (zaB h.p2 ha).2 (zaB h.p2 hb).2), zqE (lcK h.k1).ce (lcK h.k2).ce⟩
theorem zio {as : AS} {F : List Int} {i : Nat} {fi : IF} {xs : List It1} (hF : F.length <= 8) (hx : xs.length <= 8) (h1 : fi as = some (xs, as)) (h2 : ∀ y ∈ xs, ∃ d, y = (true, d)) (hc : ∀ d : D, gN 0 (true, d) (ZP [none, some i] as) = some [sT d, sT (zq F)]) :
 yj fi [none, some i] wQ xX (yj (Yn yg) [none] wQ xX wk) as = some (.ow (Wz (List.replicate xs.length (List.replicate F.length (0 : Int)))), as) := by
 refine zbz h1 (szs (by omega)) (zeT xs λ y m => ?_)
 obtain ⟨d, rfl⟩ := h2 y m
 refine ⟨_, hc d, ?_⟩
 have e := zeR (as0 := [none]) (F.map D.int) (λ d => ⟨[sT d], rfl⟩)
 rw [zD] at e
 exact zbz (zgR (WD.e (zb (i := 1) rfl))) (szs (by rw [zD, zD]; omega)) e
theorem zlS {P : Par} (h : POk P) {F : List Int} (hF : F.Perm (zcR P.N)) {e11 e13 : Option O} {f : SF} {Q : D -> Prop} (K : ∀ (J : TZ) (e15 e16 e17 : Option O), Tab P.N P.N J -> Rq (f (Z P e11 (sT (zq F)) e13 (some (Wz J)) e15 e16 e17 none none none none none none none none none none)) Q) :
 Rq ((zE (zJ false 14 (yj (Yn zaJ) [none, some 12] wQ xX (yj (Yn yg) [none] wQ xX wk)))
 (zE (wH (yX Ye xq) zjb (wH (yX Ye xq) zjB (zE (zJ true 17 (f2 (zO (aC xU (aC Zk (aC (f2 Zv wF zm) (aC (f2 YB wF zm) aN)))) zN) wF zY))
 (zE (zJ true 17 (f2 zeY (zO (aC zfS (aC wF (aC (f2 Zv wF zx) (aC (f2 YB wF zx) aN)))) zN) zK))
 (Vm 14 (xAt 12 (xV 15)) (xAt 12 (xV 16)) (xAt 12 (xV 17)))))))
 f)) (Z P e11 (sT (zq F)) e13 none none none none none none none none none none none none none none)) Q := by
 have N8 : P.N <= 8 := h.n8
 have N1 := h.N1
 have p2 := h.p2
 have b8 := h.b8
 have a8 := h.a8
 obtain ⟨hR, _⟩ := VR hF
 have hl := hR.1
 have hz := zio (as := Z P e11 (sT (zq F)) e13 none none none none none none none none none none none none none none) (F := F) (i := 12) (xs := (F.map D.int).map λ d => (true, d)) (by omega) (by rw [zD, zD]; omega) (zgR (WD.e (zb (i := 12) rfl))) (λ y m => by
  obtain ⟨d, _, rfl⟩ := zxB.mp m
  exact ⟨d, rfl⟩) (λ d => rfl)
 rw [zD, zD, hl] at hz
 have lj := h.lj
 have lk1 := lcK h.k1
 have pN : ∀ a, InR P.N a -> InR P.N (rAt F a) := λ a ha => (rowAt hR ha).2
 have pi : ∀ a a', InR P.N a -> InR P.N a' -> rAt F a = rAt F a' -> a = a' := λ a a' ha ha' e => zjK hF ha ha' e
 obtain ⟨J, e15, e16, e17, hf, t1, t2⟩ := zlc (v := 15) (K := P.N) (n := P.N) (L := P.N) (M := P.N) (S := λ T x y z => Z P e11 (sT (zq F)) e13 (some (Wz T)) x y z none none none none none none none none none none) (f := rAt F) (g := rAt F) (w := λ a b => rAt F (P.j a b)) (F := wH (yX Ye xq) zjB (zE (zJ true 17 (f2 (zO (aC xU (aC Zk (aC (f2 Zv wF zm) (aC (f2 YB wF zm) aN)))) zN) wF zY))
  (zE (zJ true 17 (f2 zeY (zO (aC zfS (aC wF (aC (f2 Zv wF zx) (aC (f2 YB wF zx) aN)))) zN) zK))
  (Vm 14 (xAt 12 (xV 15)) (xAt 12 (xV 16)) (xAt 12 (xV 17)))))) (x0 := none) (y0 := none) (z0 := none) pN pi pN (λ _ _ _ _ _ => rfl) (λ T a y z hT ha => by
   obtain ⟨T', y', z', k1, k2, k3, k4⟩ := zor (v := 16) (K := P.N) (n := P.N) (L := P.N) (S := λ T y z => Z P e11 (sT (zq F)) e13 (some (Wz T)) (sI a) y z none none none none none none none none none none) (p := rAt F a) (g := rAt F) (w := λ b => rAt F (P.j a b)) (f := (zE (zJ true 17 (f2 (zO (aC xU (aC Zk (aC (f2 Zv wF zm) (aC (f2 YB wF zm) aN)))) zN) wF zY))
  (zE (zJ true 17 (f2 zeY (zO (aC zfS (aC wF (aC (f2 Zv wF zx) (aC (f2 YB wF zx) aN)))) zN) zK))
  (Vm 14 (xAt 12 (xV 15)) (xAt 12 (xV 16)) (xAt 12 (xV 17)))))) (x0 := y) (y0 := z) (pN a ha) pN pi (λ b hb => pN _ (lj.cl a b ha hb)) (λ _ _ _ _ => rfl) (λ T b z hT hb => by
   have ua := zaB p2 ha
   have ub := zaB p2 hb
   have c1 := lk1.cl _ _ ua.1 ub.1
   have j1 := VH h.k1 ua.1 ub.1
   have j2 := VH h.k2 ua.2 ub.2
   have b2 : (P.n2 : Int).natAbs < big := zZ (by omega) (by omega)
   have s1 := xQ (st := true) (i := 17) (as := Z P e11 (sT (zq F)) e13 (some (Wz T)) (sI a) (sI b) z none none none none none none none none none none) (vW (Yg (zG (zb (i := 5) rfl) (zG (zb (i := 6) rfl) (zG (wj (zb (i := 15) rfl) (zb (i := 8) rfl) (by omega) b2) (zG (wj (zb (i := 16) rfl) (zb (i := 8) rfl) (by omega) b2) zX)))) j1) (zb (i := 8) rfl) (zZ (by have := c1.1; omega) (by have := c1.2; omega)) b2) (zL rfl)
   have s2 := xQ (st := true) (i := 17) (as := Z P e11 (sT (zq F)) e13 (some (Wz T)) (sI a) (sI b) (sI (jK P.k P.n (a / P.n2) (b / P.n2) * P.n2)) none none none none none none none none none none) (yN (zb (i := 17) rfl) (Yg (zG (zb (i := 7) rfl) (zG (zb (i := 8) rfl) (zG (yt (zb (i := 15) rfl) (zb (i := 8) rfl) (by omega)) (zG (yt (zb (i := 16) rfl) (zb (i := 8) rfl) (by omega)) zX)))) j2)) (zL rfl)
   exact ⟨_, zU s1 (zU s2 (zln (i := 14) (T := T) hT (pN a ha) (pN b hb) (zon (i := 12) rfl (zfE (i := 15) rfl) hR ha) (zon (i := 12) rfl (zfE (i := 16) rfl) hR hb) (zon (i := 12) rfl (zfE (i := 17) rfl) hR (lj.cl a b ha hb)) rfl))⟩) hT
   refine ⟨T', y', z', ?_, k2, k3, k4⟩
   rw [zlA (v := 10) (n := P.N) rfl (by omega)]
   exact k1) (zkz N1)
 refine Za (wX (i := 14) hz (zL rfl)) (Za (wO (wR (zG (zb (i := 10) rfl) zX) (by omega) (by omega)) (by rw [zyF]; exact hf)) (K J e15 e16 e17 t1))
open L2 (zW)
abbrev Y (P : Par) (F : List Int) (J : TZ) (e11 e16 : Option O) (ss : List Str) (os : List O) (e13 e15 e17 e20 e21 e22 e23 : Option O) : AS := Z P e11 (sT (zq F)) e13 (some (Wz J)) e15 e16 e17 (sT (.lst (ss.map D.str))) (sN os) e20 e21 e22 e23 none none none none
theorem zoL {P : Par} (hw : P.w = 0) {F : List Int} {J : TZ} {e11 e13 e15 e16 e17 : Option O} {b f : SF} {Q : D -> Prop}
 (K : ∀ ss : List Str, ss.length = 10 -> ss.Nodup -> Rq (f (Y P F J e11 e16 ss [] e13 e15 e17 none none none none)) Q) :
 Rq ((zE (zJ true 18 (zO (aC (f2 yg zoa zm) (aC zmK aN)) xJ))
 (zE (zJ false 19 (xg dN))
 (zE (wH (yX Va xq) zdi b)
 f))) (Z P e11 (sT (zq F)) e13 (some (Wz J)) e15 e16 e17 none none none none none none none none none none)) Q := by
 obtain ⟨ss, s1, s2, s3⟩ := zkD (c := P.h / 7)
 exact Za (Yy (p := 18) (zfI (WD.e (wj (zb (i := 1) rfl) (zp (x := .int 7)) (by decide) (zZ (by decide) (by decide)))) (WD.e (zp (x := .int 10))) s3) (zL rfl)) (Za (wX (i := 19) (YH yM (szl rfl)) (zL rfl)) (Za (wO (wR (zG (zb (i := 2) rfl) zX) (by rw [hw]; decide) (by rw [hw]; decide)) (by rw [hw]; rfl)) (K ss s1 s2)))
def held (n : Nat) (b : Int) : List Int := ((List.range n).filter λ i => b / 2 ^ i % 2 == 1).map λ (i : Nat) => (i : Int)
abbrev sgO (p : Str × List Int) : O := .lf true (wu p)
theorem zdB : ∀ S : SS, (S.map sgO).all O.isLf = true /\ O.strs (S.map sgO) = true /\ O.toDs (S.map sgO) = S.map wu
 | [] => ⟨rfl, rfl, rfl⟩
 | p :: r => ⟨(zdB r).1, (zdB r).2.1, congrArg (wu p :: ·) (zdB r).2.2⟩
theorem zjQ {os : List O} (hs : O.strs os = true) : (Z0 os).str = true /\ (Z0 os).toD = .tup (O.toDs os) := by
 unfold Z0
 split
 · exact ⟨hs, rfl⟩
 · exact ⟨hs, rfl⟩
theorem zqa {P : Par} (h : POk P) {b : Int} {as : AS} (h1 : as[10]? = some (sI P.N)) (h2 : ∀ d : D, gN 0 (true, d) (ZP [none, some 25] as) = some [sT d, sI b]) :
 WE (yj (yX Ye xq) [none, some 25] wQ (fT (f2 (f2 (f2 yg (f2 yD zR zct) zm) xT zx) yD yE)) zR) as (zq (held P.N b)) := by
 have N8 : P.N <= 8 := h.n8
 have := zgp (as := as) (h := λ (i : Nat) => D.int i) (p := λ i => b / 2 ^ i % 2 == 1) (it := λ (i : Nat) => (true, D.int (0 + (i : Int)))) (fi := yX Ye xq) (cap := [none, some 25]) (gg := gN 0) (tt := fT (f2 (f2 (f2 yg (f2 yD zR zct) zm) xT zx) yD yE)) (fe := fV 0) (List.range P.N) (by
  have := wR (zG (zb (i := 10) h1) zX) (show (0 : Int) <= P.N by omega) (by omega)
  rw [zyF] at this
  exact this) (by rw [zyR]; omega) (λ i hi => by
   have hi := List.mem_range.mp hi
   rw [Int.zero_add]
   have p0 : (0 : Int) < 2 ^ i := Int.pow_pos (by decide)
   have p1 : (2 : Int) ^ i < 1000 := by
    rcases (show i = 0 \/ i = 1 \/ i = 2 \/ i = 3 \/ i = 4 \/ i = 5 \/ i = 6 \/ i = 7 by omega) with rfl | rfl | rfl | rfl | rfl | rfl | rfl | rfl <;> decide
   have ws : WD (f2 yD zR zct) [sI i, sI b] true (.int (2 ^ i)) := yO zp (zb (i := 0) rfl) (by
    show (if (0 : Int) <= i /\ (i : Int) <= 1000000 /\ (1 : Int).natAbs < 2 ^ 64 then some (R0.im (.int (1 * 2 ^ (i : Int).toNat))) else none) = _
    rw [if_pos ⟨by omega, by omega, by decide⟩, zyF, Int.one_mul]) rfl
   exact ⟨[sI i, sI b], h2 _, eqT (yt (wj (zb (i := 1) rfl) ws p0 (zZ (by omega) (by omega))) zp (by decide)) zp rfl, λ _ => WD.e (zb (i := 0) rfl)⟩)
 unfold held
 rw [show D.lst (((List.range P.N).filter λ i => b / 2 ^ i % 2 == 1).map λ (i : Nat) => D.int i) = zq (((List.range P.N).filter λ i => b / 2 ^ i % 2 == 1).map λ (i : Nat) => (i : Int)) by show _ = D.lst _; rw [zzY]; rfl] at this
 exact this
abbrev V (P : Par) (F : List Int) (J : TZ) (ss : List Str) (os : List O) (e11 e15 e16 e17 e20 e21 e22 e23 : Option O) (S : SS) (e13 e25 e26 e27 : Option O) : AS := Z P e11 (sT (zq F)) e13 (some (Wz J)) e15 e16 e17 (sT (.lst (ss.map D.str))) (sN os) e20 e21 e22 e23 (sN (S.map sgO)) e25 e26 e27
abbrev sgB : SF := (zE (zJ true 25 (f2 xF (f2 zpS YD zK) ixP))
 (zE (zJ true 26 (yj (yX Ye xq) [none, some 25] wQ (fT (f2 (f2 (f2 yg (f2 yD zR zct) zm) xT zx) yD yE)) zR))
 (ww (vg 24 (dC (Zo (dC (f2 zkT (f2 YD (f2 Zj (f2 (f2 znk (fC (.int 512)) zm) xT zx) zY) zK) ixP) (dC zmQ dN))) dN) vC))))
abbrev SgI (P : Par) (ss : List Str) (i : Nat) (S : SS) : Prop := S.length = i /\ (S.map (·.1)).Nodup /\ ∀ p ∈ S, (∃ b, p.2 = held P.N b) /\ ∃ j, j % 4 < i /\ j < 7 /\ ss[j]? = some p.1
theorem zjc {P : Par} (h : POk P) {F : List Int} {J : TZ} {ss : List Str} (hs : ss.length = 10) (hn : ss.Nodup) {os : List O} {e11 e15 e16 e17 e20 e21 e22 e23 e25 e26 e27 : Option O} {S : SS} {i : Nat} (hi : i < 3) (hI : SgI P ss i S) :
 ∃ (S' : SS) (e25' e26' : Option O), sgB (V P F J ss os e11 e15 e16 e17 e20 e21 e22 e23 S (sI i) e25 e26 e27) = some (.nx (V P F J ss os e11 e15 e16 e17 e20 e21 e22 e23 S' (sI i) e25' e26' e27)) /\ SgI P ss (i + 1) S' := by
 obtain ⟨i1, i2, i3⟩ := hI
 obtain ⟨b, a1, b1⟩ := at2 h.yS (k := 9 + i) (by omega) (by rw [h.yl]; omega)
 have q0 := zyK (b / 512) (show (2 : Int) ≠ 0 by decide)
 have q1 := zyE (b / 512) (show (0 : Int) < 2 by decide)
 have hw := zqa h (b := b) (as := V P F J ss os e11 e15 e16 e17 e20 e21 e22 e23 S (sI i) (sI b) e26 e27) rfl (λ d => rfl)
 obtain ⟨j, ej⟩ : ∃ j : Nat, (j : Int) = (i : Int) + 4 * (b / 512 % 2) := ⟨((i : Int) + 4 * (b / 512 % 2)).toNat, by omega⟩
 have hj : ss[j]? = some (ss[j]'(by omega)) := zzB (by omega)
 have wi := yN (as := V P F J ss os e11 e15 e16 e17 e20 e21 e22 e23 S (sI i) (sI b) (sT (zq (held P.N b))) e27) (zb (i := 13) (x := .int i) (s := true) rfl) (vW (zp (x := .int 4)) (yt (wj (zb (i := 25) rfl) (zp (x := .int 512)) (by decide) (zZ (by decide) (by decide))) (zp (x := .int 2)) (by decide)) (zZ (by decide) (by decide)) (zZ (by omega) (by omega)))
 rw [<- ej] at wi
 have ap := VN (i := 24) (os0 := S.map sgO) (os := S.map sgO) (as := V P F J ss os e11 e15 e16 e17 e20 e21 e22 e23 S (sI i) (sI b) (sT (zq (held P.N b))) e27) rfl (zgE (xf (zcC (zb (i := 18) rfl) wi (zfH hj)) (xf (zb (i := 26) rfl) yM)) (szl rfl)) rfl (by rw [zD, i1]; exact zW (by omega))
 rw [show S.map sgO ++ [Z0 [O.lf true (.str (ss[j]'(by omega))), O.lf true (zq (held P.N b))]] = (S ++ [((ss[j]'(by omega)), held P.N b)]).map sgO by rw [zyJ]; rfl] at ap
 refine ⟨_, _, _, zU (xQ (i := 25) (yO (zb (i := 4) rfl) (yN zp (zb (i := 13) rfl)) a1 rfl) (zL rfl)) (zU (Yy (p := 26) hw (zL rfl)) ap), by rw [zzG, i1]; rfl, ?_, λ p m => ?_⟩
 · rw [zyJ]
   refine zxC.mpr ⟨i2, zzT.mpr ⟨zyZ, zyG⟩, λ x mx y my e => ?_⟩
   obtain ⟨p, mp, rfl⟩ := zxB.mp mx
   obtain ⟨_, j', j1, j2, j3⟩ := i3 p mp
   have my := zzO.mp my
   subst my
   have hj' := zzD.mp j3
   obtain ⟨l', e'⟩ := hj'
   have : ss[j'] = ss[j]'(by omega) := e'.trans e
   have := (List.getElem_inj hn).mp this
   omega
 · rcases zzJ.mp m with m | m
   · obtain ⟨z1, j', j1, j2, j3⟩ := i3 p m
     exact ⟨z1, j', by omega, j2, j3⟩
   · rw [zzO.mp m]
     exact ⟨⟨b, rfl⟩, j, by omega, by omega, hj⟩
theorem zkw {P : Par} (h : POk P) {F : List Int} (hF : F.Perm (zcR P.N)) {J : TZ} {ss : List Str} (hs : ss.length = 10) (hn : ss.Nodup) {e11 e13 e15 e16 e17 e20 e21 e22 e23 : Option O} :
 ∃ S : SS, S.length <= 3 /\ (S.map (·.1)).Nodup /\ (∀ p ∈ S, ∃ b, p.2 = held P.N b) /\ Rt ((zE (zJ false 24 (xg dN))
 (zE (wH (yX (aC Xv aN) xq) zdi sgB)
 (zE (zJ true 27 (f2 zaJ (f2 (xg (dC wk (dC wF dN))) (fP (aC (f2 xU Xv yE) aN) Yz) ixP) ixP))
 (yZ (Zo (dC vX (dC zcO (dC zbZ (dC zjU (dC zkh (dC (fSl zju oN (oS (f2 (f2 xF zgT ixP) Zj zx)) slP) dN)))))))))))
 (Y P F J e11 e16 ss [] e13 e15 e17 e20 e21 e22 e23)) (znD P.N P.m J (rAt F P.e) ([] : DD) S) := by
 obtain ⟨hR, _⟩ := VR hF
 obtain ⟨as', hf, S, a13, a25, a26, rfl, i1, i2, i3⟩ := xx (g := gN 13) (f := sgB)
  (λ i as => ∃ (S : SS) (e13 e25 e26 : Option O), as = V P F J ss [] e11 e15 e16 e17 e20 e21 e22 e23 S e13 e25 e26 none /\ SgI P ss i S)
  (wI 0 3) 0 (V P F J ss [] e11 e15 e16 e17 e20 e21 e22 e23 [] e13 none none none) (λ i x as hx hI => by
   obtain ⟨S, e13, e25, e26, rfl, hI⟩ := hI
   obtain ⟨rfl, hi⟩ := vQ hx
   rw [zyV] at hI
   rw [Int.zero_add, zyV]
   obtain ⟨S', a, b, k1, k2⟩ := zjc (F := F) (J := J) (os := []) (e11 := e11) (e15 := e15) (e16 := e16) (e17 := e17) (e20 := e20) (e21 := e21) (e22 := e22) (e23 := e23) (e25 := e25) (e26 := e26) (e27 := none) h hs hn hi hI
   exact ⟨_, rfl, _, k1, S', _, _, _, rfl, k2⟩)
  ⟨[], _, _, _, rfl, rfl, zyG, λ _ m => nomatch m⟩
 rw [wG] at i1
 obtain ⟨y, y1, y2⟩ := at2 h.yS (k := 12) (by omega) (by rw [h.yl]; omega)
 have q0 := zyK y (show (4 : Int) ≠ 0 by decide)
 have q1 := zyE y (show (0 : Int) < 4 by decide)
 obtain ⟨g1, g2, g3⟩ := zdB S
 have ce := h.lj.ce
 have ee : (if (P.k == 3) = true then (P.n2 : Int) else 0) = P.e := by
  show _ = eK P.k * P.n2 + eK P.k2
  rw [h.e2]
  unfold eK
  by_cases hk : P.k = 3 <;> simp [hk]
 have wE : WD (f2 (xg (dC wk (dC wF dN))) (fP (aC (f2 xU Xv yE) aN) Yz) ixP) (V P F J ss [] e11 e15 e16 e17 e20 e21 e22 e23 S a13 a25 a26 none) true (.int P.e) := by
  rw [<- ee]
  exact f2E (Zd (os := [lfI 0, lfI P.n2]) (xf zp (xf (zb (i := 8) rfl) yM)) (szl rfl) rfl rfl) (WD.e (Zf (x := .int (if (P.k == 3) = true then 1 else 0)) (zG (zaS (c := P.k == 3) (zb (i := 5) rfl) zp rfl) zX) rfl rfl)) zjj
 have s27 := xQ (st := true) (i := 27) (yO (zb (i := 12) rfl) wE (rowAt hR ce).1 rfl) (zL rfl)
 have hfJ := zlN J
 have hfD : (O.nd .ls ([] : List O)).frz = .lf true (.lst (([] : DD).map zcg)) := rfl
 have wy : oS (f2 (f2 xF zgT ixP) Zj zx) ((V P F (J) ss [] e11 e15 e16 e17 e20 e21 e22 e23 S a13 a25 a26 (sI (rAt F P.e))).set 14 (some (Wz J).frz) |>.set 19 (some (O.nd .ls []).frz)) = some (some (y % 4), _) := znz (yt (yO (zb (i := 4) rfl) zp y1 rfl) zp (by decide))
 have sl := zop (as := (V P F (J) ss [] e11 e15 e16 e17 e20 e21 e22 e23 S a13 a25 a26 (sI (rAt F P.e))).set 14 (some (Wz J).frz) |>.set 19 (some (O.nd .ls []).frz)) (i := 24) (os := S.map sgO) (fl := oN) (lo := none) rfl g1 g2 rfl wy
 have ct := znY (xs := (S.take (y % 4).toNat).map wu) (ys := (S.drop (y % 4).toNat).map wu)
 rw [<- zyJ, List.take_append_drop, zD, zzP, Nat.min_eq_left (by omega), show (((y % 4).toNat : Nat) : Int) = y % 4 by omega] at ct
 have ct : cutD (S.map wu) none (some (y % 4)) = (S.take (y % 4).toNat).map wu := by
  injection ct with ct
  injection ct
 rw [g3, ct] at sl
 have w0 : (dC vX (dC zcO (dC zbZ (dC zjU (dC zkh (dC (fSl zju oN (oS (f2 (f2 xF zgT ixP) Zj zx)) slP) dN)))))) (V P F J ss [] e11 e15 e16 e17 e20 e21 e22 e23 S a13 a25 a26 (sI (rAt F P.e))) = some (_, _) :=
  wW (zb (i := 10) rfl) (wW (zb (i := 9) rfl) (zgi (j := 14) (ps := J.map zaa) rfl (wW (zb (i := 27) rfl) (zgi (j := 19) (ps := []) rfl (wW sl rfl)))))
 have hfin := zhF w0 (szl rfl)
 rw [hfJ, hfD] at hfin
 have ms := zjQ (os := [lfI P.N, lfI P.m, .lf true (ZQ J), lfI (rAt F P.e), .lf true (.lst (([] : DD).map zcg)), .nd .ls (((S.take (y % 4).toNat).map wu).map (O.lf true))]) (by
  show (O.strs (((S.take (y % 4).toNat).map wu).map (O.lf true)) && true) = true
  rw [V4]; rfl)
 have rt := zhP hfin ms.1
 refine ⟨S.take (y % 4).toNat, by rw [zzP]; omega, ?_, λ p m => (i3 p (List.mem_of_mem_take m)).1, yf (wX (i := 24) (YH yM (szl rfl)) (zL rfl)) (yf (wO (wR (j := 3) (zG zp zX) (by decide) (by decide)) hf) (yf s27 ⟨_, rt, ms.1, ms.2.trans ?_⟩))⟩
 · rw [List.map_take]; exact i2.sublist (List.take_sublist _ _)
 · show D.tup [.int P.N, .int P.m, ZQ J, .int (rAt F P.e), .lst (([] : DD).map zcg), .lst (O.toDs (((S.take (y % 4).toNat).map wu).map (O.lf true)))] = _
   rw [Vl]
theorem zgq {c h : Int} : ∃ n m J e S, (1 <= n /\ n <= 8 /\ Tab n n J /\ InR n e /\ S.length <= 3 /\ (S.map (·.1)).Nodup) /\ RE (wM [(true, .int c), (true, .int h), (true, .int 0)]) (znD n m J e [] S) := by
 obtain ⟨x, hr, n, m, J, e, S, h1, rfl⟩ : Rq (Yi (vG 28 [(true, .int c), (true, .int h), (true, .int ((0 : Nat) : Int))])) (λ x => ∃ n m J e S, (1 <= n /\ n <= 8 /\ Tab n n J /\ InR n e /\ S.length <= 3 /\ (S.map (·.1)).Nodup) /\ x = znD n m J e [] S) := by
  refine zlF (by decide) λ P hP hw' hh => zjt hP λ F e11 e13 hF => zlS hP hF λ J e15 e16 e17 hJ => zoL hw' λ ss s1 s2 => ?_
  obtain ⟨S, q1, q2, q3, q4⟩ := zkw hP hF (J := J) s1 s2 (e11 := e11) (e13 := e13) (e15 := e15) (e16 := e16) (e17 := e17) (e20 := none) (e21 := none) (e22 := none) (e23 := none)
  exact ⟨_, q4, P.N, P.m, J, rAt F P.e, S, ⟨hP.N1, hP.n8, hJ, (rowAt (VR hF).1 hP.lj.ce).2, q1, q2⟩, rfl⟩
 exact ⟨n, m, J, e, S, h1, WW rfl hr⟩
def VV (f : EF) (as : AS) (d : D) : Prop := ∃ rv lv, f as = some (rv, as) /\ rv.frz.view as = some (d, some lv)
theorem vJ {f : EF} {as : AS} {s : Bool} {d : D} (h : WD f as s d) : VV f as d := ⟨.ow (.lf s d), s, h, rfl⟩
theorem zqu {f : EF} {as : AS} {d : D} (h : WE f as d) : VV f as d := by
 obtain ⟨o, h1, h2, h3⟩ := h
 exact ⟨.ow o, o.str, h1, by rw [<- h3]; rfl⟩
theorem zqf {f : EF} {as : AS} {o : O} {d : D} (h : f as = some (.ow o, as)) (e : o.toD = d) : VV f as d := ⟨.ow o, o.str, h, by rw [<- e]; rfl⟩
theorem vf2 {a b : EF} {as : AS} {x y z : D} {g : D -> D -> Option R0} (ha : VV a as x) (hb : VV b as y) (hg : g x y = some (.im z)) (e : zH z = true) : WD (f2 a b g) as true z := by
 obtain ⟨ra, la, h1, h2⟩ := ha
 obtain ⟨rb, lb, h3, h4⟩ := hb
 unfold WD f2
 simp only [h1, h3, h2, h4, hg, zyI]
 show (if (zH z || true) = true then some (RV.ow (.lf (zH z || (la && lb)) z)) else none : Option RV).bind _ = _
 rw [e]; rfl
theorem vix {a b : EF} {as : AS} {x y z : D} (ha : VV a as x) (hb : VV b as y) (hg : ixP x y = some (.im z)) : ∃ s, WD (f2 a b ixP) as s z := by
 obtain ⟨ra, la, h1, h2⟩ := ha
 obtain ⟨rb, lb, h3, h4⟩ := hb
 refine ⟨zH z || (la && lb), ?_⟩
 unfold WD f2
 simp only [h1, h3, h2, h4, hg, zyI]
 show (if (zH z || true) = true then some (RV.ow (.lf (zH z || (la && lb)) z)) else none : Option RV).bind _ = _
 rw [if_pos (zyA _)]; rfl
open L2 (zW Key atI xY)
theorem zgD (ds : List D) : (ds.map (O.lf true)).all O.isLf = true := by
 rw [List.all_eq_true]
 intro x mx
 obtain ⟨d, _, rfl⟩ := zxB.mp mx
 rfl
theorem zeW {k : PF.Kind} (ds : List D) : (O.nd k (ds.map (O.lf true))).kl = some true := by
 show (if (ds.map (O.lf true)).all O.isLf = true then some (O.strs (ds.map (O.lf true))) else none) = _
 rw [if_pos (zgD ds), V4]
theorem zgx {as : AS} {i : Nat} {b : EF} {g : D -> D -> Option R0} {k : PF.Kind} {ds : List D} {X y z : D} (h : as[i]? = some (some (.nd k (ds.map (O.lf true))))) (hX : (O.nd k (ds.map (O.lf true))).toD = X) (hb : WE b as y) (hg : g X y = some (.im z)) : WE (f2 (fV i) b g) as z := by
 obtain ⟨o, h1, h2, rfl⟩ := hb
 have e2 : RV.view as (.bo i) = some (X, some true) := by rw [Y9 h, zeW, hX]
 have e3 : RV.view as (RV.ow o).frz = some (o.toD, some o.str) := by cases o <;> rfl
 refine ⟨.lf (zH z || true) z, ?_, zyA _, rfl⟩
 unfold f2
 simp only [W5 h, h1, zyI, RV.frz, e2]
 show ((RV.view as (RV.ow o).frz).bind _) = _
 rw [e3, h2]
 show ((g X o.toD).bind _) = _
 rw [hg]
 show ((if (zH z || true) = true then some (RV.ow (lfs true z)) else none : Option RV).bind _) = _
 rw [if_pos (zyA _)]; rfl
theorem zov {as : AS} {i : Nat} {a : EF} {g : D -> D -> Option R0} {k : PF.Kind} {ds : List D} {X x z : D} (ha : WD a as true x) (h : as[i]? = some (some (.nd k (ds.map (O.lf true))))) (hX : (O.nd k (ds.map (O.lf true))).toD = X) (hg : g x X = some (.im z)) : WE (f2 a (fV i) g) as z := by
 have e2 : RV.view as (.bo i) = some (X, some true) := by rw [Y9 h, zeW, hX]
 refine ⟨.lf (zH z || true) z, ?_, zyA _, rfl⟩
 unfold WD at ha
 unfold f2
 simp only [W5 h, ha, zyI, RV.frz, e2]
 show ((g x X).bind _) = _
 rw [hg]
 show ((if (zH z || true) = true then some (RV.ow (lfs true z)) else none : Option RV).bind _) = _
 rw [if_pos (zyA _)]; rfl
theorem zmU {f : EF} {as : AS} {c : Bool} (h : WE f as (.bl c)) : WD f as true (.bl c) := by
 obtain ⟨o, h1, h2, h3⟩ := h
 cases o with
 | lf st d =>
  have e1 : st = true := h2
  have e2 : d = .bl c := h3
  subst e1 e2
  exact h1
 | nd k os => cases k <;> cases h3
theorem zfw (ds : List D) : (O.nd .ls (ds.map (O.lf true))).toD = .lst ds := by
 show D.lst (O.toDs _) = _
 rw [Vl]
theorem zoh {as : AS} {i : Nat} {ds : List D} (h : as[i]? = some (sN (ds.map (O.lf true)))) : WD (fP (aC (fV i) aN) zbI) as true (.int (ds.length : Nat)) := by
 have e : views as [.bo i] = some ([.lst ds], some true) := by
  show (RV.view as (.bo i)).bind _ = _
  rw [Y9 h, zeW, zfw]; rfl
 unfold WD fP aC
 rw [W5 h]
 simp only [zyI, aN, RV.frz, e]
 rfl
abbrev kI (k : Int) : Key := .inl k
abbrev mp (K : List Int) (R : List (List Int)) : List (Key × D) := (K.map kI).zip (R.map zq)
abbrev dK (K : List Int) (R : List (List Int)) : Option O := some (.nd (.dc (K.map kI)) ((R.map zq).map (O.lf true)))
theorem zgB (K : List Int) (R : List (List Int)) : (O.nd (.dc (K.map kI)) ((R.map zq).map (O.lf true))).toD = .dct (mp K R) := by
 show D.dct ((K.map kI).zip (O.toDs _)) = _
 rw [Vl]
theorem X4 : ∀ {K : List Int} {R : List (List Int)} {i : Nat} {k : Int} {r : List Int}, K.Nodup -> K[i]? = some k -> R[i]? = some r -> vL (mp K R) (kI k) = some (zq r)
 | [], _, _, _, _, _, h, _ => by simp at h
 | _ :: _, [], _, _, _, _, _, h => by simp at h
 | x :: K, q :: R, 0, k, r, nd, h1, h2 => by
  simp at h1 h2
  subst h1 h2
  unfold vL
  show (((kI x, zq q) :: mp K R).find? _).map _ = _
  rw [List.find?_cons_of_pos (by simp)]; rfl
 | x :: K, q :: R, i + 1, k, r, nd, h1, h2 => by
  have n2 := zzT.mp nd
  have h1' : K[i]? = some k := by simpa using h1
  have ih := X4 n2.2 h1' (by simpa using h2)
  have ne : x ≠ k := λ e => n2.1 (by rw [e]; exact zzX h1')
  unfold vL at ih ⊢
  show (((kI x, zq q) :: mp K R).find? _).map _ = _
  rw [List.find?_cons_of_neg (by simp [ne])]
  exact ih
theorem zes : ∀ {K : List Int} {R : List (List Int)} {k : Int}, k ∉ K -> vL (mp K R) (kI k) = none
 | [], _, _, _ => rfl
 | _ :: _, [], _, _ => rfl
 | x :: K, q :: R, k, h => by
  have ih := zes (K := K) (R := R) λ z => h (zzA _ z)
  have ne : x ≠ k := λ e => h (by rw [e]; exact zzC)
  unfold vL at ih ⊢
  show (((kI x, zq q) :: mp K R).find? _).map _ = _
  rw [List.find?_cons_of_neg (by simp [ne])]
  exact ih
theorem zoN {K : List Int} {R : List (List Int)} {k : Int} (hl : K.length = R.length) (nd : K.Nodup) : Xh .NotIn (.int k) (.dct (mp K R)) = some (.im (.bl (!decide (k ∈ K)))) := by
 show ((some (vL (mp K R) (kI k)).isSome).bind λ b => some (blR !b)) = _
 by_cases h : k ∈ K
 · obtain ⟨i, hi⟩ := zyS h
   have hr := zzB (l := R) (i := i) (by rw [<- hl]; exact (zzD.mp hi).1)
   rw [X4 nd hi hr, zyL h]; rfl
 · rw [zes h, zyD h]; rfl
theorem zhv {k : Int} {K : List Int} (h : k ∉ K) : zgF (K.map kI) (kI k) = false := by
 unfold zgF
 rw [List.any_eq_false]
 intro q mq
 obtain ⟨x, mx, rfl⟩ := zxB.mp mq
 simpa using λ z : x = k => h (by rw [<- z]; exact mx)
theorem zml {as : AS} {fv : EF} {w : Int} {K : List Int} {R : List (List Int)} {r : List Int} (h2 : as[2]? = some (dK K R)) (h6 : as[6]? = some (sI w)) (hv : WE fv as (zq r)) (hn : w ∉ K) (hl : K.length <= 1000) :
 VG 2 Zk fv as = some (.nx (as.set 2 (dK (K ++ [w]) (R ++ [r])))) := by
 obtain ⟨o, q1, q2, q3⟩ := hv
 have e : zax as (.ow o) = some ((o.str, o.toD), as) := rfl
 have e1 : fV 6 as = some (.ow (.lf true (.int w)), as) := zb h6
 have e3 : (RV.ow (.lf true (.int w))).frz.view as = some (.int w, some true) := rfl
 have e4 : zcv (.int w) = some (kI w) := rfl
 unfold VG
 simp only [q1, zyI, e, h2, e1, e3, e4, zD, if_pos (show K.length < sizeLine from Nat.lt_of_le_of_lt hl (by decide))]
 unfold Xq ZX
 rw [zhv hn, q2, q3]
 simp only [Bool.false_eq_true, if_false, dK, zyJ, zyP, List.map_nil]
section
variable {n : Nat} {J : TZ} {A : D} {vs : List Int} {q : Bool}
abbrev L7 (q : Bool) (A : D) (vs K : List Int) (R : List (List Int)) (a : Nat) (e5 e6 : Option O) : AS := [some (.lf q A), sT (zq vs), dK K R, sN ((K.map D.int).map (O.lf true)), sI a, e5, e6]
abbrev lrF : SF := zE (zJ true 6 (f2 (f2 (f2 zR xT ixP) (f2 xW xF ixP) ixP) xU ixP))
 (sIf (fT (f2 Zk yJ zch)) (zE (VG 2 Zk (f2 (f2 yJ (f2 xW xF ixP) ixP) (xg (dC xU dN)) zK))
 (ww (vg 3 (dC Zk dN) vC))) sNx)
theorem zgY {K : List Int} {R : List (List Int)} {a : Nat} {k : Int} {e5 e6 : Option O} (hk : K[a]? = some k) : WE (f2 xW xF ixP) (L7 q A vs K R a e5 e6) (.int k) :=
 zgx (i := 3) (k := .ls) (ds := K.map D.int) rfl (zfw _) (WD.e (zb (i := 4) rfl)) (by show imR (atI (K.map D.int) (a : Int)) = _; rw [xY (v := D.int k) (by rw [zzF, hk]; rfl)]; rfl)
theorem zoQ {K : List Int} {R : List (List Int)} {a : Nat} {e6 : Option O} {dn rest : List Int} {v : Int} (hJ : Tab n n J) (n8 : n <= 8) (hA : ixP A (.int 2) = some (.im (ZQ J))) (hs : vs.Pairwise (· < ·)) (hR : ∀ x ∈ vs, InR n x) (hvs : vs = dn ++ v :: rest) (hB : Bs (jAt J) vs K R a dn) (hK : ∀ x ∈ K, InR n x) (hl : K.length <= 8) (hq : ∀ r ∈ R, r.length <= R.length) (ha : a < K.length) :
 ∃ K' R' e6', Bs (jAt J) vs K' R' a (dn ++ [v]) /\ (∀ x ∈ K', InR n x) /\ K.length <= K'.length /\ (∀ r ∈ R', r.length <= R'.length) /\ lrF (L7 q A vs K R a (sI v) e6) = some (.nx (L7 q A vs K' R' a (sI v) e6')) := by
 have hk := zzB ha
 have hr := zzB (l := R) (i := a) (by rw [<- hB.len]; exact ha)
 have kR := hK _ (zyX ha)
 generalize K[a] = k at hk kR
 generalize R[a]'(by rw [<- hB.len]; exact ha) = ra at hr
 have vR := hR v (by rw [hvs]; exact zzI _ zzC)
 obtain ⟨t1, t2⟩ := zaf hJ kR
 obtain ⟨w1, w2⟩ := rowAt t2 vR
 obtain ⟨z1, a2⟩ := vix (as := L7 q A vs K R a (sI v) e6) (vJ (zb (i := 0) rfl)) (vJ zp) hA
 obtain ⟨z2, a3⟩ := vix (vJ a2) (zqu (zgY hk)) t1
 have s6 := Yy (p := 6) (WD.e (vf2 (vJ a3) (vJ (zb (i := 5) rfl)) w1 rfl)) (zL rfl)
 have ew : rAt (zdA J k) v = jAt J k v := rfl
 rw [ew] at s6 w2
 have tn : WT (fT (f2 Zk yJ zch)) (L7 q A vs K R a (sI v) (sI (jAt J k v))) (!decide (jAt J k v ∈ K)) := vq (zmU (zov (i := 2) (zb (i := 6) rfl) rfl (zgB K R) (zoN hB.len hB.nd))) rfl
 by_cases hin : jAt J k v ∈ K
 · rw [zyL hin] at tn
   exact ⟨K, R, _, hB.skip hs hvs hk hr hin, hK, zzK _, hq, zU s6 (wN tn rfl)⟩
 · rw [zyD hin] at tn
   have rw2 : WE (f2 yJ (f2 xW xF ixP) ixP) (L7 q A vs K R a (sI v) (sI (jAt J k v))) (zq ra) := zgx (i := 2) rfl (zgB K R) (zgY hk) (by show imR (vL (mp K R) (kI k)) = _; rw [X4 hB.nd hk hr]; rfl)
   have hrl := hq ra (zzX hr)
   have hkr := hB.len
   have cat := zpE (g := zak .Add) rw2 (Zd (os := [lfI v]) (x := .lst [.int v]) (xf (zb (i := 5) rfl) yM) (szl rfl) rfl rfl) (add_lists (szs (by rw [zD]; show _ + 1 <= _; omega)))
   rw [show ra.map D.int ++ [D.int v] = (ra ++ [v]).map D.int by rw [zyJ]; rfl] at cat
   have d1 := zml (as := L7 q A vs K R a (sI v) (sI (jAt J k v))) rfl rfl cat hin (by omega)
   have d2 := VN (as := [some (.lf q A), sT (zq vs), dK (K ++ [jAt J k v]) (R ++ [ra ++ [v]]), sN ((K.map D.int).map (O.lf true)), sI a, sI v, sI (jAt J k v)]) (i := 3) (a := fV 6) rfl (zb (i := 6) rfl) rfl (by rw [zD, zD]; exact zW (by omega))
   have e3 : ((K ++ [jAt J k v]).map D.int).map (O.lf true) = (K.map D.int).map (O.lf true) ++ [.lf true (.int (jAt J k v))] := by rw [zyJ, zyJ]; rfl
   refine ⟨K ++ [jAt J k v], R ++ [ra ++ [v]], sI (jAt J k v), hB.put hs hvs hk hr hin, λ x mx => (zzJ.mp mx).elim (hK x) λ mx => by rw [zzO.mp mx]; exact w2, by rw [zzG]; omega, λ r mr => ?_, zU s6 (v4 tn (zU d1 ?_))⟩
   · rw [zzG]
     rcases zzJ.mp mr with mr | mr
     · have := hq r mr; show _ <= _ + 1; omega
     · rw [zzO.mp mr, zzG]; show _ + 1 <= _ + 1; omega
   · show _ = some (Out.nx [some (.lf q A), sT (zq vs), dK (K ++ [jAt J k v]) (R ++ [ra ++ [v]]), sN (((K ++ [jAt J k v]).map D.int).map (O.lf true)), sI a, sI v, sI (jAt J k v)])
     rw [e3]
     exact d2
theorem zaT {K : List Int} (nd : K.Nodup) (h : ∀ x ∈ K, InR n x) : K.length <= n := by
 have := nd.length_le_of_subset (l₂ := zcR n) λ x mx => zxB.mpr ⟨x.toNat, List.mem_range.mpr (by have := h x mx; omega), by have := (h x mx).1; omega⟩
 rw [zD, zyR] at this
 exact this
theorem zpb {K : List Int} {R : List (List Int)} {a : Nat} {e5 e6 : Option O} (hJ : Tab n n J) (n8 : n <= 8) (hA : ixP A (.int 2) = some (.im (ZQ J))) (hs : vs.Pairwise (· < ·)) (hR : ∀ x ∈ vs, InR n x) (hB : Bs (jAt J) vs K R a []) (hK : ∀ x ∈ K, InR n x) (hq : ∀ r ∈ R, r.length <= R.length) (ha : a < K.length) :
 ∃ K' R' e5' e6', Bs (jAt J) vs K' R' (a + 1) [] /\ (∀ x ∈ K', InR n x) /\ a < K'.length /\ (∀ r ∈ R', r.length <= R'.length) /\ wH (Vk yg) Vb lrF (L7 q A vs K R a e5 e6) = some (.nx (L7 q A vs K' R' a e5' e6')) := by
 obtain ⟨as', hf, K', R', e5', e6', rfl, B', hK', ha', hq'⟩ := xx (g := gN 5) (f := lrF) (λ i as => ∃ K' R' e5' e6', as = L7 q A vs K' R' a e5' e6' /\ Bs (jAt J) vs K' R' a (vs.take i) /\ (∀ x ∈ K', InR n x) /\ a < K'.length /\ ∀ r ∈ R', r.length <= R'.length) ((vs.map D.int).map λ d => (true, d)) 0 (L7 q A vs K R a e5 e6) (λ i x as hx hI => by
  obtain ⟨K', R', e5', e6', rfl, B', hK', ha', hq'⟩ := hI
  rw [zzY, zzF] at hx
  cases hv : vs[i]? with
  | none => rw [hv] at hx; cases hx
  | some v =>
   rw [hv] at hx
   cases hx
   have hi : i < vs.length := (zzD.mp hv).1
   have hsp : vs = vs.take i ++ v :: vs.drop (i + 1) := by
    have := List.take_append_drop i vs
    rw [zyN hi] at this
    rw [zzB hi] at hv
    cases hv
    exact this.symm
   rw [zyV] at B' ⊢
   obtain ⟨K2, R2, e6'', B2, hK2, hl2, hq2, st⟩ := zoQ (A := A) (e6 := e6') hJ n8 hA hs hR hsp B' hK' (zzL (zaT B'.nd hK') n8) hq' ha'
   refine ⟨L7 q A vs K' R' a (sI v) e6', rfl, _, st, K2, R2, _, _, rfl, ?_, hK2, by omega, hq2⟩
   rw [List.take_succ, hv]; exact B2) ⟨K, R, e5, e6, rfl, hB, hK, ha, hq⟩
 rw [zD, zD, zyV, List.take_length] at B'
 exact ⟨K', R', e5', e6', B'.next ha', hK', ha', hq', wO (zhg (zb (i := 1) rfl)) hf⟩
theorem zqx (hJ : Tab n n J) (n8 : n <= 8) (hA : ixP A (.int 2) = some (.im (ZQ J))) (hs : vs.Pairwise (· < ·)) (hR : ∀ x ∈ vs, InR n x) (F : Nat) : ∀ (t a : Nat) (K : List Int) (R : List (List Int)) (e5 e6 : Option O), 9 <= a + t -> t < F -> a <= K.length -> Bs (jAt J) vs K R a [] -> (∀ x ∈ K, InR n x) -> (∀ r ∈ R, r.length <= R.length) ->
 ∃ K' R' e5' e6', Bs (jAt J) vs K' R' K'.length [] /\ (∀ x ∈ K', InR n x) /\ (∀ r ∈ R', r.length <= R'.length) /\ whL (fT (f2 xF (fP zbo zbI) zhe)) (zE (wH (Vk yg) Vb lrF) (zit 4 1)) F (L7 q A vs K R a e5 e6) = some (.nx (L7 q A vs K' R' K'.length e5' e6')) := by
 induction F with
 | zero => exact λ t a K R e5 e6 _ hf => absurd hf (Nat.not_lt_zero _)
 | succ F ih =>
  intro t a K R e5 e6 ht hf ha hB hK hq
  have hl := zaT hB.nd hK
  have lt : WD (f2 xF (fP zbo zbI) zhe) (L7 q A vs K R a e5 e6) true (.bl (decide ((a : Int) < ((K.map D.int).length : Nat)))) := zkl (zb (i := 4) rfl) (zoh (i := 3) rfl)
  rw [zD] at lt
  by_cases hlt : a < K.length
  · rw [zyL (Int.ofNat_lt.mpr hlt)] at lt
    obtain ⟨K', R', e5', e6', B', hK', ha', hq', st⟩ := zpb (e5 := e5) (e6 := e6) hJ n8 hA hs hR hB hK hq hlt
    have au : zit 4 1 (L7 q A vs K' R' a e5' e6') = some (.nx (L7 q A vs K' R' (a + 1) e5' e6')) := rfl
    obtain ⟨K2, R2, f5, f6, B2, hK2, hq2, w2⟩ := ih (t - 1) (a + 1) K' R' e5' e6' (by omega) (by omega) ha' B' hK' hq'
    exact ⟨K2, R2, f5, f6, B2, hK2, hq2, zoe (vq lt rfl) (zU st au) w2⟩
  · rw [zyD (λ z => hlt (Int.ofNat_lt.mp z))] at lt
    have e : a = K.length := by omega
    subst e
    exact ⟨K, R, e5, e6, hB, hK, hq, zpn (vq lt rfl)⟩
theorem zht : ∀ l : List Int, Yq (l.map λ v => .tup [.int v, zq [v]]) = some (mp l (l.map λ v => [v]))
 | [] => rfl
 | v :: l => by
  show (Yq (l.map λ v => .tup [.int v, zq [v]])).bind _ = _
  rw [zht l]; rfl
theorem WK (hJ : Tab n n J) (n8 : n <= 8) (hA : ixP A (.int 2) = some (.im (ZQ J))) (hs : vs.Pairwise (· < ·)) (hR : ∀ x ∈ vs, InR n x) : ∃ K R, Bs (jAt J) vs K R K.length [] /\ (∀ x ∈ K, InR n x) /\ (∀ r ∈ R, r.length <= R.length) /\ wC [(q, A), (true, zq vs)] = some (.nd (.dc (K.map kI)) ((R.map zq).map (O.lf true))) := by
 have hB := Bs.start (f := jAt J) hs
 have hvl := zaT hB.nd hR
 have c : WE (yj (Yn yg) [none] wQ xX (Zo (dC zR (dC (xg (dC zR dN)) dN)))) [some (.lf q A), sT (zq vs), none, none, none, none, none] (.lst (vs.map λ v => .tup [.int v, zq [v]])) := zdO (h := λ v => .tup [.int v, zq [v]]) (it := λ v => (true, D.int v)) vs (by rw [zgR (WD.e (zb (i := 1) rfl)), zzY]; rfl) (by omega) λ v mv => ⟨[sI v], rfl, zdQ (WD.e (zb (i := 0) rfl)) (Zd (os := [lfI v]) (xf (zb (i := 0) rfl) yM) (szl rfl) rfl rfl)⟩
 have k := zne (g := zbJ) (Xu c (zX (as := [some (.lf q A), sT (zq vs), none, none, none, none, none]))) (kvs := mp vs (vs.map λ v => [v])) (by
  show (Yq (vs.map λ v => .tup [.int v, zq [v]])).bind _ = _
  rw [zht]
  refine if_pos ?_
  rw [List.map_fst_zip (by rw [zD, zD, zD]; exact zzK _)]
  exact List.pairwise_map.mpr (hB.nd.imp λ h z => h (Sum.inl.inj z)))
 rw [show ([(true, D.lst (vs.map λ v => .tup [.int v, zq [v]]))].all (·.1)) = true from rfl, Vr, List.map_fst_zip (by rw [zD, zD, zD]; exact zzK _), List.map_snd_zip (by rw [zD, zD, zD]; exact zzK _)] at k
 obtain ⟨K, R, e5, e6, B', hK, hq, hw⟩ := zqx (A := A) hJ n8 hA hs hR 10000 9 0 vs (vs.map λ v => [v]) none none (by omega) (by omega) (Nat.zero_le _) hB hR λ r mr => by
  obtain ⟨v, mv, rfl⟩ := zxB.mp mr
  rw [zD]
  exact List.length_pos_of_mem mv
 refine ⟨K, R, B', hK, hq, Z8 rfl (zU (wX (i := 2) k (zL rfl)) (zU (wX (i := 3) (ziW (g := lstP) (WD.e (zb (i := 1) rfl)) rfl) (zL rfl)) (zU (xQ (i := 4) zp (zL rfl)) (zU hw (zbw (i := 2) rfl (V4 _))))))⟩
end
theorem zjR : ∀ {a b : List Int}, a.length = b.length -> ltI b a = false -> a = b \/ ltI a b = true
 | [], [], _, _ => .inl rfl
 | [], _ :: _, e, _ => by simp at e
 | _ :: _, [], e, _ => by simp at e
 | x :: a, y :: b, e, h => by
  have h' : (decide (y < x) || (y == x && ltI b a)) = false := h
  rw [Bool.or_eq_false_iff, Bool.and_eq_false_iff] at h'
  obtain ⟨h1, h2⟩ := h'
  have h1 := of_decide_eq_false h1
  by_cases q : x = y
  · subst q
    rcases h2 with h2 | h2
    · simp at h2
    · rcases zjR (by simpa using e) h2 with rfl | z
      · exact .inl rfl
      · right; show (decide (x < x) || (x == x && ltI a b)) = true; rw [z]; simp
  · right; show (decide (x < y) || (x == y && ltI a b)) = true; rw [zyL (show x < y by omega)]; rfl
theorem zjk {K : List Int} {i j : Nat} {k : Int} (h : K.Nodup) (h1 : K[i]? = some k) (h2 : K[j]? = some k) : i = j := (List.getElem?_inj (zzD.mp h1).1 h).mp (h1.trans h2.symm)
theorem zkY {a b : List Int} (e : a.length = b.length) (h : ltI b a = false) : sle a b := (zjR e h).imp id λ z => .inr ⟨e, z⟩
theorem ziN {a b : List Int} (h : sle a b) (k : sle b a) : a = b := by
 rcases h with h | h
 · exact h
 · exact (zoo k h).elim
section
variable {f : Int -> Int -> Int} {row : List Int}
structure Lvl (f : Int -> Int -> Int) (row : List Int) (s : Nat) (K : List Int) (R : List (List Int)) (ok : List Int -> Prop) : Prop where
 len : K.length = R.length
 nd : K.Nodup
 it : ∀ (i : Nat) (k : Int) (r : List Int), K[i]? = some k -> R[i]? = some r -> r.length = s + 1 /\ (∀ x ∈ r, x ∈ row) /\ wh f r = k
 least : ∀ w : List Int, w.length = s + 1 -> (∀ x ∈ w, x ∈ row) -> ok w -> ∃ (i : Nat) (r : List Int), K[i]? = some (wh f w) /\ R[i]? = some r /\ sle r w
def zbr (K : List Int) (R : List (List Int)) (k : Int) (r : List Int) : List (List Int) := if k ∈ K then (K.zip R).map (λ p => if p.1 = k then r else p.2) else R ++ [r]
def VB (K : List Int) (k : Int) : List Int := if k ∈ K then K else K ++ [k]
theorem zdV {K : List Int} {R : List (List Int)} {k : Int} {r : List Int} (hl : K.length = R.length) {i : Nat} {k' : Int} {r' : List Int} (h1 : K[i]? = some k') (h2 : R[i]? = some r') : (VB K k)[i]? = some k' /\ (zbr K R k r)[i]? = some (if k' = k then r else r') := by
 unfold VB zbr
 by_cases h : k ∈ K
 · rw [if_pos h, if_pos h, zzF, (List.getElem?_zip_eq_some (z := (k', r'))).mpr ⟨h1, h2⟩]
   exact ⟨h1, rfl⟩
 · rw [if_neg h, if_neg h, zyM (zzD.mp h1).1, zyM (zzD.mp h2).1]
   exact ⟨h1, by rw [h2, if_neg (show ¬ k' = k from λ e => h (by rw [<- e]; exact zzX h1))]⟩
theorem zjh {K : List Int} {R : List (List Int)} {k : Int} {r : List Int} (hl : K.length = R.length) (h : k ∉ K) : (VB K k)[K.length]? = some k /\ (zbr K R k r)[K.length]? = some r := by
 unfold VB zbr
 rw [if_neg h, if_neg h, hl]
 exact ⟨by rw [<- hl]; simp, by simp⟩
theorem zjZ {K : List Int} {R : List (List Int)} {k : Int} {r : List Int} (hl : K.length = R.length) : (VB K k).length = (zbr K R k r).length := by
 unfold VB zbr
 split
 · rw [zD, List.length_zip, hl, Nat.min_self]
 · rw [zzG, zzG, hl]; rfl
theorem zkV {K : List Int} {R : List (List Int)} {k : Int} {r : List Int} (hl : K.length = R.length) {i : Nat} {k' : Int} {r' : List Int} (h1 : (VB K k)[i]? = some k') (h2 : (zbr K R k r)[i]? = some r') : (k' = k /\ r' = r) \/ (k' ≠ k /\ K[i]? = some k' /\ R[i]? = some r') := by
 by_cases hi : i < K.length
 · have g1 := zzB hi
   have g2 := zzB (l := R) (i := i) (by omega)
   obtain ⟨e1, e2⟩ := zdV (k := k) (r := r) hl g1 g2
   rw [e1] at h1
   rw [e2] at h2
   cases h1
   by_cases e : K[i] = k
   · rw [if_pos e] at h2
     cases h2
     exact .inl ⟨e, rfl⟩
   · rw [if_neg e] at h2
     cases h2
     exact .inr ⟨e, g1, g2⟩
 · unfold VB at h1
   unfold zbr at h2
   by_cases h : k ∈ K
   · rw [if_pos h] at h1
     exact absurd (zzD.mp h1).1 hi
   · rw [if_neg h] at h1 h2
     have := (zzD.mp h1).1
     rw [zzG, List.length_singleton] at this
     have hi' : i = K.length := by omega
     rw [zyO (by omega), hi', Nat.sub_self] at h1
     rw [zyO (by omega), hi', hl, Nat.sub_self] at h2
     cases h1
     cases h2
     exact .inl ⟨rfl, rfl⟩
theorem zmf {K : List Int} {k : Int} (h : K.Nodup) : (VB K k).Nodup := by
 unfold VB
 split
 · exact h
 · rename_i q
   exact zxC.mpr ⟨h, by simp, λ x mx y my e => by rw [zzO.mp my] at e; subst e; exact q mx⟩
theorem Lvl.imp {s : Nat} {K : List Int} {R : List (List Int)} {ok ok' : List Int -> Prop} (h : Lvl f row s K R ok) (q : ∀ w : List Int, w.length = s + 1 -> (∀ x ∈ w, x ∈ row) -> ok' w -> ok w) : Lvl f row s K R ok' := ⟨h.len, h.nd, h.it, λ w a b c => h.least w a b (q w a b c)⟩
theorem Lvl.put {s : Nat} {K : List Int} {R : List (List Int)} {ok : List Int -> Prop} {u r : List Int} (h : Lvl f row s K R ok) (ul : u.length = s + 1) (um : ∀ x ∈ u, x ∈ row) (hr : (r = u /\ wh f u ∉ K) \/ ∃ (i : Nat) (r0 : List Int), K[i]? = some (wh f u) /\ R[i]? = some r0 /\ r = if ltI u r0 = true then u else r0) :
 Lvl f row s (VB K (wh f u)) (zbr K R (wh f u) r) (λ w => ok w \/ w = u) /\ sle r u := by
 have rok : (r.length = s + 1 /\ (∀ x ∈ r, x ∈ row) /\ wh f r = wh f u) /\ sle r u /\ ∀ (i : Nat) (r0 : List Int), K[i]? = some (wh f u) -> R[i]? = some r0 -> sle r r0 := by
  rcases hr with ⟨rfl, hn⟩ | ⟨i, r0, h1, h2, rfl⟩
  · exact ⟨⟨ul, um, rfl⟩, .inl rfl, λ i r0 h1 => absurd (zzX h1) hn⟩
  · obtain ⟨a1, a2, a3⟩ := h.it i _ r0 h1 h2
    have same : ∀ (j : Nat) (r1 : List Int), K[j]? = some (wh f u) -> R[j]? = some r1 -> r1 = r0 := λ j r1 k1 k2 => by
     have := zjk h.nd k1 h1
     subst this
     rw [h2] at k2
     exact (zzW k2).symm
    cases hl : ltI u r0 with
    | true =>
     rw [if_pos rfl]
     refine ⟨⟨ul, um, rfl⟩, .inl rfl, λ j r1 k1 k2 => ?_⟩
     rw [same j r1 k1 k2]
     exact .inr (.inr ⟨by omega, hl⟩)
    | false =>
     rw [if_neg zyT]
     refine ⟨⟨a1, a2, a3⟩, zkY (by omega) hl, λ j r1 k1 k2 => ?_⟩
     rw [same j r1 k1 k2]
     exact .inl rfl
 obtain ⟨⟨r1, r2, r3⟩, ru, ro⟩ := rok
 refine ⟨⟨zjZ h.len, zmf h.nd, λ i k r' h1 h2 => ?_, λ w wl wm hw => ?_⟩, ru⟩
 · rcases zkV h.len h1 h2 with ⟨rfl, rfl⟩ | ⟨_, h1, h2⟩
   · exact ⟨r1, r2, r3⟩
   · exact h.it i k r' h1 h2
 · rcases hw with hw | rfl
   · obtain ⟨i, r0, h1, h2, hs⟩ := h.least w wl wm hw
     obtain ⟨e1, e2⟩ := zdV (k := wh f u) (r := r) h.len h1 h2
     refine ⟨i, _, e1, e2, ?_⟩
     split
     · rename_i e
       rw [e] at h1
       exact W9 (ro i r0 h1 h2) hs
     · exact hs
   · by_cases hk : wh f w ∈ K
     · obtain ⟨i, hi⟩ := zyS hk
       have h2 := zzB (l := R) (i := i) (by rw [<- h.len]; exact (zzD.mp hi).1)
       obtain ⟨e1, e2⟩ := zdV (k := wh f w) (r := r) h.len hi h2
       rw [if_pos rfl] at e2
       exact ⟨i, r, e1, e2, ru⟩
     · obtain ⟨e1, e2⟩ := zjh (k := wh f w) (r := r) h.len hk
       exact ⟨_, r, e1, e2, ru⟩
theorem Lvl.next {s : Nat} {K K' : List Int} {R R' : List (List Int)} (h : Lvl f row s K R λ _ => True) (h' : Lvl f row (s + 1) K' R' λ w => ∃ r ∈ R, ∃ x ∈ row, w = r ++ [x]) : Lvl f row (s + 1) K' R' λ _ => True := by
 refine ⟨h'.len, h'.nd, h'.it, λ w wl wm _ => ?_⟩
 obtain ⟨w0, x, rfl⟩ : ∃ w0 x, w = w0 ++ [x] := ⟨w.dropLast, w.getLast (λ e => by rw [e] at wl; simp at wl), (List.dropLast_concat_getLast _).symm⟩
 rw [zzG, List.length_singleton] at wl
 have w0m : ∀ y ∈ w0, y ∈ row := λ y my => wm y (zzM _ my)
 have xm := wm x (zzI _ (zzO.mpr rfl))
 have ne : w0 ≠ [] := λ e => by rw [e] at wl; simp at wl
 obtain ⟨i, r, k1, k2, ks⟩ := h.least w0 (by omega) w0m trivial
 obtain ⟨a1, a2, a3⟩ := h.it i _ r k1 k2
 have rne : r ≠ [] := λ e => by rw [e] at a1; simp at a1
 obtain ⟨j, r', k3, k4, k5⟩ := h'.least (r ++ [x]) (by rw [zzG, a1]; rfl) (λ y my => (zzJ.mp my).elim (a2 y) λ z => by rw [zzO.mp z]; exact xm) ⟨r, zzX k2, x, xm, rfl⟩
 rw [zcs rne, a3, <- zcs (f := f) (c := x) ne] at k3
 exact ⟨j, r', k3, k4, W9 k5 (zhh ks)⟩
theorem Lvl.nil (s : Nat) : Lvl f row s [] [] λ _ => False := ⟨rfl, zyG, (λ i k r h => by simp at h), λ w _ _ z => z.elim⟩
theorem zmB {l : Nat} : ∀ {rs : List (List Int)}, rs ≠ [] -> (∀ r ∈ rs, r.length = l) -> zdK rs ∈ rs /\ ∀ r ∈ rs, sle (zdK rs) r := λ {rs} hne hl => by
 match rs, hne with
 | x :: t, _ =>
  have : ∀ (t : List (List Int)) (b : List Int), b.length = l -> (∀ r ∈ t, r.length = l) -> (t.foldl (λ b y => if ltI y b = true then y else b) b = b \/ t.foldl (λ b y => if ltI y b = true then y else b) b ∈ t) /\ sle (t.foldl (λ b y => if ltI y b = true then y else b) b) b /\ ∀ r ∈ t, sle (t.foldl (λ b y => if ltI y b = true then y else b) b) r := λ t => by
   induction t with
   | nil => intro b _ _; exact ⟨.inl rfl, .inl rfl, λ r m => nomatch m⟩
   | cons y t ih =>
    intro b hb ht
    have hy := ht y zzC
    rw [List.foldl_cons]
    cases q : ltI y b with
    | true =>
     rw [if_pos rfl]
     obtain ⟨i1, i2, i3⟩ := ih y hy λ r m => ht r (zzA _ m)
     refine ⟨.inr (i1.elim (λ e => by rw [e]; exact zzC) (zzA _)), W9 i2 (.inr (.inr ⟨by omega, q⟩)), λ r m => (zS.mp m).elim (λ e => by rw [e]; exact i2) (i3 r)⟩
    | false =>
     rw [if_neg zyT]
     obtain ⟨i1, i2, i3⟩ := ih b hb λ r m => ht r (zzA _ m)
     exact ⟨i1.imp id (zzA _), i2, λ r m => (zS.mp m).elim (λ e => by rw [e]; exact W9 i2 (zkY (by omega) q)) (i3 r)⟩
  obtain ⟨i1, i2, i3⟩ := this t x (hl x zzC) λ r m => hl r (zzA _ m)
  exact ⟨i1.elim (λ e => by show t.foldl _ x ∈ _; rw [e]; exact zzC) λ m => zzA _ m, λ r m => (zS.mp m).elim (λ e => by rw [e]; exact i2) (i3 r)⟩
end
open L2 (zW Key atI xY)
abbrev vsO (row : List Int) : List Int := sortI (zbp row)
theorem zas {row : List Int} {x : Int} : x ∈ vsO row ↔ x ∈ row := by
 rw [(sortI_perm (zbp row)).mem_iff]
 unfold zbp
 rw [zdw]; simp
theorem zmO (row : List Int) : (vsO row).Pairwise (· < ·) := by
 have h1 := ZL (zbp row)
 have h2 : (vsO row).Nodup := (sortI_perm (zbp row)).nodup_iff.mpr (zfN row [] zyG)
 exact (h1.and h2).imp λ ⟨a, b⟩ => by omega
theorem zlW (b : Bool) (l : List Int) : (l.map D.int).map (lfs b) = (l.map D.int).map (O.lf true) := by rw [zzY, zzY]; rfl
theorem zos {as : AS} {a : EF} {n : Nat} {row : List Int} {s : Bool} (n8 : n <= 8) (h : ∀ x ∈ row, InR n x) (hl : row.length < 64) (ha : WD a as s (zq row)) : fP (aC a aN) ssP as = some (.ow (.nd .ls (((vsO row).map D.int).map (O.lf true))), as) := by
 have hg : ssP [zq row] = some (.fl ((vsO row).map D.int)) := by
  show (yL (row.map D.int)).bind _ = _
  rw [vY]
  refine if_pos ⟨hl, List.all_eq_true.mpr λ x mx => ?_⟩
  have := h x mx
  rw [zyL this.1, zyL (show x < 8 by have := this.2; omega)]; rfl
 have := zkL (g := ssP) (zG ha (zX (as := as))) hg
 rw [zlW] at this
 exact this
theorem zfo (s : Bool) : ∀ ds : List D, O.toDs (ds.map (lfs s)) = ds
 | [] => rfl
 | d :: r => congrArg (d :: ·) (zfo s r)
theorem zqV {as : AS} {a : EF} {s : Bool} {S : SS} (nd : (S.map (·.1)).Nodup) (h : WD a as s (.lst (S.map wu))) : VV (fP (aC a aN) zbJ) as (.dct (S.map λ p => (.inr p.1, zq p.2))) := by
 have hg : zbJ [.lst (S.map wu)] = some (.fd (S.map λ p => (.inr p.1, zq p.2))) := by
  show (Yq (S.map λ p => .tup [.str p.1, zq p.2])).bind _ = _
  rw [zds (kf := λ p : Str × List Int => p.1) (vf := λ p => zq p.2)]
  refine if_pos ?_
  rw [zzY]
  exact List.pairwise_map.mpr ((List.pairwise_map.mp nd).imp λ h z => h (Sum.inr.inj z))
 have k := zne (g := zbJ) (zG h (zX (as := as))) hg
 refine zqf k ?_
 show D.dct (List.zip _ (O.toDs _)) = _
 rw [zfo, zjV]
theorem zkS {x : Int} : ∀ l : List Int, anyF (λ y => eqF 50 y (.int x)) (l.map D.int) = some (decide (x ∈ l))
 | [] => rfl
 | y :: l => by
  show (some (y == x)).bind _ = _
  rw [zyI, zkS l]
  show some ((y == x) || decide (x ∈ l)) = _
  by_cases e : y = x
  · subst e; simp
  · have : (y == x) = false := by simp [e]
    rw [this]; simp [Ne.symm e]
theorem inV {as : AS} {a b : EF} {x : Int} {l : List Int} (ha : VV a as (.int x)) (hb : VV b as (zq l)) : WT (fT (f2 a b zbi)) as (decide (x ∈ l)) :=
 vq (vf2 (g := Xh .In) (z := .bl (decide (x ∈ l))) ha hb (by show (anyF (λ y => eqF 50 y (.int x)) (l.map D.int)).bind _ = _; rw [zkS]; rfl) rfl) rfl
def outD : Option (List Int) -> D
 | none => .non
 | some r => zq r
def Lst (f : Int -> Int -> Int) (e : Int) (row held : List Int) : Option (List Int) -> Prop
 | none => e ∉ held /\ ∀ w : List Int, w ≠ [] -> (∀ x ∈ w, x ∈ row) -> wh f w ∉ held
 | some r => (e ∈ held /\ r = []) \/ (e ∉ held /\ r ≠ [] /\ r.length <= 8 /\ (∀ x ∈ r, x ∈ row) /\ wh f r ∈ held /\ ∀ w : List Int, w ≠ [] -> (∀ x ∈ w, x ∈ row) -> wh f w ∈ held -> sle r w)
structure AA (n : Nat) (J : TZ) (e : Int) (S : SS) (A : D) : Prop where
 n8 : n <= 8
 j : Tab n n J
 er : InR n e
 a2 : ixP A (.int 2) = some (.im (ZQ J))
 a3 : ixP A (.int 3) = some (.im (.int e))
 a5 : ixP A (.int 5) = some (.im (.lst (S.map wu)))
 sn : (S.map (·.1)).Nodup
def zpJ : Option (List Int) -> O
 | none => .lf true .non
 | some r => .nd .ls (r.map λ n => .lf true (.int n))
theorem zmE (r : List Int) : zkm (.lf true (zq r)) = some (zpJ (some r)) := by
 show (yL (r.map D.int)).bind _ = _
 rw [vY]; rfl
section
variable {n : Nat} {J : TZ} {e : Int} {S : SS} {A : D} {row : List Int} {q : Bool}
abbrev K6 (q : Bool) (A : D) (row : List Int) (nm : D) (s : Bool) (held : List Int) (rows : D) (e5 : Option O) : AS := [some (.lf q A), some (.lf q (zq row)), sT nm, some (.lf s (zq held)), sT rows, e5]
abbrev kfB : SF := sIf (fT (f2 xU xW zbi)) (yZ (f2 xF xU ixP)) sNx
theorem zgP {s : Bool} {held : List Int} {rows nm : D} : ∀ (K : List Int) (e5 : Option O), (∀ k ∈ K, ∃ r, ixP rows (.int k) = some (.im (zq r))) ->
 ((∀ k ∈ K, k ∉ held) /\ ∃ e5', forL Vb kfB (K.map λ k => (true, D.int k)) (K6 q A row nm s held rows e5) = some (.nx (K6 q A row nm s held rows e5'))) \/
 ∃ (i : Nat) (k : Int) (r : List Int), K[i]? = some k /\ k ∈ held /\ (∀ (j : Nat) (k' : Int), j < i -> K[j]? = some k' -> k' ∉ held) /\ ixP rows (.int k) = some (.im (zq r)) /\ forL Vb kfB (K.map λ k => (true, D.int k)) (K6 q A row nm s held rows e5) = some (.rt (.lf true (zq r)))
 | [], e5, _ => .inl ⟨(λ _ z => nomatch z), e5, rfl⟩
 | k :: K, e5, H => by
  obtain ⟨r, hr⟩ := H k zzC
  have t := inV (as := K6 q A row nm s held rows (sI k)) (a := fV 5) (b := fV 3) (x := k) (l := held) (vJ (zb (i := 5) rfl)) (vJ (zb (i := 3) rfl))
  by_cases hin : k ∈ held
  · rw [zyL hin] at t
    exact .inr ⟨0, k, r, rfl, hin, λ j k' hj => absurd hj (Nat.not_lt_zero _), hr, zeS (as1 := K6 q A row nm s held rows (sI k)) rfl (v4 t (Zu (zcC (zb (i := 4) rfl) (zb (i := 5) rfl) hr)))⟩
  · rw [zyD hin] at t
    have step : ∀ o, forL Vb kfB (K.map λ k => (true, D.int k)) (K6 q A row nm s held rows (sI k)) = o -> forL Vb kfB ((k :: K).map λ k => (true, D.int k)) (K6 q A row nm s held rows e5) = o := λ o ho => by
     show ((sIf _ _ _ (K6 q A row nm s held rows (sI k))).bind _) = _
     rw [wN (g := sNx) t rfl]; exact ho
    rcases zgP K (sI k) (λ k' mk => H k' (zzA _ mk)) with ⟨h1, e5', h2⟩ | ⟨i, k', r', h1, h2, h3, h4, h5⟩
    · exact .inl ⟨λ x mx => (zS.mp mx).elim (λ z => by rw [z]; exact hin) (h1 x), e5', step _ h2⟩
    · refine .inr ⟨i + 1, k', r', by simpa using h1, h2, λ j x hj hx => ?_, h4, step _ h5⟩
      cases j with
      | zero => simp at hx; rw [<- hx]; exact hin
      | succ j => exact h3 j x (by omega) (by simpa using hx)
theorem W4 {p : Str × List Int} (h : AA n J e S A) (hp : p ∈ S) (hr : ∀ x ∈ row, InR n x) (hl : row.length < 64) (q : Bool) : ∃ o O', Lst (jAt J) e row p.2 o /\ yR [(q, A), (q, zq row), (true, .str p.1)] = some O' /\ O'.str = true /\ O'.toD = outD o /\ zkm O' = some (zpJ o) := by
 obtain ⟨z1, a5⟩ := vix (as := [some (.lf q A), some (.lf q (zq row)), sT (.str p.1), none, none, none]) (vJ (zb (i := 0) rfl)) (vJ zp) h.a5
 obtain ⟨z2, d⟩ := vix (zqV h.sn a5) (vJ (zb (i := 2) rfl)) (z := zq p.2) (by show imR (vL _ (.inr p.1)) = _; rw [zgU (kf := λ p : Str × List Int => p.1) (vf := λ p => zq p.2) hp h.sn]; rfl)
 have s3 := xQ (st := true) (i := 3) d (zL rfl)
 obtain ⟨z3, a3⟩ := vix (as := K6 q A row (.str p.1) z2 p.2 .non none |>.set 4 none) (vJ (zb (i := 0) rfl)) (vJ zp) h.a3
 have t := inV (x := e) (l := p.2) (vJ a3) (vJ (zb (i := 3) rfl))
 by_cases he : e ∈ p.2
 · rw [zyL he] at t
   exact ⟨some [], .nd .ls [], .inl ⟨he, rfl⟩, Z8 rfl (zU s3 (Zc (v4 t rfl))), rfl, rfl, rfl⟩
 · rw [zyD he] at t
   have n8 := h.n8
   obtain ⟨K, R, hB, hK, hq, hw⟩ := WK (A := A) (q := zH A || q) (vs := vsO row) h.j n8 h.a2 (zmO row) λ x mx => hr x (zas.mp mx)
   have hkl := zaT hB.nd hK
   have s4 := wX (as := K6 q A row (.str p.1) z2 p.2 .non none |>.set 4 none) (i := 4) (Wn (g := wC) (zG (zb (i := 0) rfl) (zfh (zos n8 hr hl (zb (i := 1) rfl)) zX)) (o := .nd (.dc (K.map kI)) ((R.map zq).map (O.lf true))) (by
    show wC [(zH A || q, A), (zH (D.lst (O.toDs (((vsO row).map D.int).map (O.lf true)))) || O.strs (((vsO row).map D.int).map (O.lf true)), .lst (O.toDs (((vsO row).map D.int).map (O.lf true))))] = _
    rw [V4, Vl, zyA]
    exact hw)) (zL rfl)
   have it : iKO 4 [some (.lf q A), some (.lf q (zq row)), sT (.str p.1), some (.lf z2 (zq p.2)), some (.nd (.dc (K.map kI)) ((R.map zq).map (O.lf true))), none] = some (K.map λ k => (true, D.int k), K6 q A row (.str p.1) z2 p.2 (.dct (mp K R)) none) := by
    show (if _ /\ _ then some ((K.map kI).map (λ k => (true, keyOf k)), [some (.lf q A), some (.lf q (zq row)), sT (.str p.1), some (.lf z2 (zq p.2)), some (.lf true (.dct ((K.map kI).zip (O.toDs ((R.map zq).map (O.lf true)))))), none]) else none) = _
    rw [if_pos ⟨by rw [List.all_map]; exact List.all_eq_true.mpr λ _ _ => rfl, V4 _⟩, Vl, zzY]
    rfl
   have vl : ∀ k ∈ K, ∃ r, ixP (.dct (mp K R)) (.int k) = some (.im (zq r)) := λ k mk => by
    obtain ⟨i, hi⟩ := zyS mk
    have hr' := zzB (l := R) (i := i) (by rw [<- hB.len]; exact (zzD.mp hi).1)
    exact ⟨_, by show imR (vL (mp K R) (kI k)) = _; rw [X4 hB.nd hi hr']; rfl⟩
   have least : ∀ w : List Int, w ≠ [] -> (∀ x ∈ w, x ∈ row) -> ∃ (j : Nat) (r : List Int), K[j]? = some (wh (jAt J) w) /\ R[j]? = some r /\ sle r w := λ w hne hw' => hB.least (w.length - 1) w (by have := List.length_pos_iff.mpr hne; omega) λ x mx => zas.mpr (hw' x mx)
   rcases zgP (q := q) (A := A) (row := row) (s := z2) (nm := .str p.1) (held := p.2) (rows := .dct (mp K R)) K none vl with ⟨h1, e5', h2⟩ | ⟨i, k, r, h1, h2, h3, h4, h5⟩
   · refine ⟨none, .lf true .non, ⟨he, λ w hne hw' z => ?_⟩, Z8 rfl (zU s3 (zU (wN t rfl) (zU s4 (zU (wO it h2) (Zu zp))))), rfl, rfl, rfl⟩
     obtain ⟨j, r, q1, _, _⟩ := least w hne hw'
     exact h1 _ (zzX q1) z
   · have hiR := zzB (l := R) (i := i) (by rw [<- hB.len]; exact (zzD.mp h1).1)
     generalize R[i]'(by rw [<- hB.len]; exact (zzD.mp h1).1) = ri at hiR
     have er : r = ri := by
      have : imR (vL (mp K R) (kI k)) = some (.im (zq r)) := h4
      rw [X4 hB.nd h1 hiR] at this
      have := congrArg (λ z => match z with | some (R0.im (.lst l)) => yL l | _ => none) this
      have q : yL (ri.map D.int) = yL (r.map D.int) := this
      rw [vY, vY] at q
      exact (zzW q).symm
     subst er
     obtain ⟨g1, g2, g3⟩ := hB.row i k r h1 hiR
     refine ⟨some r, .lf true (zq r), .inr ⟨he, g1, ?_, λ x mx => zas.mp (g2 x mx), by rw [g3]; exact h2, λ w hne hw' z => ?_⟩, Z8 rfl (zU s3 (zU (wN t rfl) (zU s4 (Zc (wO it h5))))), rfl, rfl, zmE r⟩
     · have := hq r (zzX hiR); have := hB.len; omega
     · obtain ⟨j, rj, q1, q2, q3⟩ := least w hne hw'
       have hij : ¬ j < i := λ hj => h3 j _ hj q1 z
       by_cases e2 : j = i
       · subst e2
         rw [hiR] at q2
         cases q2
         exact q3
       · have hjl : j < R.length := (zzD.mp q2).1
         have := List.pairwise_iff_getElem.mp hB.asc i j (by omega) hjl (by omega)
         have e6 := zzW ((zzB hjl).symm.trans q2)
         have e5 := zzW ((zzB (l := R) (i := i) (by omega)).symm.trans hiR)
         rw [e5, e6] at this
         exact W9 (.inr this) q3
end
open L2 (zW Key atI xY)
theorem zkr {k : Int} {K : List Int} (h : k ∈ K) : zgF (K.map kI) (kI k) = true := by
 unfold zgF
 rw [List.any_eq_true]
 exact ⟨kI k, zxB.mpr ⟨k, h, rfl⟩, by simp⟩
theorem putD {K : List Int} {R : List (List Int)} {k : Int} {r : List Int} : some (O.nd (.dc (Xq (K.map kI) (kI k))) (ZX (K.map kI) ((R.map zq).map (O.lf true)) (kI k) (.lf true (zq r)))) = dK (VB K k) (zbr K R k r) := by
 unfold Xq ZX VB zbr
 by_cases h : k ∈ K
 · rw [zkr h, if_pos rfl, if_pos rfl, if_pos h, if_pos h]
   have e : ((K.map kI).zip ((R.map zq).map (O.lf true))).map (λ p => if p.1 = kI k then O.lf true (zq r) else p.2) = (((K.zip R).map (λ p => if p.1 = k then r else p.2)).map zq).map (O.lf true) := by
    rw [zzY, List.zip_map, zzY, zzY, zzY]
    refine List.map_congr_left λ p _ => ?_
    show (if kI p.1 = kI k then O.lf true (zq r) else O.lf true (zq p.2)) = O.lf true (zq (if p.1 = k then r else p.2))
    by_cases q : p.1 = k
    · rw [if_pos q, if_pos (congrArg kI q)]
    · rw [if_neg q, if_neg (λ z => q (Sum.inl.inj z))]
   rw [e]
 · rw [zhv h, if_neg zyT, if_neg zyT, if_neg h, if_neg h]
   simp only [dK, zyJ, zyP, List.map_nil]
abbrev fK (K : List Int) (R : List (List Int)) : Option O := some (.nd (.fz (K.map kI)) ((R.map zq).map (O.lf true)))
theorem znt (K : List Int) (R : List (List Int)) : (O.nd (.fz (K.map kI)) ((R.map zq).map (O.lf true))).toD = .dct (mp K R) := by
 show D.dct ((K.map kI).zip (O.toDs _)) = _
 rw [Vl]
theorem ziV {as : AS} {i j l : Nat} {K : List Int} {R : List (List Int)} {t : Int} {u : List Int} (hi : as[i]? = some (dK K R)) (hj : as[j]? = some (sI t)) (hl : as[l]? = some (sT (zq u))) :
 WD (zbH (fV i) (aC (fV j) (aC (fV l) aN))) as true ((vL (mp K R) (kI t)).getD (zq u)) := by
 have e1 : fV i as = some (.bo i, as) := W5 hi
 have e2 : RV.view as (RV.bo i).frz = some (.dct (mp K R), some true) := by
  show RV.view as (.bo i) = _
  rw [Y9 hi, zeW, zgB]
 have e3 : fV j as = some (.ow (.lf true (.int t)), as) := zb hj
 have e4 : fV l as = some (.ow (.lf true (zq u)), as) := zb hl
 have e5 : aC (fV j) (aC (fV l) aN) as = some ([.ow (.lf true (.int t)), .ow (.lf true (zq u))], as) := by
  unfold aC
  simp only [e3, e4, zyI, aN]
  rfl
 unfold WD zbH
 simp only [e1, e2, e5, zyI, zpI, zqo, show ziI .dct (.dct (mp K R)) = true from rfl, if_true]
 show (some (RV.ow (match vL (mp K R) (kI t) with | some d => .lf true d | none => .lf true (zq u)), as)) = _
 cases vL (mp K R) (kI t) <;> rfl
theorem zfv {as : AS} {a : EF} {l : Nat} {z u : List Int} (ha : WD a as true (zq z)) (hl : as[l]? = some (sT (zq u))) : WD (zdt (aC a (aC (fV l) aN))) as true (zq (if ltI u z = true then u else z)) := by
 have e4 : fV l as = some (.ow (.lf true (zq u)), as) := zb hl
 unfold WD at ha
 have e5 : aC a (aC (fV l) aN) as = some ([.ow (.lf true (zq z)), .ow (.lf true (zq u))], as) := by
  unfold aC
  simp only [ha, e4, zyI, aN]
  rfl
 unfold WD zdt
 simp only [e5, zyI]
 show ((yL (z.map D.int)).bind λ ns => (yL (u.map D.int)).bind λ ms => some (RV.ow (if ltI ms ns = true then .lf true (zq u) else .lf true (zq z)), as)) = _
 rw [vY, vY]
 show some (RV.ow (if ltI u z = true then O.lf true (zq u) else .lf true (zq z)), as) = _
 by_cases q : ltI u z = true
 · rw [if_pos q, if_pos q]
 · rw [if_neg q, if_neg q]
theorem zhq : ∀ G : List (List Int), zdn (G.map zq) = some G
 | [] => rfl
 | g :: G => by
  show (yL (g.map D.int)).bind (λ n => (zdn (G.map zq)).bind λ s => some (n :: s)) = _
  rw [vY, zhq G]; rfl
section
variable {n m : Nat} {J : TZ} {e : Int} {S : SS} {row held : List Int}
abbrev alD (n m : Nat) (J : TZ) (e : Int) (S : SS) : D := .tup [.int n, .int m, ZQ J, .int e, .lst [], .lst (S.map wu)]
theorem znf (hJ : Tab n n J) : ∀ (r : List Int) (x : Int), InR n x -> (∀ y ∈ r, InR n y) -> InR n (r.foldl (jAt J) x)
 | [], _, h, _ => h
 | y :: r, x, h, H => znf hJ r _ (rowAt (zaf hJ h).2 (H y zzC)).2 λ z mz => H z (zzA _ mz)
theorem Lvl.inR {s : Nat} {K : List Int} {R : List (List Int)} {ok : List Int -> Prop} (h : Lvl (jAt J) row s K R ok) (hJ : Tab n n J) (hrow : ∀ x ∈ row, InR n x) : ∀ k ∈ K, InR n k := λ k mk => by
 obtain ⟨i, hi⟩ := zyS mk
 have hr := zzB (l := R) (i := i) (by rw [<- h.len]; exact (zzD.mp hi).1)
 obtain ⟨a1, a2, a3⟩ := h.it i k _ hi hr
 rw [<- a3]
 generalize R[i]'(by rw [<- h.len]; exact (zzD.mp hi).1) = r at a1 a2
 match r, a1, a2 with
 | x :: t, _, a2 => exact znf hJ t x (hrow x (a2 x zzC)) λ y my => hrow y (a2 y (zzA _ my))
abbrev B17 (n m : Nat) (J : TZ) (e : Int) (S : SS) (row held : List Int) (s9 e10 e11 e12 e13 e14 e15 e16 : Option O) : AS := [sT (alD n m J e S), sT (zq row), sT (zq held), sI n, sI m, sT (ZQ J), sI e, sT (.lst []), sT (.lst (S.map wu)), s9, e10, e11, e12, e13, e14, e15, e16]
theorem zli (hJ : Tab n n J) (n8 : n <= 8) (hrow : ∀ x ∈ row, InR n x) : ∃ K R e10, Lvl (jAt J) row 0 K R (λ _ => True) /\ wH (Vk yg) zfg (VG 9 vX (xg (dC vX dN))) (B17 n m J e S row held (dK [] []) none none none none none none none) = some (.nx (B17 n m J e S row held (dK K R) e10 none none none none none none)) := by
 obtain ⟨as', hf, K, R, e10, rfl, L⟩ := xx (g := gN 10) (f := VG 9 vX (xg (dC vX dN))) (λ i as => ∃ K R e10, as = B17 n m J e S row held (dK K R) e10 none none none none none none /\ Lvl (jAt J) row 0 K R (λ w => ∃ x ∈ row.take i, w = [x])) ((row.map D.int).map λ d => (true, d)) 0 (B17 n m J e S row held (dK [] []) none none none none none none none) (λ i y as hy hI => by
  obtain ⟨K, R, e10, rfl, L⟩ := hI
  rw [zzY, zzF] at hy
  cases hv : row[i]? with
  | none => rw [hv] at hy; cases hy
  | some v =>
   rw [hv] at hy
   cases hy
   rw [zyV] at L ⊢
   have vm := zzX hv
   have kl := zaT L.nd (L.inR hJ hrow)
   have lv : WE (xg (dC vX dN)) (B17 n m J e S row held (dK K R) (sI v) none none none none none none) (zq [v]) := Zd (os := [lfI v]) (xf (zb (i := 10) rfl) yM) (szl rfl) rfl rfl
   have st : VG 9 vX (xg (dC vX dN)) (B17 n m J e S row held (dK K R) (sI v) none none none none none none) = some (.nx (B17 n m J e S row held (dK (VB K v) (zbr K R v [v])) (sI v) none none none none none none)) := by
    obtain ⟨o, q1, q2, q3⟩ := lv
    have e1 : zax (B17 n m J e S row held (dK K R) (sI v) none none none none none none) (.ow o) = some ((o.str, o.toD), B17 n m J e S row held (dK K R) (sI v) none none none none none none) := rfl
    have e2 : fV 10 (B17 n m J e S row held (dK K R) (sI v) none none none none none none) = some (.ow (.lf true (.int v)), B17 n m J e S row held (dK K R) (sI v) none none none none none none) := zb (i := 10) rfl
    have e3 : (RV.ow (.lf true (.int v))).frz.view (B17 n m J e S row held (dK K R) (sI v) none none none none none none) = some (.int v, some true) := rfl
    have e4 : zcv (.int v) = some (kI v) := rfl
    unfold VG
    simp only [q1, zyI, e1, e2, e3, e4, q2, q3]
    show (if (K.map kI).length < sizeLine then some (Out.nx ((B17 n m J e S row held (dK K R) (sI v) none none none none none none).set 9 (some (O.nd (.dc (Xq (K.map kI) (kI v))) (ZX (K.map kI) ((R.map zq).map (O.lf true)) (kI v) (.lf true (zq [v]))))))) else none) = _
    rw [if_pos (by rw [zD]; exact zW (by omega)), putD]
    rfl
   have P := (L.put (u := [v]) (r := [v]) rfl (λ x mx => by rw [zzO.mp mx]; exact vm) (by
    by_cases h : v ∈ K
    · right
      obtain ⟨j, hj⟩ := zyS h
      have hr := zzB (l := R) (i := j) (by rw [<- L.len]; exact (zzD.mp hj).1)
      refine ⟨j, _, hj, hr, ?_⟩
      obtain ⟨b1, b2, b3⟩ := L.it j v _ hj hr
      generalize R[j]'(by rw [<- L.len]; exact (zzD.mp hj).1) = r0 at b1 b3
      match r0, b1, b3 with
      | [y], _, b3 =>
       have : y = v := b3
       subst this
       split <;> rfl
    · exact .inl ⟨rfl, h⟩)).1
   refine ⟨_, rfl, _, st, _, _, _, rfl, P.imp λ w _ _ hw => ?_⟩
   obtain ⟨x, mx, rfl⟩ := hw
   rw [List.take_succ, hv] at mx
   rcases zzJ.mp mx with mx | mx
   · exact .inl ⟨x, mx, rfl⟩
   · right; rw [show x = v by simpa using mx]) ⟨[], [], none, rfl, (Lvl.nil 0).imp λ w _ _ hw => by
     obtain ⟨x, mx, _⟩ := hw; simp at mx⟩
 rw [zD, zD, zyV, List.take_length] at L
 refine ⟨K, R, e10, L.imp λ w wl wm _ => ?_, wO (zhg (zb (i := 1) rfl)) hf⟩
 match w, wl with
 | [x], _ => exact ⟨x, wm x zzC, rfl⟩
end
open L2 (zW Key atI xY)
section
variable {n m : Nat} {J : TZ} {e : Int} {S : SS} {row held : List Int}
abbrev stB : SF := (zE (zJ true 15 (f2 (f2 zcO vX ixP) (xg (dC zbZ dN)) zK))
 (zE (zJ true 16 (f2 (f2 xU vX ixP) zbZ ixP))
 (VG 13 YB (zdt (aC (zbH YD (aC YB (aC Zv aN))) (aC Zv aN))))))
theorem znT {s i : Nat} {K K' : List Int} {R R' : List (List Int)} {v x : Int} {r : List Int} {ok : List Int -> Prop} {e11 e12 e15 e16 : Option O} (hJ : Tab n n J) (n8 : n <= 8) (hrow : ∀ x ∈ row, InR n x) (hs : s <= 8) (L : Lvl (jAt J) row s K R λ _ => True) (hi : K[i]? = some v) (hr : R[i]? = some r) (hx : x ∈ row) (L' : Lvl (jAt J) row (s + 1) K' R' ok) :
 ∃ K2 R2, Lvl (jAt J) row (s + 1) K2 R2 (λ w => ok w \/ w = r ++ [x]) /\ stB (B17 n m J e S row held (fK K R) (sI v) e11 e12 (dK K' R') (sI x) e15 e16) = some (.nx (B17 n m J e S row held (fK K R) (sI v) e11 e12 (dK K2 R2) (sI x) (sT (zq (r ++ [x]))) (sI (jAt J v x)))) := by
 obtain ⟨r1, r2, r3⟩ := L.it i v r hi hr
 have rne : r ≠ [] := λ z => by rw [z] at r1; simp at r1
 have vR := L.inR hJ hrow v (zzX hi)
 obtain ⟨t1, t2⟩ := zaf hJ vR
 obtain ⟨w1, w2⟩ := rowAt t2 (hrow x hx)
 have ew : rAt (zdA J v) x = jAt J v x := rfl
 rw [ew] at w1
 have b9 : WE (f2 zcO vX ixP) (B17 n m J e S row held (fK K R) (sI v) e11 e12 (dK K' R') (sI x) e15 e16) (zq r) := zgx (i := 9) rfl (znt K R) (WD.e (zb (i := 10) rfl)) (by show imR (vL (mp K R) (kI v)) = _; rw [X4 L.nd hi hr]; rfl)
 have cat := zpE (g := zak .Add) b9 (Zd (os := [lfI x]) (x := .lst [.int x]) (xf (zb (i := 14) rfl) yM) (szl rfl) rfl rfl) (add_lists (szs (by rw [zD]; show _ + 1 <= _; omega)))
 rw [show r.map D.int ++ [D.int x] = (r ++ [x]).map D.int by rw [zyJ]; rfl] at cat
 have s15 := Yy (p := 15) cat (zL rfl)
 have s16 := Yy (as := B17 n m J e S row held (fK K R) (sI v) e11 e12 (dK K' R') (sI x) (sT (zq (r ++ [x]))) e16) (p := 16) (WD.e (f2E (WD.e (f2E (WD.e (zb (i := 5) rfl)) (WD.e (zb (i := 10) rfl)) t1)) (WD.e (zb (i := 14) rfl)) w1)) (zL rfl)
 have kl := zaT L'.nd (L'.inR hJ hrow)
 have ewh : wh (jAt J) (r ++ [x]) = jAt J v x := by rw [zcs rne, r3]
 have g := ziV (as := B17 n m J e S row held (fK K R) (sI v) e11 e12 (dK K' R') (sI x) (sT (zq (r ++ [x]))) (sI (jAt J v x))) (i := 13) (j := 16) (l := 15) (K := K') (R := R') (t := jAt J v x) (u := r ++ [x]) rfl rfl rfl
 have fin : ∀ rr : List Int, WD (zdt (aC (zbH YD (aC YB (aC Zv aN))) (aC Zv aN))) (B17 n m J e S row held (fK K R) (sI v) e11 e12 (dK K' R') (sI x) (sT (zq (r ++ [x]))) (sI (jAt J v x))) true (zq rr) ->
  ((rr = r ++ [x] /\ jAt J v x ∉ K') \/ ∃ (i : Nat) (r0 : List Int), K'[i]? = some (jAt J v x) /\ R'[i]? = some r0 /\ rr = if ltI (r ++ [x]) r0 = true then r ++ [x] else r0) ->
  ∃ K2 R2, Lvl (jAt J) row (s + 1) K2 R2 (λ w => ok w \/ w = r ++ [x]) /\ stB (B17 n m J e S row held (fK K R) (sI v) e11 e12 (dK K' R') (sI x) e15 e16) = some (.nx (B17 n m J e S row held (fK K R) (sI v) e11 e12 (dK K2 R2) (sI x) (sT (zq (r ++ [x]))) (sI (jAt J v x)))) := λ rr hw hc => by
  have d := zoS (i := 13) (k := kI (jAt J v x)) hw (show (B17 n m J e S row held (fK K R) (sI v) e11 e12 (dK K' R') (sI x) (sT (zq (r ++ [x]))) (sI (jAt J v x)))[13]? = _ from rfl) (zb (i := 16) rfl) rfl (by rw [zD]; exact zW (by omega))
  rw [putD] at d
  have P := (L'.put (u := r ++ [x]) (r := rr) (by rw [zzG, r1]; rfl) (λ y my => (zzJ.mp my).elim (r2 y) λ z => by rw [zzO.mp z]; exact hx) (by rw [ewh]; exact hc)).1
  rw [ewh] at P
  exact ⟨_, _, P, zU s15 (zU s16 d)⟩
 by_cases hk : jAt J v x ∈ K'
 · obtain ⟨j, hj⟩ := zyS hk
   have hr0 := zzB (l := R') (i := j) (by rw [<- L'.len]; exact (zzD.mp hj).1)
   rw [X4 L'.nd hj hr0] at g
   exact fin _ (zfv g rfl) (.inr ⟨j, _, hj, hr0, rfl⟩)
 · rw [zes hk] at g
   have mn := zfv (l := 15) (u := r ++ [x]) g rfl
   rw [zfy, if_neg zyT] at mn
   exact fin _ mn (.inl ⟨rfl, hk⟩)
theorem znn {s i : Nat} {K K' : List Int} {R R' : List (List Int)} {v : Int} {r : List Int} {ok : List Int -> Prop} {e11 e12 e14 e15 e16 : Option O} (hJ : Tab n n J) (n8 : n <= 8) (hrow : ∀ x ∈ row, InR n x) (hs : s <= 8) (L : Lvl (jAt J) row s K R λ _ => True) (hi : K[i]? = some v) (hr : R[i]? = some r) (L' : Lvl (jAt J) row (s + 1) K' R' ok) :
 ∃ K2 R2 e14' e15' e16', Lvl (jAt J) row (s + 1) K2 R2 (λ w => ok w \/ ∃ x ∈ row, w = r ++ [x]) /\ wH (Vk yg) zfd stB (B17 n m J e S row held (fK K R) (sI v) e11 e12 (dK K' R') e14 e15 e16) = some (.nx (B17 n m J e S row held (fK K R) (sI v) e11 e12 (dK K2 R2) e14' e15' e16')) := by
 obtain ⟨as', hf, K2, R2, a14, a15, a16, rfl, P⟩ := xx (g := gN 14) (f := stB) (λ j as => ∃ K2 R2 a14 a15 a16, as = B17 n m J e S row held (fK K R) (sI v) e11 e12 (dK K2 R2) a14 a15 a16 /\ Lvl (jAt J) row (s + 1) K2 R2 (λ w => ok w \/ ∃ x ∈ row.take j, w = r ++ [x])) ((row.map D.int).map λ d => (true, d)) 0 (B17 n m J e S row held (fK K R) (sI v) e11 e12 (dK K' R') e14 e15 e16) (λ j y as hy hI => by
  obtain ⟨K2, R2, a14, a15, a16, rfl, P⟩ := hI
  rw [zzY, zzF] at hy
  cases hv : row[j]? with
  | none => rw [hv] at hy; cases hy
  | some x =>
   rw [hv] at hy
   cases hy
   rw [zyV] at P ⊢
   obtain ⟨K3, R3, Q, st⟩ := znT (n := n) (m := m) (e := e) (S := S) (held := held) (e11 := e11) (e12 := e12) (e15 := a15) (e16 := a16) hJ n8 hrow hs L hi hr (zzX hv) P
   refine ⟨_, rfl, _, st, _, _, _, _, _, rfl, Q.imp λ w _ _ hw => ?_⟩
   rcases hw with hw | ⟨z, mz, rfl⟩
   · exact .inl (.inl hw)
   · rw [List.take_succ, hv] at mz
     rcases zzJ.mp mz with mz | mz
     · exact .inl (.inr ⟨z, mz, rfl⟩)
     · right; rw [show z = x by simpa using mz]) ⟨K', R', e14, e15, e16, rfl, L'.imp λ w _ _ hw => hw.elim id λ ⟨z, mz, _⟩ => by simp at mz⟩
 rw [zD, zD, zyV, List.take_length] at P
 exact ⟨K2, R2, a14, a15, a16, P, wO (zhg (zb (i := 1) rfl)) hf⟩
theorem zoB {s : Nat} {K : List Int} {R : List (List Int)} {e10 e11 e12 e14 e15 e16 : Option O} (hJ : Tab n n J) (n8 : n <= 8) (hrow : ∀ x ∈ row, InR n x) (hs : s <= 8) (L : Lvl (jAt J) row s K R λ _ => True) :
 ∃ K2 R2 a10 a14 a15 a16, Lvl (jAt J) row (s + 1) K2 R2 (λ _ => True) /\ wH (iKZ 9) zfg (wH (Vk yg) zfd stB) (B17 n m J e S row held (fK K R) e10 e11 e12 (dK [] []) e14 e15 e16) = some (.nx (B17 n m J e S row held (fK K R) a10 e11 e12 (dK K2 R2) a14 a15 a16)) := by
 obtain ⟨as', hf, K2, R2, a10, a14, a15, a16, rfl, P⟩ := xx (g := gN 10) (f := wH (Vk yg) zfd stB) (λ j as => ∃ K2 R2 a10 a14 a15 a16, as = B17 n m J e S row held (fK K R) a10 e11 e12 (dK K2 R2) a14 a15 a16 /\ Lvl (jAt J) row (s + 1) K2 R2 (λ w => ∃ r ∈ R.take j, ∃ x ∈ row, w = r ++ [x])) (K.map λ k => (true, D.int k)) 0 (B17 n m J e S row held (fK K R) e10 e11 e12 (dK [] []) e14 e15 e16) (λ j y as hy hI => by
  obtain ⟨K2, R2, a10, a14, a15, a16, rfl, P⟩ := hI
  rw [zzF] at hy
  cases hv : K[j]? with
  | none => rw [hv] at hy; cases hy
  | some v =>
   rw [hv] at hy
   cases hy
   rw [zyV] at P ⊢
   have hr := zzB (l := R) (i := j) (by rw [<- L.len]; exact (zzD.mp hv).1)
   obtain ⟨K3, R3, b14, b15, b16, Q, st⟩ := znn (n := n) (m := m) (e := e) (S := S) (held := held) (e11 := e11) (e12 := e12) (e14 := a14) (e15 := a15) (e16 := a16) hJ n8 hrow hs L hv hr P
   refine ⟨_, rfl, _, st, _, _, _, _, _, _, rfl, Q.imp λ w _ _ hw => ?_⟩
   obtain ⟨r, mr, x, mx, rfl⟩ := hw
   rw [List.take_succ, hr] at mr
   rcases zzJ.mp mr with mr | mr
   · exact .inl ⟨r, mr, x, mx, rfl⟩
   · right; refine ⟨x, mx, ?_⟩; rw [show r = _ by simpa using mr]) ⟨[], [], e10, e14, e15, e16, rfl, (Lvl.nil (s + 1)).imp λ w _ _ ⟨r, mr, _⟩ => by simp at mr⟩
 rw [zD, zyV, L.len, List.take_length] at P
 refine ⟨K2, R2, a10, a14, a15, a16, L.next P, wO (xs := K.map λ k => (true, D.int k)) ?_ hf⟩
 show some ((K.map kI).map (λ k => (true, keyOf k)), _) = _
 rw [zzY]; rfl
end
open L2 (zW Key atI xY)
section
variable {n m : Nat} {J : TZ} {e : Int} {S : SS} {row held : List Int}
def gdR (held : List Int) (K : List Int) (R : List (List Int)) : List (List Int) := ((K.zip R).filter λ p => decide (p.1 ∈ held)).map (·.2)
theorem zfT {K : List Int} {R : List (List Int)} {r : List Int} : r ∈ gdR held K R ↔ ∃ (i : Nat) (k : Int), K[i]? = some k /\ R[i]? = some r /\ k ∈ held := by
 unfold gdR
 rw [zxB]
 constructor
 · rintro ⟨⟨k, r'⟩, h1, rfl⟩
   obtain ⟨h2, h3⟩ := List.mem_filter.mp h1
   obtain ⟨i, hi⟩ := zyS h2
   obtain ⟨a, b⟩ := List.getElem?_zip_eq_some.mp hi
   exact ⟨i, k, a, b, of_decide_eq_true h3⟩
 · rintro ⟨i, k, a, b, c⟩
   refine ⟨(k, r), List.mem_filter.mpr ⟨zzX ((List.getElem?_zip_eq_some (z := (k, r))).mpr ⟨a, b⟩), zyL c⟩, rfl⟩
abbrev gdF : EF := yj (iKB 9) [none, some 9, some 2] wQ (fT (f2 zR yJ zbi)) (f2 yg zR ixP)
theorem zkF {K : List Int} {R : List (List Int)} {e10 e11 e12 e13 e14 e15 e16 : Option O} (hl : K.length = R.length) (nd : K.Nodup) (hz : K.length <= 8) :
 zJ true 12 gdF (B17 n m J e S row held (dK K R) e10 e11 e12 e13 e14 e15 e16) = some (.nx (B17 n m J e S row held (fK K R) e10 e11 (sT (.lst ((gdR held K R).map zq))) e13 e14 e15 e16)) := by
 have i1 : iKB 9 (B17 n m J e S row held (dK K R) e10 e11 e12 e13 e14 e15 e16) = some (K.map λ k => (true, D.int k), B17 n m J e S row held (fK K R) e10 e11 e12 e13 e14 e15 e16) := by
  show (if _ /\ _ then some ((K.map kI).map (λ k => (true, keyOf k)), _) else none) = _
  rw [if_pos ⟨zgD _, V4 _⟩, zzY]; rfl
 have i2 : ZP [none, some 9, some 2] (B17 n m J e S row held (fK K R) e10 e11 e12 e13 e14 e15 e16) = [none, sT (.dct (mp K R)), sT (zq held)] := by
  show [none, some (O.lf (((R.map zq).map (O.lf true)).all O.isLf && O.strs ((R.map zq).map (O.lf true))) (.dct ((K.map kI).zip (O.toDs ((R.map zq).map (O.lf true)))))), sT (zq held)] = _
  rw [zgD, V4, Vl]; rfl
 have i3 : K.map (λ k => (true, D.int k)) = (K.zip R).map λ p => (true, D.int p.1) := by
  rw [show (λ p : Int × List Int => (true, D.int p.1)) = (λ k => (true, D.int k)) ∘ Prod.fst from rfl, <- zzY, List.map_fst_zip (by omega)]
 obtain ⟨os, c1, c2, c3⟩ := zan (h := λ p : Int × List Int => zq p.2) (p := λ p => decide (p.1 ∈ held)) (it := λ p => (true, D.int p.1)) (gg := gN 0) (tt := fT (f2 zR yJ zbi)) (fe := f2 yg zR ixP) (as0 := [none, sT (.dct (mp K R)), sT (zq held)]) (K.zip R) λ p mp' => by
  obtain ⟨i, hi⟩ := zyS mp'
  obtain ⟨a, b⟩ := List.getElem?_zip_eq_some.mp hi
  exact ⟨[sI p.1, sT (.dct (mp K R)), sT (zq held)], rfl, inV (vJ (zb (i := 0) rfl)) (vJ (zb (i := 2) rfl)), λ _ => WD.e (zcC (zb (i := 1) rfl) (zb (i := 0) rfl) (by show imR (vL (mp K R) (kI p.1)) = _; rw [X4 nd a b]; rfl))⟩
 have f : gdF (B17 n m J e S row held (dK K R) e10 e11 e12 e13 e14 e15 e16) = some (.ow (.nd .ls os), B17 n m J e S row held (fK K R) e10 e11 e12 e13 e14 e15 e16) := by
  show (iKB 9 _).bind _ = _
  rw [i1]
  show (if (K.map λ k => (true, D.int k)).length <= sizeLine then (yW _ _ _ (ZP _ _) _).bind _ else none) = _
  rw [if_pos (by rw [zD]; exact szs (by omega)), i2, i3, c1]; rfl
 unfold zJ
 rw [f]
 show some (Out.nx ((B17 n m J e S row held (fK K R) e10 e11 e12 e13 e14 e15 e16).set 12 (some (.lf (O.strs os) (.lst (O.toDs os)))))) = _
 rw [c2, c3]
 unfold gdR
 rw [zzY]; rfl
abbrev tnB : SF := (zE (zJ true 12 gdF)
 (zE (sIf (fT (f2 zaJ (xg dN) Z7)) (yZ (fP zkn zhJ)) sNx)
 (zE (zJ false 13 fD0)
 (zE (wH (iKZ 9) zfg (wH (Vk yg) zfd stB))
 (zJ false 9 (fMv 13))))))
theorem zpx {s : Nat} {K : List Int} {R : List (List Int)} {e10 e11 e12 e13 e14 e15 e16 : Option O} (hJ : Tab n n J) (n8 : n <= 8) (hrow : ∀ x ∈ row, InR n x) (hs : s <= 8) (L : Lvl (jAt J) row s K R λ _ => True) :
 (∃ r : List Int, tnB (B17 n m J e S row held (dK K R) e10 e11 e12 e13 e14 e15 e16) = some (.rt (.lf true (zq r))) /\ r.length = s + 1 /\ (∀ x ∈ r, x ∈ row) /\ wh (jAt J) r ∈ held /\ ∀ w : List Int, w.length = s + 1 -> (∀ x ∈ w, x ∈ row) -> wh (jAt J) w ∈ held -> sle r w) \/
 ((∀ w : List Int, w.length = s + 1 -> (∀ x ∈ w, x ∈ row) -> wh (jAt J) w ∉ held) /\ ∃ K2 R2 a10 a12 a14 a15 a16, Lvl (jAt J) row (s + 1) K2 R2 (λ _ => True) /\ tnB (B17 n m J e S row held (dK K R) e10 e11 e12 e13 e14 e15 e16) = some (.nx (B17 n m J e S row held (dK K2 R2) a10 e11 a12 none a14 a15 a16))) := by
 have kl := zaT L.nd (L.inR hJ hrow)
 have g := zkF (n := n) (m := m) (J := J) (e := e) (S := S) (row := row) (held := held) (e10 := e10) (e11 := e11) (e12 := e12) (e13 := e13) (e14 := e14) (e15 := e15) (e16 := e16) L.len L.nd (by omega)
 have emp : WE (xg dN) (B17 n m J e S row held (fK K R) e10 e11 (sT (.lst ((gdR held K R).map zq))) e13 e14 e15 e16) (.lst []) := Zd yM (szl rfl) rfl rfl
 have low : ∀ w : List Int, w.length = s + 1 -> (∀ x ∈ w, x ∈ row) -> wh (jAt J) w ∈ held -> ∃ r ∈ gdR held K R, sle r w := λ w wl wm hw => by
  obtain ⟨i, r, k1, k2, k3⟩ := L.least w wl wm trivial
  exact ⟨r, zfT.mpr ⟨i, _, k1, k2, hw⟩, k3⟩
 by_cases hg : gdR held K R = []
 · right
   have t : WT (fT (f2 zaJ (xg dN) Z7)) (B17 n m J e S row held (fK K R) e10 e11 (sT (.lst ((gdR held K R).map zq))) e13 e14 e15 e16) false := vq (zfC (q := true) (WD.e (zb (i := 12) rfl)) emp (by rw [hg]; rfl)) rfl
   refine ⟨λ w wl wm z => ?_, ?_⟩
   · obtain ⟨r, mr, _⟩ := low w wl wm z
     rw [hg] at mr; cases mr
   · obtain ⟨K2, R2, a10, a14, a15, a16, P, st⟩ := zoB (n := n) (m := m) (e := e) (S := S) (held := held) (e10 := e10) (e11 := e11) (e12 := sT (.lst ((gdR held K R).map zq))) (e14 := e14) (e15 := e15) (e16 := e16) hJ n8 hrow hs L
     exact ⟨K2, R2, a10, _, a14, a15, a16, P, zU g (zU (wN t rfl) (zU (as1 := B17 n m J e S row held (fK K R) e10 e11 (sT (.lst ((gdR held K R).map zq))) (dK [] []) e14 e15 e16) rfl (zU st rfl)))⟩
 · left
   have hl : ∀ r ∈ gdR held K R, r.length = s + 1 := λ r mr => by
    obtain ⟨i, k, a, b, _⟩ := zfT.mp mr
    exact (L.it i k r a b).1
   obtain ⟨m1, m2⟩ := zmB hg hl
   have t : WT (fT (f2 zaJ (xg dN) Z7)) (B17 n m J e S row held (fK K R) e10 e11 (sT (.lst ((gdR held K R).map zq))) e13 e14 e15 e16) true := vq (zfC (q := false) (WD.e (zb (i := 12) rfl)) emp (by
    cases hc : gdR held K R with
    | nil => exact absurd hc hg
    | cons x y => rfl)) rfl
   have mn : WD (fP zkn zhJ) (B17 n m J e S row held (fK K R) e10 e11 (sT (.lst ((gdR held K R).map zq))) e13 e14 e15 e16) true (zq (zdK (gdR held K R))) := zog (WD.e (zb (i := 12) rfl)) (by
    show (zdn ((gdR held K R).map zq)).bind _ = _
    rw [zhq]
    exact if_pos (List.length_pos_iff.mpr hg))
   obtain ⟨i, k, a, b, c⟩ := zfT.mp m1
   obtain ⟨r1, r2, r3⟩ := L.it i k _ a b
   refine ⟨zdK (gdR held K R), zU g (Zc (v4 t (Zu mn))), r1, r2, by rw [r3]; exact c, λ w wl wm hw => ?_⟩
   obtain ⟨r, mr, h⟩ := low w wl wm hw
   exact W9 (m2 r mr) h
theorem zhW {g : GF} {f : SF} {d : It1} {r : List It1} {as as1 as2 : AS} (h1 : g d as = some as1) (h2 : f as1 = some (.nx as2)) : forL g f (d :: r) as = forL g f r as2 := by
 show (g d as).bind _ = _
 rw [h1]; show (f as1).bind _ = _
 rw [h2]; rfl
theorem zkv (hJ : Tab n n J) (n8 : n <= 8) (hrow : ∀ x ∈ row, InR n x) : ∀ (t s : Nat) (K : List Int) (R : List (List Int)) (e10 e11 e12 e13 e14 e15 e16 : Option O), s + t = n -> Lvl (jAt J) row s K R (λ _ => True) -> (∀ w : List Int, w ≠ [] -> w.length <= s -> (∀ x ∈ w, x ∈ row) -> wh (jAt J) w ∉ held) ->
 (∃ r : List Int, forL zeX tnB (wI s t) (B17 n m J e S row held (dK K R) e10 e11 e12 e13 e14 e15 e16) = some (.rt (.lf true (zq r))) /\ r ≠ [] /\ r.length <= n /\ (∀ x ∈ r, x ∈ row) /\ wh (jAt J) r ∈ held /\ ∀ w : List Int, w ≠ [] -> (∀ x ∈ w, x ∈ row) -> wh (jAt J) w ∈ held -> sle r w) \/
 ((∀ w : List Int, w ≠ [] -> w.length <= n -> (∀ x ∈ w, x ∈ row) -> wh (jAt J) w ∉ held) /\ ∃ as', forL zeX tnB (wI s t) (B17 n m J e S row held (dK K R) e10 e11 e12 e13 e14 e15 e16) = some (.nx as'))
 | 0, s, K, R, e10, e11, e12, e13, e14, e15, e16, h, L, lo => .inr ⟨λ w a b => lo w a (by omega), _, rfl⟩
 | t + 1, s, K, R, e10, e11, e12, e13, e14, e15, e16, h, L, lo => by
  rw [zag]
  rcases zpx (n := n) (m := m) (e := e) (S := S) (held := held) (e10 := e10) (e11 := sI s) (e12 := e12) (e13 := e13) (e14 := e14) (e15 := e15) (e16 := e16) hJ n8 hrow (by omega) L with ⟨r, q1, q2, q3, q4, q5⟩ | ⟨q1, K2, R2, a10, a12, a14, a15, a16, P, q2⟩
  · refine .inl ⟨r, zeS (as1 := B17 n m J e S row held (dK K R) e10 (sI s) e12 e13 e14 e15 e16) rfl q1, λ z => by rw [z] at q2; simp at q2, by omega, q3, q4, λ w wne wm hw => ?_⟩
    rcases Nat.lt_trichotomy w.length (s + 1) with z | z | z
    · exact absurd hw (lo w wne (by omega) wm)
    · exact q5 w z wm hw
    · exact .inr (.inl (by omega))
  · have step : forL zeX tnB ((true, .int s) :: wI (s + 1) t) (B17 n m J e S row held (dK K R) e10 e11 e12 e13 e14 e15 e16) = forL zeX tnB (wI ((s + 1 : Nat) : Int) t) (B17 n m J e S row held (dK K2 R2) a10 (sI s) a12 none a14 a15 a16) := by
     have e1 : gN 11 (true, .int s) (B17 n m J e S row held (dK K R) e10 e11 e12 e13 e14 e15 e16) = some (B17 n m J e S row held (dK K R) e10 (sI s) e12 e13 e14 e15 e16) := rfl
     have e2 : ((s + 1 : Nat) : Int) = (s : Int) + 1 := rfl
     rw [e2]
     exact zhW e1 q2
    rw [step]
    exact zkv hJ n8 hrow t (s + 1) K2 R2 a10 (sI s) a12 none a14 a15 a16 (by omega) P λ w wne wl wm => by
     rcases Nat.lt_or_ge w.length (s + 1) with z | z
     · exact lo w wne (by omega) wm
     · exact q1 w (by omega) wm
theorem zry {a b : D} : gT 6 (gsC (gN 3) (gsC zgv (gsC Vb (gsC zbq (gsC (gN 7) (gsC (gN 8) gsN)))))) (true, alD n m J e S) (vG 17 [(true, alD n m J e S), (true, a), (true, b)]) = some [sT (alD n m J e S), sT a, sT b, sI n, sI m, sT (ZQ J), sI e, sT (.lst []), sT (.lst (S.map wu)), none, none, none, none, none, none, none, none] := rfl
theorem zlg (h : AA n J e S (alD n m J e S)) (hrow : ∀ x ∈ row, InR n x) (hl : row.length < 64) : ∃ o, Lst (jAt J) e row held o /\ RE (Z6 [(true, alD n m J e S), (true, zq row), (true, zq held)]) (outD o) := by
 have n8 := h.n8
 have sa : zcI zR (gT 6 (gsC (gN 3) (gsC zgv (gsC Vb (gsC zbq (gsC (gN 7) (gsC (gN 8) gsN))))))) (vG 17 [(true, alD n m J e S), (true, zq row), (true, zq held)]) = some (.nx (B17 n m J e S row held none none none none none none none none)) := zfM (zb (i := 0) rfl) zry
 have t := inV (as := B17 n m J e S row held none none none none none none none none) (a := fV 6) (b := fV 2) (x := e) (l := held) (vJ (zb (i := 6) rfl)) (vJ (zb (i := 2) rfl))
 by_cases he : e ∈ held
 · rw [zyL he] at t
   exact ⟨some [], .inl ⟨he, rfl⟩, WW rfl (yf sa (zll (zoi t (zen (Zd yM (szl rfl) rfl rfl)))))⟩
 · rw [zyD he] at t
   obtain ⟨K, R, e10, L, s1⟩ := zli (n := n) (m := m) (J := J) (e := e) (S := S) (held := held) h.j n8 hrow
   have rg : yX zbo xq (B17 n m J e S row held (dK K R) e10 none none none none none none) = some (wI ((0 : Nat) : Int) n, B17 n m J e S row held (dK K R) e10 none none none none none none) := by
    have := wR (zG (zb (as := B17 n m J e S row held (dK K R) e10 none none none none none none) (i := 3) rfl) zX) (Int.ofNat_nonneg n) (by omega)
    rw [zyF] at this
    exact this
   have s0 : zJ false 9 fD0 (B17 n m J e S row held none none none none none none none none) = some (.nx (B17 n m J e S row held (dK [] []) none none none none none none none)) := rfl
   rcases zkv (n := n) (m := m) (e := e) (S := S) (held := held) h.j n8 hrow n 0 K R e10 none none none none none none (by omega) L (λ w wne wl => by
    have : w = [] := List.length_eq_zero_iff.mp (by omega)
    exact absurd this wne) with ⟨r, q1, q2, q3, q4, q5, q6⟩ | ⟨q1, as', q2⟩
   · exact ⟨some r, .inr ⟨he, q2, by omega, q4, q5, q6⟩, WW rfl (yf sa (yf (wN t rfl) (yf s0 (yf s1 ⟨_, Zc (wO rg q1), rfl, rfl⟩))))⟩
   · obtain ⟨K', R', hB, hK, hq, _⟩ := WK (A := alD n m J e S) (q := true) (vs := vsO row) h.j n8 h.a2 (zmO row) λ x mx => hrow x (zas.mp mx)
     refine ⟨none, ⟨he, λ w wne wm z => ?_⟩, WW rfl (yf sa (yf (wN t rfl) (yf s0 (yf s1 (yf (wO rg q2) (zen (WD.e zp)))))))⟩
     obtain ⟨j, r, k1, k2, k3⟩ := hB.least (w.length - 1) w (by have := List.length_pos_iff.mpr wne; omega) λ x mx => zas.mpr (wm x mx)
     obtain ⟨r1, r2, r3⟩ := hB.row j _ r k1 k2
     have l1 := hq r (zzX k2)
     have l2 := zaT hB.nd hK
     have l3 := hB.len
     exact q1 r r1 (by omega) (λ x mx => zas.mp (r2 x mx)) (by rw [r3]; exact z)
end
open L2 (zW Key atI xY)
section
variable {n m : Nat} {J : TZ} {e : Int} {S : SS} {row held : List Int}
theorem Lst.uniq {f : Int -> Int -> Int} {o o' : Option (List Int)} (h : Lst f e row held o) (h' : Lst f e row held o') : o = o' := by
 cases o with
 | none =>
  cases o' with
  | none => rfl
  | some r =>
   rcases h' with ⟨z, _⟩ | ⟨_, z1, _, z2, z3, _⟩
   · exact absurd z h.1
   · exact absurd z3 (h.2 r z1 z2)
 | some r =>
  cases o' with
  | none =>
   rcases h with ⟨z, _⟩ | ⟨_, z1, _, z2, z3, _⟩
   · exact absurd z h'.1
   · exact absurd z3 (h'.2 r z1 z2)
  | some r' =>
   rcases h with ⟨z, rfl⟩ | ⟨z, a1, _, a2, a3, a4⟩
   · rcases h' with ⟨_, rfl⟩ | ⟨z', _⟩
     · rfl
     · exact absurd z z'
   · rcases h' with ⟨z', _⟩ | ⟨_, b1, _, b2, b3, b4⟩
     · exact absurd z' z
     · rw [ziN (a4 r' b1 b2 b3) (b4 r a1 a2 a3)]
theorem zij {fr : AF} {as : AS} {rs : List (Bool × D)} {g : List (Bool × D) -> Option O} {o o' : O} (ha : WA fr as rs) (hg : g (rs.map λ x => (zH x.2, x.2)) = some o) (ho : zkm o = some o') : zao fr g as = some (.ow o', as) := by
 unfold zao; unfold WA at ha
 rw [ha]; show (Xa as _).bind _ = _
 rw [Wr]
 show (g ((rs.map λ x => (zH x.2 || x.1, x.2)).map λ y => (zH y.2, y.2))).bind _ = _
 rw [zzY]
 show (g (rs.map λ x => (zH x.2, x.2))).bind _ = _
 rw [hg]; show (zkm o).bind _ = _
 rw [ho]; rfl
theorem zqd {as : AS} {i : Nat} {k : PF.Kind} {ds : List D} {X : D} (h : as[i]? = some (some (.nd k (ds.map (O.lf true))))) (hX : (O.nd k (ds.map (O.lf true))).toD = X) : VV (fV i) as X := ⟨.bo i, true, W5 h, (Y9 h).trans (by rw [zeW, hX])⟩
theorem zro {f : EF} {as : AS} {d : D} {c : String} {q : Bool} (ha : VV f as d) (e : zfa (tyD d) c = q) (ho : ziO d = true := by rfl) : WD (zgf f c) as true (.bl q) := by
 obtain ⟨ra, la, h1, h2⟩ := ha
 subst e
 unfold WD zgf
 simp only [h1, h2, zyI]
 rw [if_pos ho]
theorem zhS (x : Int) : vH [(true, .int x)] = sT (.bl true) := rfl
abbrev V6 (A : D) (row : List Int) (s : Str) (held : List Int) (e4 e5 : Option O) : AS := [sT A, sT (zq row), sT (.str s), sT (zq held), e4, e5]
theorem zex (r : List Int) : eqF 60 (zq r) (zq r) = some true := by
 have := zeN (n := 58) (vY r) (vY r)
 rw [beq_self_eq_true] at this
 exact this
theorem zjl {p : Str × List Int} (h : AA n J e S (alD n m J e S)) (hp : p ∈ S) (hrow : ∀ x ∈ row, InR n x) (hl : row.length < 64) : vI [(true, alD n m J e S), (true, zq row), (true, .str p.1), (true, zq p.2)] = sT (.bl true) := by
 obtain ⟨o, ho, wb⟩ := zlg (held := p.2) h hrow hl
 obtain ⟨o1, O1, h1, g1, g2, g3, g4⟩ := W4 h hp hrow hl false
 obtain ⟨o2, O2, h2, f1, f2', f3, f4⟩ := W4 h hp hrow hl true
 have e1 := h1.uniq ho
 have e2 := h2.uniq ho
 subst e1
 subst e2
 have s4 := Yy (as := V6 (alD n m J e S) row p.1 p.2 none none) (p := 4) (zdS (WD.e (zb (i := 0) rfl)) (WD.e (zb (i := 1) rfl)) (WD.e (zb (i := 3) rfl)) wb) (zL rfl)
 have s5 := wX (as := V6 (alD n m J e S) row p.1 p.2 (sT (outD o2)) none) (i := 5) (zij (g := yR) (zG (zb (i := 0) rfl) (zG (zb (i := 1) rfl) (zG (zb (i := 2) rfl) zX))) g1 g4) (zL rfl)
 cases o2 with
 | none =>
  have i4 : WD (f2 xF (fC .non) zbj) (V6 (alD n m J e S) row p.1 p.2 (sT .non) (sT .non)) true (.bl true) := yO (zb (i := 4) rfl) (zp (x := .non)) rfl rfl
  have i5 : WD (f2 xU (fC .non) zbj) (V6 (alD n m J e S) row p.1 p.2 (sT .non) (sT .non)) true (.bl true) := yO (zb (i := 5) rfl) (zp (x := .non)) rfl rfl
  exact Z8 rfl (zU s4 (zU s5 (Zc (v4 (zgM (l := true) (vq i4 rfl) (λ z => nomatch z) λ _ => rfl) (Zu (zkI i4 (λ _ => i5) λ z => nomatch z))))))
 | some r =>
  have el : (r.map λ n => O.lf true (D.int n)) = (r.map D.int).map (O.lf true) := by rw [zzY]; rfl
  have s5' : zJ false 5 (zao (aC zR (aC yg Va)) yR) (V6 (alD n m J e S) row p.1 p.2 (sT (zq r)) none) = some (.nx (V6 (alD n m J e S) row p.1 p.2 (sT (zq r)) (sN ((r.map D.int).map (O.lf true))))) := by rw [<- el]; exact s5
  have v5 : VV xU (V6 (alD n m J e S) row p.1 p.2 (sT (zq r)) (sN ((r.map D.int).map (O.lf true)))) (zq r) := zqd (i := 5) rfl (zfw _)
  have i4 : WT (fT (f2 xF (fC .non) zbj)) (V6 (alD n m J e S) row p.1 p.2 (sT (zq r)) (sN ((r.map D.int).map (O.lf true)))) false := vq (yO (zb (i := 4) rfl) (zp (x := .non)) rfl rfl) rfl
  have i5 : WT (fT (f2 xU (fC .non) zbj)) (V6 (alD n m J e S) row p.1 p.2 (sT (zq r)) (sN ((r.map D.int).map (O.lf true)))) false := vq (vf2 v5 (vJ (zp (x := .non))) rfl rfl) rfl
  have r8 : r.length <= 8 := by
   rcases ho with ⟨_, rfl⟩ | ⟨_, _, z, _⟩
   · exact Nat.zero_le _
   · exact z
  have t1 : WT (fT (zgf xU "list")) (V6 (alD n m J e S) row p.1 p.2 (sT (zq r)) (sN ((r.map D.int).map (O.lf true)))) true := vq (zro v5 rfl) rfl
  have t2 : WT (fT (f2 xU xF Z7)) (V6 (alD n m J e S) row p.1 p.2 (sT (zq r)) (sN ((r.map D.int).map (O.lf true)))) false := vq (vf2 (z := .bl false) v5 (vJ (zb (i := 4) rfl)) (by show (eqF 60 (zq r) (zq r)).bind _ = _; rw [zex]; rfl) rfl) rfl
  have c1 := zgp (as := V6 (alD n m J e S) row p.1 p.2 (sT (zq r)) (sN ((r.map D.int).map (O.lf true)))) (h := D.int) (p := λ _ => false) (it := λ x => (true, D.int x)) (cap := [none]) (gg := gN 0) (tt := zbn (fT (zO zcT vH))) (fe := fV 0) (fi := Yn xU) r (by
   unfold Yn xU
   rw [W5 (i := 5) (os := (r.map D.int).map (O.lf true)) rfl]
   show some (XD ((r.map D.int).map (O.lf true)), _) = _
   unfold XD
   rw [zzY, zzY]; rfl) (by omega) λ x mx => ⟨[sI x], rfl, zfZ (k := true) (vq (Yg (zG (zb (i := 0) rfl) zX) (zhS x)) rfl), λ z => nomatch z⟩
  rw [show r.filter (λ _ => false) = [] from List.filter_eq_nil_iff.mpr λ x _ => by simp] at c1
  have t3 := zgM (k := false) (zfZ t1) (λ _ => zgM (k := false) t2 (λ _ => vq (zfC (q := true) c1 (Zd yM (szl rfl) rfl rfl) rfl) rfl) λ z => nomatch z) λ z => nomatch z
  have ap := VN (as := V6 (alD n m J e S) row p.1 p.2 (sT (zq r)) (sN ((r.map D.int).map (O.lf true)))) (i := 5) (a := fC (.int 0)) rfl zp rfl (by rw [zD, zD]; exact zW (by omega))
  have c2 : WE (zO (aC zR (aC yg Va)) yR) (V6 (alD n m J e S) row p.1 p.2 (sT (zq r)) (sN ((r.map D.int).map (O.lf true) ++ [.lf true (.int 0)]))) (zq r) := zdS (WD.e (zb (i := 0) rfl)) (WD.e (zb (i := 1) rfl)) (WD.e (zb (i := 2) rfl)) ⟨O2, f1, f2', f3⟩
  exact Z8 rfl (zU s4 (zU s5' (zU (wN (zgM (k := false) i4 (λ _ => i5) λ z => nomatch z) rfl) (zU (wN t3 rfl) (zU ap (Zu (zgy c2 (WD.e (zb (i := 4) rfl)) (zex r))))))))
end
open L2 (zW Key atI xY)
abbrev vaB : SF := (ww (vg 5 (dC (f2 (zO (aC (zO (aC zR (aC (f2 yg Zk zK) aN)) zB) (aC (f2 Zk zmH zK) aN)) yu) xW zx) dN) vC))
theorem ziu {ns : List Int} {st w n : Nat} {num : Int} (hn : 1 <= n) (hw : w <= 20) : ∃ row : List Int, row.length <= w /\ (∀ v ∈ row, InR n v) /\ RE (w6 [(true, .lst (ns.map D.int)), (true, .int st), (true, .int w), (true, .int n), (true, .int num)]) (zq row) := by
 have m0 := zyK num (show ((w : Int) + 1) ≠ 0 by omega)
 have m1 := zyE num (show (0 : Int) < (w : Int) + 1 by omega)
 obtain ⟨as', hf, ys, e6, rfl, hl, hy⟩ := xx (g := gN 6) (f := vaB) (λ i as => ∃ (ys : List Int) (e6 : Option O), as = [sT (.lst (ns.map D.int)), sI st, sI w, sI n, sI num, sN (ys.map lfI), e6] /\ ys.length = i /\ ∀ y ∈ ys, InR n y)
  (wI 0 (num % ((w : Int) + 1)).toNat) 0 [sT (.lst (ns.map D.int)), sI st, sI w, sI n, sI num, sN [], none] (λ i x as hx hI => by
   obtain ⟨ys, e6, rfl, hl, hy⟩ := hI
   obtain ⟨rfl, hi⟩ := vQ hx
   refine ⟨[sT (.lst (ns.map D.int)), sI st, sI w, sI n, sI num, sN (ys.map lfI), sI (0 + i)], rfl, ?_⟩
   obtain ⟨c, hc⟩ := zbC (ns := ns) (k := (st : Int) + (0 + i)) (by omega)
   have wm := Yg (as := [sT (.lst (ns.map D.int)), sI st, sI w, sI n, sI num, sN (ys.map lfI), sI (0 + i)]) (zG (Yg (zG (zb (i := 0) rfl) (zG (yN (zb (i := 1) rfl) (zb (i := 6) rfl)) zX)) hc) (zG (yN (zb (i := 6) rfl) (zp (x := .int 80))) zX)) (zbR (c := c) (k := (0 + i : Int) + 80) (by omega) (by omega))
   have ap := zfV (i := 5) (as := [sT (.lst (ns.map D.int)), sI st, sI w, sI n, sI num, sN (ys.map lfI), sI (0 + i)]) rfl (by rw [zD]; exact zW (by omega)) (yt wm (zb (i := 3) rfl) (by omega))
   rw [<- V1] at ap
   exact ⟨_, ap, ys ++ [_], _, rfl, by rw [zzG, hl]; rfl, λ y my => (zzJ.mp my).elim (hy y) λ my => by rw [zzO.mp my]; exact zkk (by omega)⟩)
  ⟨[], none, rfl, rfl, λ _ z => nomatch z⟩
 rw [wG] at hl
 have hr := wR (as := [sT (.lst (ns.map D.int)), sI st, sI w, sI n, sI num, sN [], none]) (zG (yt (zb (i := 4) rfl) (yN (zb (i := 2) rfl) (zp (x := .int 1))) (by omega)) zX) m0 (by omega)
 refine ⟨ys, by omega, hy, WW rfl (yf (wX (i := 5) (YH yM (szl rfl)) (zL rfl)) (yf (wO hr hf) ?_))⟩
 exact ⟨_, zbw (i := 5) rfl (vM ys).2.1, (Vy ys).1, (Vy ys).2⟩
theorem zpX {n : Nat} {b : Int} {as : AS} (n8 : n <= 8) (h1 : as[2]? = some (sI n)) (h2 : ∀ d : D, gN 0 (true, d) (ZP [none, some 9] as) = some [sT d, sI b]) :
 ∃ l : List Int, WE (yj (yX Va xq) [none, some 9] wQ (fT (f2 (f2 (f2 yg (f2 yD zR zct) zm) Zj zx) yD yE)) zR) as (zq l) := by
 have := zgp (as := as) (h := λ (i : Nat) => D.int i) (p := λ i => b / 2 ^ i % 4 == 1) (it := λ (i : Nat) => (true, D.int (0 + (i : Int)))) (fi := yX Va xq) (cap := [none, some 9]) (gg := gN 0) (tt := fT (f2 (f2 (f2 yg (f2 yD zR zct) zm) Zj zx) yD yE)) (fe := fV 0) (List.range n) (by
  have := wR (zG (zb (i := 2) h1) zX) (show (0 : Int) <= n by omega) (by omega)
  rw [zyF] at this
  exact this) (by rw [zyR]; omega) (λ i hi => by
   have hi := List.mem_range.mp hi
   rw [Int.zero_add]
   have p0 : (0 : Int) < 2 ^ i := Int.pow_pos (by decide)
   have p1 : (2 : Int) ^ i < 1000 := by
    rcases (show i = 0 \/ i = 1 \/ i = 2 \/ i = 3 \/ i = 4 \/ i = 5 \/ i = 6 \/ i = 7 by omega) with rfl | rfl | rfl | rfl | rfl | rfl | rfl | rfl <;> decide
   have ws : WD (f2 yD zR zct) [sI i, sI b] true (.int (2 ^ i)) := yO zp (zb (i := 0) rfl) (by
    show (if (0 : Int) <= i /\ (i : Int) <= 1000000 /\ (1 : Int).natAbs < 2 ^ 64 then some (R0.im (.int (1 * 2 ^ (i : Int).toNat))) else none) = _
    rw [if_pos ⟨by omega, by omega, by decide⟩, zyF, Int.one_mul]) rfl
   exact ⟨[sI i, sI b], h2 _, eqT (yt (wj (zb (i := 1) rfl) ws p0 (zZ (by omega) (by omega))) zp (by decide)) zp rfl, λ _ => WD.e (zb (i := 0) rfl)⟩)
 exact ⟨((List.range n).filter λ i => b / 2 ^ i % 4 == 1).map λ (i : Nat) => (i : Int), by
  rw [show D.lst (((List.range n).filter λ i => b / 2 ^ i % 4 == 1).map λ (i : Nat) => D.int i) = zq (((List.range n).filter λ i => b / 2 ^ i % 4 == 1).map λ (i : Nat) => (i : Int)) by show _ = D.lst _; rw [zzY]; rfl] at this
  exact this⟩
open L2 (zW Key atI xY)
theorem znR {c h : Int} {n : Nat} (n1 : 1 <= n) (n8 : n <= 8) : ∃ J e S, AA n J e S (alD n 1 J e S) /\ S.length <= 3 /\ RE (ZR [(true, .int c), (true, .int h), (true, .int n)]) (alD n 1 J e S) := by
 have nn : n * n <= 64 := Nat.mul_le_mul n8 n8
 have wn : WD (f2 yJ yJ zY) [sI c, sI h, sI n, none, none, none, none, none, none, none, none] true (.int ((n * n : Nat) : Int)) := by
  rw [zzS]
  exact vW (zb (i := 2) rfl) (zb (i := 2) rfl) (zZ (by omega) (by omega)) (zZ (by omega) (by omega))
 obtain ⟨xs, xl, hx, ws⟩ := stE (as := [sI c, sI h, sI n, none, none, none, none, none, none, none, none]) (a := fV 0) (c := c) (m := n * n) (by omega) (WD.e (zb rfl)) (WD.e wn)
 obtain ⟨J, j1, j2, j3⟩ := zjX (as := [sI c, sI h, sI n, sT (zq xs), none, none, none, none, none, none, none]) (u := true) zq (Q := Row n) (n := n) (fr := aC yJ aN) (cap := [none, some 2, some 3]) (fe := yj (yX zbv xq) [none, some 1, some 2, some 0] wQ xX (f2 (f2 yJ (f2 (f2 yg xW zY) zR zK) ixP) yg zx)) (zG (zb rfl) zX) (by omega) λ a a0 a1 => by
  obtain ⟨r, r1, r2, r3⟩ := zjX (as := [sI a, sI n, sT (zq xs)]) (u := true) D.int (Q := InR n) (n := n) (fr := aC yg aN) (cap := [none, some 1, some 2, some 0]) (fe := f2 (f2 yJ (f2 (f2 yg xW zY) zR zK) ixP) yg zx) (zG (zb rfl) zX) (by omega) λ b b0 b1 => by
   have hm : (n : Int) * a + b < ((n * n : Nat) : Int) := by
    have : (n : Int) * a + n <= (n : Int) * n := by
     have := Int.mul_le_mul_of_nonneg_left (show a + 1 <= (n : Int) by omega) (show (0 : Int) <= n by omega)
     rw [Int.mul_add, Int.mul_one] at this
     exact this
    rw [zzS]; omega
   have h0 : 0 <= (n : Int) * a := Int.mul_nonneg (by omega) a0
   obtain ⟨x, hx1, _⟩ := at2 hx (k := (n : Int) * a + b) (by omega) (by rw [xl]; exact hm)
   exact ⟨[sI b, sI n, sT (zq xs), sI a], x % n, rfl, WD.e (yt (yO (zb (i := 2) rfl) (yN (vW (zb (i := 1) rfl) (zb (i := 3) rfl) (zZ (by omega) (by omega)) (zZ (by omega) (by omega))) (zb (i := 0) rfl)) hx1 rfl) (zb (i := 1) rfl) (by omega)), zkk (by omega)⟩
  exact ⟨[sI a, sI n, sT (zq xs)], r, rfl, r3, r1, r2⟩
 obtain ⟨ys, yl, hy, wy⟩ := stE (as := [sI c, sI h, sI n, sT (zq xs), sT (ZQ J), none, none, none, none, none, none]) (a := fV 1) (b := fC (.int 4)) (c := h) (m := 4) (by omega) (WD.e (zb rfl)) (WD.e zp)
 obtain ⟨y0, a0, _⟩ := at2 hy (k := 0) (by omega) (by omega)
 obtain ⟨ss, sl, snd, hw⟩ := zhL (c := h / 7) (N := 3) (by decide)
 have t0 := zyK y0 (show (3 : Int) ≠ 0 by decide)
 have t1 := zyE y0 (show (0 : Int) < 3 by decide)
 obtain ⟨t, ht, et⟩ : ∃ t : Nat, t <= 3 /\ (t : Int) = 1 + y0 % 3 := ⟨(1 + y0 % 3).toNat, by omega, by omega⟩
 let B (os : List O) (e8 e9 e10 : Option O) : AS := [sI c, sI h, sI n, sT (zq xs), sT (ZQ J), sT (zq ys), sT (.lst (ss.map D.str)), sN os, e8, e9, e10]
 obtain ⟨as', hf, os, S, e8, e9, e10, rfl, ho, hS⟩ := xx (g := gN 8) (f := (zE (zJ true 9 (f2 xU (f2 yD wF zK) ixP))
  (zE (zJ true 10 (yj (yX Va xq) [none, some 9] wQ (fT (f2 (f2 (f2 yg (f2 yD zR zct) zm) Zj zx) yD yE)) zR))
  (ww (vg 7 (dC (Zo (dC (f2 Zk wF ixP) (dC vX dN))) dN) vC)))))
  (λ i as => ∃ (os : List O) (S : SS) (e8 e9 e10 : Option O), as = B os e8 e9 e10 /\ Ows wu (λ _ => True) os S /\ S.map (·.1) = ss.take i)
  (wI 0 t) 0 (B [] none none none) (λ i x as hx' hI => by
   obtain ⟨os, S, e8, e9, e10, rfl, ho, hS⟩ := hI
   obtain ⟨rfl, hi⟩ := vQ hx'
   rw [zyV] at hS ⊢
   obtain ⟨b, hb, _⟩ := at2 hy (k := 1 + (0 + (i : Int))) (by omega) (by omega)
   have s9 := xQ (st := true) (i := 9) (as := B os (sI (0 + i)) e9 e10) (yO (zb (i := 5) rfl) (yN (zp (x := .int 1)) (zb (i := 8) rfl)) hb rfl) (zL rfl)
   obtain ⟨l, wl⟩ := zpX (n := n) (b := b) (as := B os (sI (0 + i)) (sI b) e10) n8 rfl λ _ => rfl
   have hk : i < ss.length := by omega
   have g := zzB hk
   generalize ss[i] = s at g
   have gx : ixP (.lst (ss.map D.str)) (.int (0 + (i : Int))) = some (.im (.str s)) := by
    rw [Int.zero_add]
    show imR (atI (ss.map D.str) (i : Int)) = _
    rw [xY (v := D.str s) (by rw [zzF, g]; rfl)]; rfl
   have hSl : S.length = i := by
    have := congrArg List.length hS
    rw [zD, zzP] at this
    omega
   obtain ⟨os', o1, o2⟩ := zqB (as := B os (sI (0 + i)) (sI b) (sT (zq l))) (x := (s, l)) (i := 7) (toD := wu) (Q := λ _ => True) rfl ho (by omega) (zdQ (WD.e (yO (zb (i := 6) rfl) (zb (i := 8) rfl) gx rfl)) (WD.e (zb (i := 10) rfl))) trivial
   exact ⟨B os (sI (0 + i)) e9 e10, rfl, _, zU s9 (zU (Yy (p := 10) wl (zL rfl)) o2), os', S ++ [(s, l)], _, _, _, rfl, o1, by rw [zyJ, hS, List.take_succ, g]; rfl⟩) ⟨[], [], none, none, none, rfl, Ows.nil, rfl⟩
 have hm := zkk (x := y0 / 3) (n := n) n1
 refine ⟨J, y0 / 3 % n, S, ⟨n8, ⟨j1, j2⟩, hm, rfl, rfl, rfl, by rw [hS]; exact snd.sublist (List.take_sublist _ _)⟩, ?_, ?_⟩
 · have := congrArg List.length hS
   rw [zD, zzP] at this
   omega
 have it : yX (aC (f2 yD (f2 (f2 xU wk ixP) Xv zx) zK) aN) xq (B [] none none none) = some (wI 0 t, B [] none none none) := by
  rw [wR (j := 1 + y0 % 3) (zG (yN (zp (x := .int 1)) (yt (yO (zb (i := 5) rfl) zp a0 rfl) zp (by decide))) zX) (by omega) (by omega), <- et, zyF]
 have s6 := Yy (as := [sI c, sI h, sI n, sT (zq xs), sT (ZQ J), sT (zq ys), none, none, none, none, none]) (p := 6) (zfI (WD.e (wj (zb (i := 1) rfl) (zp (x := .int 7)) (by decide) (zZ (by decide) (by decide)))) (WD.e (zp (x := .int 3))) hw) (zL rfl)
 refine WW rfl (yf (Yy (p := 3) ws (zL rfl)) (yf (Yy (p := 4) j3 (zL rfl)) (yf (Yy (p := 5) wy (zL rfl)) (yf s6 (yf (wX (i := 7) (YH yM (szl rfl)) (zL rfl)) (yf (wO it hf) ?_))))))
 have q := wW (as := B os e8 e9 e10) (a := fV 2) (zb rfl) (wW (a := fC (.int 1)) zp (wW (a := fV 4) (zb rfl) (wW (a := f2 (f2 (f2 xU wk ixP) Xv zm) yJ zx) (yt (wj (yO (zb (i := 5) rfl) zp a0 rfl) zp (by decide) (zZ (by decide) (by decide))) (zb (i := 2) rfl) (by omega)) (wW (a := xg dN) (YH yM (szl rfl)) (zgi (j := 7) (fr := dN) rfl rfl)))))
 rw [ho.frz] at q
 exact ⟨_, zhP (zhF q (szl rfl)) rfl, rfl, rfl⟩
theorem zoj {a b c d e : EF} {as : AS} {x y z u v w : D} {g : List (Bool × D) -> Option O} (ha : WE a as x) (hb : WE b as y) (hc : WE c as z) (hd : WE d as u) (he : WE e as v) (hg : RE (g [(true, x), (true, y), (true, z), (true, u), (true, v)]) w) : WE (zO (aC a (aC b (aC c (aC d (aC e aN))))) g) as w := by
 obtain ⟨o, h1, h2⟩ := hg
 exact ⟨o, Wn (Xu ha (Xu hb (Xu hc (Xu hd (Xu he zX))))) (by show g [(zH x || true, x), (zH y || true, y), (zH z || true, z), (zH u || true, u), (zH v || true, v)] = _; rw [zyA, zyA, zyA, zyA, zyA]; exact h1), h2⟩
theorem zdg {f : D -> D -> Option Bool} : ∀ xs : List D, (∀ x ∈ xs, f x x = some true) -> eqL f xs xs = some true
 | [], _ => rfl
 | x :: r, h => by
  show ((f x x).bind λ b => (eqL f r r).bind λ c => some (b && c)) = _
  rw [h x zzC, zdg r λ y my => h y (zzA _ my)]; rfl
theorem znh {k : Nat} (r : List Int) : eqF (k + 2) (zq r) (zq r) = some true := zdg _ λ x mx => by
 obtain ⟨v, _, rfl⟩ := zxB.mp mx
 show some (v == v) = _
 rw [beq_self_eq_true]
theorem znO {k : Nat} (T : TZ) : eqF (k + 3) (ZQ T) (ZQ T) = some true := zdg _ λ x mx => by
 obtain ⟨v, _, rfl⟩ := zxB.mp mx
 exact znh v
theorem eq_str {k : Nat} (x : Str) : eqF (k + 1) (.str x) (.str x) = some true := by
 show some (x == x) = _
 rw [beq_self_eq_true]
theorem eq_int {k : Nat} (x : Int) : eqF (k + 1) (.int x) (.int x) = some true := by
 show some (x == x) = _
 rw [beq_self_eq_true]
theorem all2 {f : D -> D -> Option Bool} {a b : D} (ha : f a a = some true) (hb : f b b = some true) : ∀ x ∈ [a, b], f x x = some true := λ x mx => by
 rcases zS.mp mx with rfl | mx
 · exact ha
 · rw [zzO.mp mx]; exact hb
theorem znr {n m : Nat} {J : TZ} {e : Int} {S : SS} : eqF 60 (alD n m J e S) (alD n m J e S) = some true := zdg _ λ x mx => by
 rcases zS.mp mx with rfl | mx
 · exact eq_int _
 rcases zS.mp mx with rfl | mx
 · exact eq_int _
 rcases zS.mp mx with rfl | mx
 · exact znO (k := 56) J
 rcases zS.mp mx with rfl | mx
 · exact eq_int _
 rcases zS.mp mx with rfl | mx
 · rfl
 · rw [zzO.mp mx]
   refine zdg _ λ x mx => ?_
   obtain ⟨p, _, rfl⟩ := zxB.mp mx
   exact zdg _ (all2 (eq_str _) (znh (k := 55) p.2))
theorem zrJ {a b : D} : gT 2 (gsC wQ (gsC (gN 1) gsN)) (true, .tup [a, b]) [none, none] = some [sT a, sT b] := by
 have k : kids true [a, b] = [(true, a), (true, b)] := by
  show [(zH a || true, a), (zH b || true, b)] = _
  rw [zyA, zyA]
 unfold gT
 simp only [k]
 rfl
theorem zkj {α : Type} {f : EF} {as : AS} {g : α -> D} {l : List α} (h : WE f as (.lst (l.map g))) : Yn f as = some (l.map λ a => (true, g a), as) := by
 have := zgR h
 rw [zzY] at this
 exact this
theorem zkp {i : Nat} {as : AS} {T : TZ} (hl : T.length <= 1000) (h : as[i]? = some (sT (ZQ T))) : WE (yj (Yn (fV i)) [none] wQ xX (fP zcT lstP)) as (ZQ T) :=
 zdO (h := zq) (it := λ r => (true, zq r)) T (zkj (g := zq) (WD.e (zb h))) (by omega) λ r _ => ⟨[sT (zq r)], rfl, zgc (zb (i := 0) rfl)⟩
theorem zlk {a b c d f g : EF} {as : AS} {x y z u v w : D} (ha : WE a as x) (hb : WE b as y) (hc : WE c as z) (hd : WE d as u) (hf : WE f as v) (hg : WE g as w) : WE (Zo (dC a (dC b (dC c (dC d (dC f (dC g dN))))))) as (.tup [x, y, z, u, v, w]) := by
 obtain ⟨o6, i6, rfl, j6⟩ := zeI hg yM
 obtain ⟨o5, i5, rfl, j5⟩ := zeI hf j6
 obtain ⟨o4, i4, rfl, j4⟩ := zeI hd j5
 obtain ⟨o3, i3, rfl, j3⟩ := zeI hc j4
 obtain ⟨o2, i2, rfl, j2⟩ := zeI hb j3
 obtain ⟨o1, i1, rfl, j1⟩ := zeI ha j2
 exact zki j1 (by show 6 <= _; omega) (by show (o1.str && (o2.str && (o3.str && (o4.str && (o5.str && (o6.str && true)))))) = true; rw [i1, i2, i3, i4, i5, i6]; rfl) rfl
theorem zlX {n m : Nat} {J : TZ} {e : Int} {S : SS} (hJ : Tab n n J) (n8 : n <= 8) (s3 : S.length <= 3) : RE (ZZ [(true, alD n m J e S)]) (alD n m J e S) := by
 have sa : zcI zR (gT 6 (gsC (gN 1) (gsC (gN 2) (gsC (gN 3) (gsC zgv (gsC Vb (gsC zbq gsN))))))) (vG 9 [(true, alD n m J e S)]) = some (.nx [sT (alD n m J e S), sI n, sI m, sT (ZQ J), sI e, sT (.lst []), sT (.lst (S.map wu)), none, none]) := zfM (zb (i := 0) rfl) rfl
 have s7 := Yy (p := 7) (zdO (as := [sT (alD n m J e S), sI n, sI m, sT (ZQ J), sI e, sT (.lst []), sT (.lst (S.map wu)), none, none]) (h := zcg) (it := λ p => (true, zcg p)) (cap := [none, none]) (gg := gT 2 (gsC wQ (gsC (gN 1) gsN))) (fe := Zo (dC zR (dC (yj (Yn yg) [none] wQ xX (fP zcT lstP)) dN))) [] (zkj (f := fV 5) (g := zcg) (l := []) (WD.e (zb (i := 5) rfl))) (Nat.zero_le _) λ p mp => nomatch mp) (zL rfl)
 have s8 := Yy (p := 8) (zdO (as := [sT (alD n m J e S), sI n, sI m, sT (ZQ J), sI e, sT (.lst []), sT (.lst (S.map wu)), sT (.lst []), none]) (h := wu) (it := λ p => (true, wu p)) (cap := [none, none]) (gg := gT 2 (gsC wQ (gsC (gN 1) gsN))) (fe := Zo (dC zR (dC (fP zbv lstP) dN))) S (zkj (f := fV 6) (g := wu) (WD.e (zb (i := 6) rfl))) (by omega) λ p mp => ⟨[sT (.str p.1), sT (zq p.2)], zrJ, zdQ (WD.e (zb (i := 0) rfl)) (zgc (zb (i := 1) rfl))⟩) (zL rfl)
 exact WW rfl (yf sa (yf s7 (yf s8 (zen (zlk (WD.e (zb (i := 1) rfl)) (WD.e (zb (i := 2) rfl)) (zkp (i := 3) (by rw [hJ.1]; omega) rfl) (WD.e (zb (i := 4) rfl)) (WD.e (zb (i := 7) rfl)) (WD.e (zb (i := 8) rfl)))))))
theorem zrC {a b : D} {x y : Option O} {A R : D} {ns : List Int} {hd : Int} : gT 2 (gsC zbq (gsC (gN 7) gsN)) (true, .tup [a, b]) [sT (.lst (ns.map D.int)), sI hd, sT A, sT R, sT A, sT R, x, y] = some [sT (.lst (ns.map D.int)), sI hd, sT A, sT R, sT A, sT R, sT a, sT b] := by
 have k : kids true [a, b] = [(true, a), (true, b)] := by
  show [(zH a || true, a), (zH b || true, b)] = _
  rw [zyA, zyA]
 unfold gT
 simp only [k]
 rfl
theorem ziP (ns : List Int) (hns : ns.length <= 63) : zbN [(true, .lst (ns.map .int))] = some (.lf true (.bl true)) := by
 obtain ⟨c0, hc0⟩ := zbC (ns := ns) (k := 0) (s := true) (t := true) (by decide)
 obtain ⟨c1, hc1⟩ := zbC (ns := ns) (k := 1) (s := true) (t := true) (by decide)
 obtain ⟨c2, hc2⟩ := zbC (ns := ns) (k := 2) (s := true) (t := true) (by decide)
 have cl : ∀ {as : AS} {k c : Int}, zB [(true, .lst (ns.map .int)), (true, .int k)] = sT (.int c) -> as[0]? = some (sT (.lst (ns.map D.int))) -> WD (zO (aC zR (aC (fC (.int k)) aN)) zB) as true (.int c) := λ hc h => Yg (zG (zb h) (zG zp zX)) hc
 let B (e2 e3 e4 e5 e6 e7 : Option O) : AS := [sT (.lst (ns.map D.int)), sI c1, e2, e3, e4, e5, e6, e7]
 have s1 := xQ (st := true) (i := 1) (as := vG 8 [(true, .lst (ns.map .int))]) (cl hc1 rfl) (zL rfl)
 obtain ⟨n, m, J, e, S, hA, h1, h3, s2⟩ : ∃ n m J e S, AA n J e S (alD n m J e S) /\ 1 <= n /\ S.length <= 3 /\ sIf (fT (f2 (f2 (zO (aC zR (aC xT aN)) zB) xT zx) wk yE)) (zJ true 2 (zO (aC (zO (aC zR (aC wk aN)) zB) (aC yg (aC (f2 yD (f2 (f2 (zO (aC zR (aC xT aN)) zB) xT zm) Vs zx) zK) aN))) ZR)) (zJ true 2 (zO (aC (zO (aC zR (aC wk aN)) zB) (aC yg (aC wk aN))) wM)) (B none none none none none none) = some (.nx (B (sT (alD n m J e S)) none none none none none)) := by
  have t : WT (fT (f2 (f2 (zO (aC zR (aC xT aN)) zB) xT zx) wk yE)) (B none none none none none none) (c2 % 2 == 0) := vq (zaS (yt (cl hc2 rfl) zp (by decide)) zp rfl) rfl
  cases hq : (c2 % 2 == 0) with
  | true =>
   rw [hq] at t
   have z0 := zyK (c2 / 2) (show (8 : Int) ≠ 0 by decide)
   have z1 := zyE (c2 / 2) (show (0 : Int) < 8 by decide)
   obtain ⟨n, en, n1, n8⟩ : ∃ n : Nat, (n : Int) = 1 + c2 / 2 % 8 /\ 1 <= n /\ n <= 8 := ⟨(1 + c2 / 2 % 8).toNat, by omega, by omega, by omega⟩
   obtain ⟨J, e, S, hA, hS3, wA⟩ := znR (c := c0) (h := c1) n1 n8
   have wn : WD (f2 yD (f2 (f2 (zO (aC zR (aC xT aN)) zB) xT zm) Vs zx) zK) (B none none none none none none) true (.int (n : Int)) := by
    rw [en]
    exact yN zp (yt (wj (cl hc2 rfl) zp (by decide) (zZ (by decide) (by decide))) zp (by decide))
   exact ⟨n, 1, J, e, S, hA, n1, hS3, v4 t (Yy (p := 2) (zdS (WD.e (cl hc0 rfl)) (WD.e (zb (i := 1) rfl)) (WD.e wn) wA) (zL rfl))⟩
  | false =>
   rw [hq] at t
   obtain ⟨n, m, J, e, S, ⟨n1, n8, hJ, he, s3, sn⟩, wA⟩ := zgq (c := c0) (h := c1)
   exact ⟨n, m, J, e, S, ⟨n8, hJ, he, rfl, rfl, rfl, sn⟩, n1, s3, wN t (Yy (p := 2) (zdS (WD.e (cl hc0 rfl)) (WD.e (zb (i := 1) rfl)) (WD.e (zp (x := .int 0))) wA) (zL rfl))⟩
 obtain ⟨row, hll, hrow, wv⟩ := ziu (ns := ns) (st := 3) (w := 6) (n := n) (num := c2 / 16) h1 (by decide)
 have v0 : WD (f2 yJ wk ixP) (B (sT (alD n m J e S)) none none none none none) true (.int (n : Int)) := zcC (zb (i := 2) rfl) zp rfl
 have s3 := Yy (p := 3) (zoj (g := w6) (WD.e (zb (as := B (sT (alD n m J e S)) none none none none none) (i := 0) rfl)) (WD.e (zp (x := .int 3))) (WD.e (zp (x := .int 6))) (WD.e v0) (WD.e (wj (cl hc2 rfl) (zp (x := .int 16)) (by decide) (zZ (by decide) (by decide)))) wv) (zL rfl)
 have s4 := Yy (as := B (sT (alD n m J e S)) (sT (zq row)) none none none none) (p := 4) (ziR (WD.e (zb (i := 2) rfl)) (zlX hA.j hA.n8 h3)) (zL rfl)
 have s5 := Yy (as := B (sT (alD n m J e S)) (sT (zq row)) (sT (alD n m J e S)) none none none) (p := 5) (zgc (zb (i := 3) rfl)) (zL rfl)
 obtain ⟨as', hf, e6, e7, rfl⟩ := xx (g := gT 2 (gsC zbq (gsC (gN 7) gsN))) (f := sIf (zbn (fT (zO (aC xF (aC xU (aC Zk zkb))) vI))) (yZ (fC (.bl false))) sNx) (λ _ as => ∃ e6 e7, as = B (sT (alD n m J e S)) (sT (zq row)) (sT (alD n m J e S)) (sT (zq row)) e6 e7) ((S.map wu).map λ d => (true, d)) 0 (B (sT (alD n m J e S)) (sT (zq row)) (sT (alD n m J e S)) (sT (zq row)) none none) (λ i y as hy hI => by
  obtain ⟨e6, e7, rfl⟩ := hI
  obtain ⟨d, md, rfl⟩ := zxB.mp (zzX hy)
  obtain ⟨p, mp, rfl⟩ := zxB.mp md
  have r := zjl hA mp hrow (by omega)
  exact ⟨B (sT (alD n m J e S)) (sT (zq row)) (sT (alD n m J e S)) (sT (zq row)) (sT (.str p.1)) (sT (zq p.2)), zrC, _, wN (zfZ (k := true) (vq (zmU (zok (WD.e (zb (i := 4) rfl)) (WD.e (zb (i := 5) rfl)) (WD.e (zb (i := 6) rfl)) (WD.e (zb (i := 7) rfl)) (RE.of r))) rfl)) rfl, _, _, rfl⟩) ⟨none, none, rfl⟩
 exact Z8 rfl (zU s1 (zU s2 (zU s3 (zU s4 (zU s5 (zU (wO (zhg (zcC (zb (i := 2) rfl) zp hA.a5)) hf) (Zu (zkI (zgy (WD.e (zb (i := 4) rfl)) (WD.e (zb (i := 2) rfl)) znr) (λ _ => zgy (WD.e (zb (i := 5) rfl)) (WD.e (zb (i := 3) rfl)) (zex row)) λ z => nomatch z))))))))
end G64
end
namespace G64
open PySem PySem.W PyProof.Rows L2
abbrev kF (n q : Str) (s : Stmt) (pm cd : Value) : Obj := ⟨.type "function", none, .func (fnOf n q (zeb s) (Vv s) (zF s) .none .none .none pm none cd .none), #[]⟩
abbrev kC (n : Str) (a : Nat) (q : Str) (b c : Nat) (i3 i4 i5 i6 i7 : Int) (r8 : Addr) (b9 : Bool) (i10 : Int) (r11 r13 r14 r15 : Addr) (i16 i17 : Int) (d : Nat) : Obj := ⟨.type "code", none, .fields #[.str n a, .str q b, .str "/claim/cut.py" c, .int i3 0, .int i4 0, .int i5 0, .int i6 0, .int i7 0, .ref r8, .bool b9, .int i10 0, .ref r11, .none, .ref r13, .ref r14, .ref r15, .int i16 0, .int i17 0, .str "/claim/cut.py" d], #[]⟩
abbrev kD (es : List DictEntry) (n : Nat) : Obj := ⟨.type "dict", none, .dict es.toArray n, #[]⟩
abbrev kE (P : Params) (x : Str) (t : Nat) (v : Value) : DictEntry := ⟨PyData.keyHash P x, .str x t, v⟩
abbrev kR (P : Params) (x : Str) (t : Nat) (a : Addr) : DictEntry := kE P x t (.ref a)
def K (P : Params) : Frag :=
 (nat_lit 3, kD [kE P "__name__" 165 (.str "law_stretchdeeds_k64_least_rows" 207), kE P "__doc__" 166 .none, kE P "__package__" 167 .none, kE P "__loader__" 168 (.builtin "__main__.__loader__#opaque"), kE P "__spec__" 169 .none, kR P "__annotations__" 170 6, kR P "__builtins__" 171 4, kE P "__file__" 173 (.str "/claim/cut.py" 172), kE P "__cached__" 174 .none, kR P "least_rows" 194 19, kR P "least_row" 206 26, kR P "_law_cell_at" 216 33, kR P "_law_mixed" 225 40, kR P "_law_whole" 232 47, kR P "_law_words" 238 52, kR P "_law_common" 246 59, kR P "_law_joined_by" 257 66, kR P "_law_images" 263 71, kR P "_law_done_by" 269 76, kR P "_law_kinds" 279 83, kR P "_law_stream" 290 90, kR P "_law_algebra" 296 95, kR P "_law_copy" 302 100, kR P "_law_values" 315 107, kR P "_law_any" 321 112, kR P "_law_best" 327 117, kR P "_law_right" 333 122, kR P "law" 347 129] 28) ::
 (nat_lit 18, ⟨.type "code", none, .fields #[(.str "least_rows" 189), (.str "least_rows" 190), (.str "/claim/cut.py" 191), (.int (2) 0), (.int (2) 0), (.int (0) 0), (.int (0) 0), (.int (3) 0), (.ref 15), (.bool true), (.int (181) 0), (.ref 16), .none, .none, .none, (.ref 17), (.int (192) 0), (.int (2) 0), (.str "/claim/cut.py" 193)], #[]⟩) ::
 (nat_lit 19, kF "least_rows" "least_rows" v7 (.str "stretchdeeds.coming" 187) (.ref 18)) ::
 (nat_lit 25, kC "least_row" 195 "least_row" 196 197 14 3 0 0 3 20 true 181 21 22 23 24 204 14 205) ::
 (nat_lit 26, kF "least_row" "least_row" Yd (.str "stretchdeeds.coming" 187) (.ref 25)) ::
 (nat_lit 32, kC "_law_cell_at" 209 "_law_cell_at" 210 211 24 2 0 0 3 27 true 181 28 29 30 31 214 24 215) ::
 (nat_lit 33, kF "_law_cell_at" "_law_cell_at" Zb (.str "law_stretchdeeds_k64_least_rows" 207) (.ref 32)) ::
 (nat_lit 39, kC "_law_mixed" 217 "_law_mixed" 218 219 28 2 0 0 3 34 true 181 35 36 37 38 223 28 224) ::
 (nat_lit 40, kF "_law_mixed" "_law_mixed" Z9 (.str "law_stretchdeeds_k64_least_rows" 207) (.ref 39)) ::
 (nat_lit 46, kC "_law_whole" 226 "_law_whole" 227 228 31 1 0 0 3 41 true 181 42 43 44 45 230 31 231) ::
 (nat_lit 47, kF "_law_whole" "_law_whole" Yc (.str "law_stretchdeeds_k64_least_rows" 207) (.ref 46)) ::
 (nat_lit 51, ⟨.type "code", none, .fields #[(.str "_law_words" 233), (.str "_law_words" 234), (.str "/claim/cut.py" 235), (.int (33) 0), (.int (2) 0), (.int (0) 0), (.int (0) 0), (.int (3) 0), (.ref 48), (.bool true), (.int (181) 0), (.ref 49), .none, .none, .none, (.ref 50), (.int (236) 0), (.int (33) 0), (.str "/claim/cut.py" 237)], #[]⟩) ::
 (nat_lit 52, kF "_law_words" "_law_words" Zi (.str "law_stretchdeeds_k64_least_rows" 207) (.ref 51)) ::
 (nat_lit 58, kC "_law_common" 239 "_law_common" 240 241 42 2 0 0 3 53 true 181 54 55 56 57 244 42 245) ::
 (nat_lit 59, kF "_law_common" "_law_common" Zx (.str "law_stretchdeeds_k64_least_rows" 207) (.ref 58)) ::
 (nat_lit 65, kC "_law_joined_by" 247 "_law_joined_by" 248 249 46 4 0 0 3 60 true 181 61 62 63 64 255 46 256) ::
 (nat_lit 66, kF "_law_joined_by" "_law_joined_by" vB (.str "law_stretchdeeds_k64_least_rows" 207) (.ref 65)) ::
 (nat_lit 70, ⟨.type "code", none, .fields #[(.str "_law_images" 258), (.str "_law_images" 259), (.str "/claim/cut.py" 260), (.int (55) 0), (.int (3) 0), (.int (0) 0), (.int (0) 0), (.int (3) 0), (.ref 67), (.bool true), (.int (181) 0), (.ref 68), .none, .none, .none, (.ref 69), (.int (261) 0), (.int (55) 0), (.str "/claim/cut.py" 262)], #[]⟩) ::
 (nat_lit 71, kF "_law_images" "_law_images" vV (.str "law_stretchdeeds_k64_least_rows" 207) (.ref 70)) ::
 (nat_lit 75, ⟨.type "code", none, .fields #[(.str "_law_done_by" 264), (.str "_law_done_by" 265), (.str "/claim/cut.py" 266), (.int (65) 0), (.int (4) 0), (.int (0) 0), (.int (0) 0), (.int (3) 0), (.ref 72), (.bool true), (.int (181) 0), (.ref 73), .none, .none, .none, (.ref 74), (.int (267) 0), (.int (65) 0), (.str "/claim/cut.py" 268)], #[]⟩) ::
 (nat_lit 76, kF "_law_done_by" "_law_done_by" wJ (.str "law_stretchdeeds_k64_least_rows" 207) (.ref 75)) ::
 (nat_lit 82, kC "_law_kinds" 270 "_law_kinds" 271 272 71 1 0 0 3 77 true 181 78 79 80 81 277 71 278) ::
 (nat_lit 83, kF "_law_kinds" "_law_kinds" Yb (.str "law_stretchdeeds_k64_least_rows" 207) (.ref 82)) ::
 (nat_lit 89, kC "_law_stream" 280 "_law_stream" 281 282 80 2 0 0 3 84 true 181 85 86 87 88 288 80 289) ::
 (nat_lit 90, kF "_law_stream" "_law_stream" ZF (.str "law_stretchdeeds_k64_least_rows" 207) (.ref 89)) ::
 (nat_lit 94, ⟨.type "code", none, .fields #[(.str "_law_algebra" 291), (.str "_law_algebra" 292), (.str "/claim/cut.py" 293), (.int (90) 0), (.int (3) 0), (.int (0) 0), (.int (0) 0), (.int (3) 0), (.ref 91), (.bool true), (.int (181) 0), (.ref 92), .none, .none, .none, (.ref 93), (.int (294) 0), (.int (90) 0), (.str "/claim/cut.py" 295)], #[]⟩) ::
 (nat_lit 95, kF "_law_algebra" "_law_algebra" xO (.str "law_stretchdeeds_k64_least_rows" 207) (.ref 94)) ::
 (nat_lit 99, ⟨.type "code", none, .fields #[(.str "_law_copy" 297), (.str "_law_copy" 298), (.str "/claim/cut.py" 299), (.int (125) 0), (.int (1) 0), (.int (0) 0), (.int (0) 0), (.int (3) 0), (.ref 96), (.bool true), (.int (181) 0), (.ref 97), .none, .none, .none, (.ref 98), (.int (300) 0), (.int (125) 0), (.str "/claim/cut.py" 301)], #[]⟩) ::
 (nat_lit 100, kF "_law_copy" "_law_copy" vD (.str "law_stretchdeeds_k64_least_rows" 207) (.ref 99)) ::
 (nat_lit 106, kC "_law_values" 303 "_law_values" 304 305 130 5 0 0 3 101 true 181 102 103 104 105 313 130 314) ::
 (nat_lit 107, kF "_law_values" "_law_values" ZK (.str "law_stretchdeeds_k64_least_rows" 207) (.ref 106)) ::
 (nat_lit 111, ⟨.type "code", none, .fields #[(.str "_law_any" 316), (.str "_law_any" 317), (.str "/claim/cut.py" 318), (.int (135) 0), (.int (3) 0), (.int (0) 0), (.int (0) 0), (.int (3) 0), (.ref 108), (.bool true), (.int (181) 0), (.ref 109), .none, .none, .none, (.ref 110), (.int (319) 0), (.int (135) 0), (.str "/claim/cut.py" 320)], #[]⟩) ::
 (nat_lit 112, kF "_law_any" "_law_any" ZV (.str "law_stretchdeeds_k64_least_rows" 207) (.ref 111)) ::
 (nat_lit 116, ⟨.type "code", none, .fields #[(.str "_law_best" 322), (.str "_law_best" 323), (.str "/claim/cut.py" 324), (.int (146) 0), (.int (3) 0), (.int (0) 0), (.int (0) 0), (.int (3) 0), (.ref 113), (.bool true), (.int (181) 0), (.ref 114), .none, .none, .none, (.ref 115), (.int (325) 0), (.int (146) 0), (.str "/claim/cut.py" 326)], #[]⟩) ::
 (nat_lit 117, kF "_law_best" "_law_best" Z5 (.str "law_stretchdeeds_k64_least_rows" 207) (.ref 116)) ::
 (nat_lit 121, ⟨.type "code", none, .fields #[(.str "_law_right" 328), (.str "_law_right" 329), (.str "/claim/cut.py" 330), (.int (165) 0), (.int (4) 0), (.int (0) 0), (.int (0) 0), (.int (3) 0), (.ref 118), (.bool true), (.int (181) 0), (.ref 119), .none, .none, .none, (.ref 120), (.int (331) 0), (.int (165) 0), (.str "/claim/cut.py" 332)], #[]⟩) ::
 (nat_lit 122, kF "_law_right" "_law_right" Zh (.str "law_stretchdeeds_k64_least_rows" 207) (.ref 121)) ::
 (nat_lit 128, kC "law" 334 "law" 335 336 174 1 0 0 3 123 true 181 124 125 126 127 345 174 346) ::
 (nat_lit 129, kF "law" "law" zgO (.str "law_stretchdeeds_k64_least_rows" 207) (.ref 128)) ::
 []
def kA : List Addr := [3, 18, 19, 25, 26, 32, 33, 39, 40, 46, 47, 51, 52, 58, 59, 65, 66, 70, 71, 75, 76, 82, 83, 89, 90, 94, 95, 99, 100, 106, 107, 111, 112, 116, 117, 121, 122, 128, 129]
def qv : Program := { PySem.Challenge.pw_stretchdeeds_k64_least_rows with main := { PySem.Challenge.pw_stretchdeeds_k64_least_rows.main with body := [1, 2, 4, 5, 6, 7, 8, 9, 10, 11, 12, 13, 14, 15, 16, 17, 18, 19, 20].map top } }
theorem kAe (P : Params) : kA = (K P).map (·.1) := by kernel_rfl
set_option maxRecDepth 100000
theorem ws : PySem.Challenge.rw_stretchdeeds_k64_least_rows.wellSaid = true := by kernel_rfl
abbrev Xt (s : Shared) : Bool := xlAt qv [] s && recOk (RowW.records (OpenRow.toRowW PySem.Challenge.rw_stretchdeeds_k64_least_rows.row)) s
abbrev hk : Hook := kHook K kA kAe
theorem hl : LeftO PySem.Challenge.pw_stretchdeeds_k64_least_rows qv [] Xt hk.obs hk.val 4000 := λ w => by kernel_rfl
end G64
open PySem PySem.W PyProof.Rows
set_option maxRecDepth 100000 in
set_option maxHeartbeats 0 in
theorem PySem.Challenge.cw_stretchdeeds_k64_least_rows_holds : PySem.Challenge.rw_stretchdeeds_k64_least_rows.Holds := by
 w_on; refine holds_law G64.ws λ said => ?_
 refine holds_open (q := G64.qv) (loose := []) (Xt := G64.Xt) (XP := XL G64.qv []) (Yf := Hook.obs (kHook G64.K G64.kA G64.kAe)) (Ya := Hook.val (kHook G64.K G64.kA G64.kAe)) (YP := Hook.says (kHook G64.K G64.kA G64.kAe)) (N := 4000) G64.hl (Hook.of (kHook G64.K G64.kA G64.kAe)) (Hook.keeps (kHook G64.K G64.kA G64.kAe)) (λ s e => xl_of s (Bool.and_eq_true_iff.mp e).1) XL.keeps (by rfl) (by rfl) (by rfl) (λ s e => recFacts_of (Bool.and_eq_true_iff.mp e).2) (by rfl) (by first | assumption | decide +kernel) (by decide +kernel) ⟨rfl, rfl, rfl, rfl, rfl, by decide +kernel⟩ ?hw ?hc
 (case hw => w_witness2)
 k_fill
 refine G64.walk (l := PySem.Challenge.rw_stretchdeeds_k64_least_rows) rfl rfl (λ w h Y => PySem.W.kIn_of Y) G64.ziP ?F
 case F =>
  intro w mg fa h KX G hmg
  refine' G64.zoM KX G hmg ?_ ?_ ?_ ?_ ?_ ?_ ?_ ?_ ?_ ?_ ?_ ?_ ?_ ?_ ?_ ?_ ?_ ?_ ?_ ?_ ?_ ?_ ?_ ?_ ?_ ?_ ?_ ?_ ?_ ?_ ?_ ?_ ?_ ?_ ?_ ?_ ?_ ?_ ?_ ?_ ?_ ?_ ?_ ?_ ?_ ?_ ?_ ?_ ?_ ?_
  all_goals try first | k_is | (change _ = _; k_is) | exact ⟨_, ⟨_, _, _, _, _, _, _, _, _, rfl, by k_is, by k_is⟩, by k_is⟩ | rfl
#print axioms PySem.Challenge.cw_stretchdeeds_k64_least_rows_holds
