import PyProof.Rows.All
import Wide.All
import OpenK.AllK
import Wide.FinOn
import PyProof.EqAt
import PyProof.EqKinds
import PyProof.TupleCall
import PyProof.NeKinds
import PyProof.AutoSeq1
import KE.LcSums
import PyProof.Rows.StrWeight2
import PyProof.StrBlockG
import KE.KIntText
import PyProof.CallStr
import PyProof.WalksEnum
import PyProof.Rows.EnumRows
import PyProof.Rows.FactsT2
import KE.KRevIter
import PyProof.StrWalks
import PyProof.ReprRoads
import PyProof.StrLawsTight
import PyProof.Rows.StrItems
import PyProof.Rows.ReprOcc
import PyProof.Rows.StrJoinMade
import PyProof.ReprLen
import PyProof.ZipIter
import PyProof.Rows.SortWalk
import PyProof.ListRange
import PyProof.AttrMissHeap
import PyProof.Rows.SumAny
import PyProof.Rows.TupDisplay
import PyProof.DictRoadsH
import KE.KDictLaws
import PyProof.Rows.SetFrom
import Lean
import PySem.Challenge.RW_stretchdeeds_k57_least_of_least
set_option Elab.async false
set_option linter.all false
set_option maxRecDepth 100000
set_option genSizeOf false
set_option bootstrap.genMatcherCode false
noncomputable section
abbrev zzA:=PySem.W.Frag
abbrev zzB:=@List.length_map
abbrev zzC:=@List.mem_cons
abbrev zzD:=@List.mem_cons_of_mem
abbrev zzE:=@List.getElem?_eq_getElem
abbrev zzF:=@List.mem_cons_self
abbrev zzG:=@List.getElem?_eq_some_iff
abbrev zzH:=@List.size_toArray
abbrev zzI:=@List.getElem?_map
abbrev zzJ:=@List.length_append
abbrev zzK:=@Nat.lt_of_lt_of_le
abbrev zzL:=@List.mem_append_right
abbrev zzM:=@List.mem_append
abbrev zzN:=@Nat.le_refl
abbrev zzO:=@Nat.le_trans
abbrev zzP:=@List.mem_append_left
abbrev zzQ:=@Nat.ne_of_lt
abbrev zzR:=@List.mem_singleton
abbrev zzS:=@List.length_take
abbrev zzT:=@List.length_cons
abbrev zzU:=@List.length_set
abbrev zzV:=@Int.natCast_mul
abbrev zzW:=@List.nodup_cons
abbrev zzX:=@Option.map_eq_some_iff
abbrev zzY:=@List.getElem?_set_ne
abbrev zzZ:=@Option.some.inj
abbrev zyA:=@List.mem_of_getElem?
abbrev zyB:=@List.map_map
abbrev zyC:=@Bool.and_eq_true
abbrev zyD:=@Bool.or_true
abbrev zyE:=@List.append_nil
abbrev zyF:=@List.getD_eq_getElem?_getD
abbrev zyG:=@decide_eq_false
abbrev zyH:=@Int.emod_lt_of_pos
abbrev zyI:=@Int.toNat_natCast
abbrev zyJ:=@List.nodup_nil
abbrev zyK:=@List.getElem?_set_self
abbrev zyL:=@Option.bind_some
abbrev zyM:=@List.map_append
abbrev zyN:=@Int.emod_nonneg
abbrev zyO:=@decide_eq_true
abbrev zyP:=@List.getElem?_append_left
abbrev zyQ:=@List.drop_eq_getElem_cons
abbrev zyR:=@List.getElem?_append_right
abbrev zyS:=@List.map_cons
abbrev zyT:=@Array.length_toList
abbrev zyU:=@List.length_range
abbrev zyV:=@List.getElem?_of_mem
abbrev zyW:=@Bool.false_ne_true
abbrev zyX:=@Nat.le_succ
abbrev zyY:=@Nat.zero_add
abbrev zyZ:=@Int.toNat_of_nonneg
abbrev zxA:=@List.getElem_mem
abbrev zxB:=@Nat.lt_succ_of_lt
abbrev zxC:=@List.not_mem_nil
abbrev zxD:=@List.append_assoc
abbrev zxE:=@List.mem_map
abbrev zxF:=@List.nodup_append
abbrev zxG:=@PySem.wpAny_bind
abbrev zxH:=@PySem.wpAny_pure
abbrev zxI:=@PySem.Heap.get?_push_of_some
abbrev zxJ:=@PySem.Heap.lt_size
abbrev zxK:=@PySem.Heap.get?_push_size
abbrev zxL:=@PySem.wpAny_newObj_type
abbrev zxM:=@PySem.wpAny_holding
abbrev zxN:=@PySem.Heap.size_push
abbrev zxO:=@PySem.Heap.get?_update_self
abbrev zxP:=@PySem.wpAny_mono
abbrev zxQ:=@PySem.wpAny_call_entry
section
namespace L2
open PySem PySem.Spec PyProof.Rows
abbrev Key:=Sum Int Str
noncomputable def Uh:Key->Value->Bool
 | .inl k,.bool b=>(if b then 1 else 0)==k
 | .inl k,v=>Value.isInt k v
 | .inr x,v=>Value.isStrOf x v
def rV(w:World):Key->Int
 | .inl k=>hashInt k
 | .inr x=>hashStr w x
def yL:∀{k:Key}{v:Value},Uh k v=true->(∃i t,k=Sum.inl i/\v=Value.int i t)\/(∃x t,k=Sum.inr x/\v=Value.str x t)\/(∃b,k=Sum.inl (if b=true then 1 else 0)/\v=Value.bool b)
 | .inl i,v,h=>by
  by_cases a:∃b,v=Value.bool b
  . obtain⟨b,rfl⟩:=a;have h:((if b=true then 1 else 0)==i)=true:=h;exact .inr (.inr ⟨b,by rw[eq_of_beq h],rfl⟩)
  . have c:Value.isInt i v=true:=by
     cases v<;>first|exact h|exact(a ⟨_,rfl⟩).elim
    obtain⟨t,e⟩:=Value.isInt_shape (k:=i) (v:=v) c;exact .inl ⟨i,t,rfl,e⟩
 | .inr x,v,h=>by
  obtain⟨t,e⟩:=Value.isStrOf_shape (x:=x) (v:=v) h;exact .inr (.inl ⟨x,t,rfl,e⟩)
def H9(b:Bool):Uh (.inl (if b=true then 1 else 0)) (.bool b)=true:=by simp[Uh]
def BA(i:Int)(t:Tok):Uh (.inl i) (.int i t)=true:=by simp[Uh,Value.isInt]
def FM(x:Str)(t:Tok):Uh (.inr x) (.str x t)=true:=by simp[Uh,Value.isStrOf]
def KJ(a b:Int):decide ((Sum.inl a:Key)=Sum.inl b)=(a==b):=by
 by_cases e:a=b
 . subst e;simp
 . have h:¬(Sum.inl a:Key)=Sum.inl b:=λq=>e (Sum.inl.inj q);rw[zyG h];exact(beq_eq_false_iff_ne.mpr e).symm
def Dv(a b:Str):decide ((Sum.inr a:Key)=Sum.inr b)=decide (a=b):=by
 by_cases e:a=b
 . subst e;simp
 . have h:¬(Sum.inr a:Key)=Sum.inr b:=λq=>e (Sum.inr.inj q);rw[zyG h,zyG e]
def Hm(a:Int)(b:Str):decide ((Sum.inl a:Key)=Sum.inr b)=false:=zyG (λq=>nomatch q)
def Ol(a:Str)(b:Int):decide ((Sum.inr a:Key)=Sum.inl b)=false:=zyG (λq=>nomatch q)
def IW{prog:Program}{w:World}{A:Around}{E:Value->Shared->Prop}{s:Shared}{b:Bool}{Q:Int->Shared->Prop}(h:Q (hashInt (if b=true then 1 else 0)) {s with toks:=s.toks+1}):wpAny (model prog w) A (PySem.pyHash (.bool b)) Q E s:=by
 refine PySem.W.pyHash_slot (B:=_) (v:=.bool b) rfl PySem.F.slot_bool_hash entry_int_hash (args_int_hash _) (beq_builtin_none _) (.inl rfl) ?_;have a:∀n:Int,Q (PySem.reduceHash n) {s with toks:=s.toks+1}->wpAny (model prog w) A.in1 (do ret (<-mkInt n)) (λc d=>∃n t,c = .done (.ret (.int n t))/\Q (PySem.reduceHash n) d) E s:=λn z=>zxG (wpAny_mkInt (zxH ⟨_,_,rfl,z⟩));cases b with
 |false=>exact a 0 h
 |true=>exact a 1 h
def yN(prog:Program)(w:World):PySem.KeyKind prog w Key where
 is:=Uh
 hash:=rV w
 inj:=λv a b ha hb=>by
  rcases yL ha with⟨i,t,rfl,rfl⟩|⟨x,t,rfl,rfl⟩|⟨c,rfl,rfl⟩
  . rcases yL hb with⟨j,u,rfl,e⟩|⟨y,u,rfl,e⟩|⟨d,rfl,e⟩
    . injection e with e1 _;rw[e1]
    . exact nomatch e
    . exact nomatch e
  . rcases yL hb with⟨j,u,rfl,e⟩|⟨y,u,rfl,e⟩|⟨d,rfl,e⟩
    . exact nomatch e
    . injection e with e1 _;rw[e1]
    . exact nomatch e
  . rcases yL hb with⟨j,u,rfl,e⟩|⟨y,u,rfl,e⟩|⟨d,rfl,e⟩
    . exact nomatch e
    . exact nomatch e
    . injection e with e1;rw[e1]
 byValue:=λk v h=>by
  rcases yL h with⟨i,t,rfl,rfl⟩|⟨x,t,rfl,rfl⟩|⟨c,rfl,rfl⟩<;>rfl
 pyHash:=λhv h=>by
  rcases yL hv with⟨i,t,rfl,rfl⟩|⟨x,t,rfl,rfl⟩|⟨c,rfl,rfl⟩
  . exact wpAny_pyHash_int h
  . exact wpAny_pyHash_str h
  . exact IW h
 eqBool:=λhu hv h=>by
  rcases yL hu with⟨i,t,rfl,rfl⟩|⟨x,t,rfl,rfl⟩|⟨c,rfl,rfl⟩
  . rcases yL hv with⟨j,u,rfl,rfl⟩|⟨y,u,rfl,rfl⟩|⟨d,rfl,rfl⟩
    . rw[KJ]at h;exact wpAny_eqBool_int h
    . rw[Hm]at h;exact SeqAt.EqAt.int_str i t y u _ _ _ _ h
    . rw[KJ]at h;exact SeqAt.EqAt.int_bool i t d _ _ _ _ h
  . rcases yL hv with⟨j,u,rfl,rfl⟩|⟨y,u,rfl,rfl⟩|⟨d,rfl,rfl⟩
    . rw[Ol]at h;exact SeqAt.EqAt.str_int x t j u _ _ _ _ h
    . rw[Dv]at h;exact wpAny_eqBool_str h
    . rw[Ol]at h;exact SeqAt.EqAt.str_bool x t d _ _ _ _ h
  . rcases yL hv with⟨j,u,rfl,rfl⟩|⟨y,u,rfl,rfl⟩|⟨d,rfl,rfl⟩
    . rw[KJ]at h;exact SeqAt.EqAt.bool_int c j u _ _ _ _ h
    . rw[Hm]at h;exact SeqAt.EqAt.bool_str c y u _ _ _ _ h
    . rw[KJ]at h;exact SeqAt.EqAt.bool_bool c d _ _ _ _ (by
       have e:(((if c=true then 1 else 0:Int))==(if d=true then 1 else 0))=(c==d):=by cases c<;>cases d<;>rfl
       rw[e]at h;exact h)
 «strs» := λk x t v h=>by
  rcases yL h with⟨i,u,rfl,e⟩|⟨y,u,rfl,e⟩|⟨d,rfl,e⟩
  . exact nomatch e
  . injection e with e1 _
    subst e1;cases v<;>rfl
  . exact nomatch e
def LX(prog:Program)(w:World)(i:Int)(t:Tok):(yN prog w).is (.inl i) (.int i t)=true:=BA i t
def YX(prog:Program)(w:World)(x:Str)(t:Tok):(yN prog w).is (.inr x) (.str x t)=true:=FM x t
end L2
namespace L2
open PySem PySem.Spec PyProof.Rows
inductive V where
 |non|bl (b:Bool)|int (i:Int)|str (x:Str)|byt (b:Array UInt8)|flt (b:UInt64)|ref (a:Addr)|ty (n:String)
 deriving DecidableEq
def RelV:V->Value->Prop
 | .non,u=>u=Value.none
 | .bl b,u=>u=Value.bool b
 | .int i,u=>∃t,u=Value.int i t
 | .str x,u=>∃t,u=Value.str x t
 | .byt b,u=>∃t,u=Value.bytes b t
 | .flt b,u=>∃t,u=Value.float b t
 | .ref a,u=>u=Value.ref a
 | .ty n,u=>u=Value.type n
abbrev z_:List V->List Value->Prop:=Paired RelV
theorem z_.length(r:z_ xs us):xs.length=us.length:=Paired.length r
theorem z_.get:∀{xs:List V}{us:List Value}{i:Nat}{x:V},z_ xs us->xs[i]? = some x->∃u,us[i]? = some u/\RelV x u
 |_,_,_,_,.nil,e=>by simp at e
 |_,_,0,_,.cons r _,e=>by simp at e;subst e;exact⟨_,rfl,r⟩
 |_,_,i+1,x,.cons _ t,e=>by
  obtain⟨u,a,b⟩:=z_.get (i:=i) (x:=x) t (by simpa using e);exact⟨u,by simpa using a,b⟩
theorem z_.set(r:RelV x u):∀{xs:List V}{us:List Value}(i:Nat),z_ xs us->z_ (xs.set i x) (us.set i u)
 |_,_,_,.nil=>.nil
 |_,_,0,.cons _ t=>.cons r t
 |_,_,i+1,.cons q t=>.cons q (z_.set r i t)
theorem z_.append:∀{xs ys:List V}{us ws:List Value},z_ xs us->z_ ys ws->z_ (xs++ys) (us++ws)
 |_,_,_,_,.nil,s=>s
 |_,_,_,_,.cons r t,s=>.cons r (z_.append t s)
theorem z_.take:∀{xs:List V}{us:List Value}(n:Nat),z_ xs us->z_ (xs.take n) (us.take n)
 |_,_,0,_=>.nil
 |_,_,_+1,.nil=>.nil
 |_,_,n+1,.cons r t=>.cons r (z_.take n t)
theorem z_.drop:∀{xs:List V}{us:List Value}(n:Nat),z_ xs us->z_ (xs.drop n) (us.drop n)
 |_,_,0,r=>r
 |_,_,_+1,.nil=>.nil
 |_,_,n+1,.cons _ t=>z_.drop n t
def Th:Option V->Option Value->Prop
 |some v,some u=>RelV v u
 |none,none=>True
 |_,_=>False
def KV{κ:Type}:List (κ×V)->List (κ×Value)->Prop:=Paired λ(p:κ×V) (q:κ×Value)=>p.1=q.1/\RelV p.2 q.2
noncomputable def kV:Key->V
 | .inl i=>.int i
 | .inr x=>.str x
inductive HO where
 |lst (xs:List V)
 |tup (xs:List V)
 |dK (kvs:List (Key×V))|dT (kvs:List (List Key×V))
 |set (S:Int->Bool) (n:Nat)
 |ins (C dx:Addr) (fs:List (Str×V))
 |own (x:Addr)
 |xd (fs:List (Str×V))
 |met (f x:Addr)
 |rng (lo hi:Int)
 |frz (o:Obj) (u:HO)
 |tbl (ps:Array Value)
 |ext (φ:Heap->Prop)
abbrev Hp:=Addr->Option HO
def upd(H:Hp)(a:Addr)(o:HO):Hp:=λb=>if b=a then some o else H b
def yd:upd H a o a=some o:=by unfold upd;rw[if_pos rfl]
def zK(h:b≠a):upd H a o b=H b:=by unfold upd;rw[if_neg h]
def SE{H:Hp}{a b:Addr}{o u:HO}(h:H a=some o)(h':H b=some u)(d:o≠u):a≠b:=by
 intro e;subst e;rw[h]at h';exact d (zzZ h')
def yq{H:Hp}{a b:Addr}{o:HO}(h:H a=some o)(h':H b=none):a≠b:=by
 intro e;subst e;rw[h]at h';cases h'
noncomputable def kO:V->Option Key
 | .int i=>some (.inl i) | .str x=>some (.inr x) | .bl b=>some (.inl (if b=true then 1 else 0))|_=>none
def KC(H:Hp)(b:Addr)(k:List Key):Prop:=∃vs,H b=some (.tup vs)/\vs.map kO=k.map some
def KC.mono{H H':Hp}{b:Addr}{k:List Key}(h:KC H b k)(ht:∀ys,H b=some (.tup ys)->H' b=some (.tup ys)):KC H' b k:=let⟨vs,h1,h2⟩:=h;⟨vs,ht _ h1,h2⟩
section
variable(P:Program)(w:World)
def xi(H:Hp)(h:Heap)(a:Addr):HO->Prop
 | .lst xs=>xs.length<=sizeLine/\∃(its:List Value) (n:Nat),z_ xs its/\h.get? a=some {cls:=.type "list",data:=.seq its.toArray n}
 | .tup xs=>xs.length<=sizeLine/\∃its:List Value,z_ xs its/\IsTup h a its.toArray
 | .dK kvs=>kvs.length<=sizeLine/\(a==sysModules)=false/\∃vs,KV kvs vs/\h.DictOf (yN P w) a vs
 | .dT kvs=>kvs.length<=sizeLine/\(a==sysModules)=false/\∃xs:List (List Key×Addr×Value),
  Paired (λ(p:List Key×V) (q:List Key×Addr×Value)=>p.1=q.1/\KC H q.2.1 p.1/\RelV p.2 q.2.2) kvs xs/\
  ∃o es ep,h.get? a=some o/\o.ExactDict/\o.data = .dict es ep/\es.toList=xs.map (entryOfKey (tupleKind (yN P w)))/\(xs.map (·.1)).Nodup
 | .set S n=>h.SetOf (intKind P w) a S n
 | .ins C dx fs=>H dx=some (.own a)/\fs.length<=1000/\dx≠a/\h.get? a=some (PySem.W.instObj C dx)/\
  ∃mA,h.Ns1 dx mA/\(∀f,Th (fs.lookup f) (mA f))/\PySem.Within mA (fs.map (·.1))
 | .own _=>∃o,h.get? a=some o
 | .xd fs=>∃mA,h.Ns1 a mA/\∀f,Th (fs.lookup f) (mA f)
 | .rng lo hi=>∃t u v,h.get? a=some {cls:=.type "range",data:=.fields #[.int lo t,.int hi u,.int 1 v]}
 | .frz o u=>h.get? a=some o/\xi H h a u
 | .tbl ps=>h.get? a=some {cls:=.none,data:=.fields ps}
 | .met f x=>h.get? a=some (PySem.W.methodObj (.ref f) (.ref x))
 | .ext φ=>φ h/\(∃o,h.get? a=some o)/\∀h1 h2:Heap,φ h1->(∀o,h1.get? a=some o->h2.get? a=some o)->φ h2
def VF(H:Hp)(h:Heap):Prop:=∀a o,H a=some o->xi P w H h a o
end
section
variable{P:Program}{w:World}{H H':Hp}{h h':Heap}{a:Addr}{o:HO}
theorem xi.lt(x:xi P w H h a o):a<h.objs.size:=by
 cases o with
 |lst xs=>obtain⟨_,_,_,_,e⟩:=x;exact zxJ e
 |tup xs=>obtain⟨_,_,_,p⟩:=x;exact p.lt
 |dK kvs=>obtain⟨_,_,_,_,o,_,_,e,_⟩:=x;exact zxJ e
 |dT kvs=>obtain⟨_,_,_,_,o,_,_,e,_⟩:=x;exact zxJ e
 |set S n=>obtain⟨o,_,_,_,e,_⟩:=x;exact zxJ e
 |ins C dx fs=>obtain⟨_,_,_,e,_⟩:=x;exact zxJ e
 |own y=>obtain⟨_,e⟩:=x;exact zxJ e
 |xd fs=>obtain⟨_,⟨_,_,_,e,_⟩,_⟩:=x;exact zxJ e
 |rng lo hi=>obtain⟨_,_,_,e⟩:=x;exact zxJ e
 |frz ob u=>obtain⟨e,_⟩:=x;exact zxJ e
 |tbl ps=>exact zxJ (show h.get? a=some _ from x)
 |met f y=>exact zxJ (show h.get? a=some _ from x)
 |ext φ=>obtain⟨_,⟨_,e⟩,_⟩:=x;exact zxJ e
theorem Paired.mapP:∀{l₁:List α}{l₂:List β},Paired F l₁ l₂->(∀a b,F a b->G a b)->Paired G l₁ l₂
 |_,_,.nil,_=>.nil
 |_,_,.cons r t,f=>.cons (f _ _ r) (Paired.mapP t f)
def xi.stay(x:xi P w H h a o)(k:∀b u,(b=a\/H b=some (.own a))->h.get? b=some u->h'.get? b=some u)
 (ho:∀b,H b=some (.own a)->H' b=some (.own a)) (ht:∀b xs,H b=some (.tup xs)->H' b=some (.tup xs)):xi P w H' h' a o:=by
 induction o with
 |lst xs=>obtain⟨z,its,n,r,e⟩:=x;exact⟨z,its,n,r,k _ _ (.inl rfl) e⟩
 |tup xs=>obtain⟨z,its,r,ob,e,c⟩:=x;exact⟨z,its,r,ob,k _ _ (.inl rfl) e,c⟩
 |dK kvs=>obtain⟨z,y,vs,r,ob,es,ep,e,c⟩:=x;exact⟨z,y,vs,r,ob,es,ep,k _ _ (.inl rfl) e,c⟩
 |dT kvs=>
  obtain⟨z,y,xs,r,ob,es,ep,e,c⟩:=x;exact⟨z,y,xs,Paired.mapP r λp q z=>⟨z.1,z.2.1.mono λys=>ht _ ys,z.2.2⟩,ob,es,ep,k _ _ (.inl rfl) e,c⟩
 |set S n=>obtain⟨ob,es,ep,t,e,c⟩:=x;exact⟨ob,es,ep,t,k _ _ (.inl rfl) e,c⟩
 |ins C dx fs=>
  obtain⟨d,z,ne,e,mA,⟨od,es,ep,e2,c⟩,r⟩:=x;exact⟨ho _ d,z,ne,k _ _ (.inl rfl) e,mA,⟨od,es,ep,k _ _ (.inr d) e2,c⟩,r⟩
 |own y=>obtain⟨ob,e⟩:=x;exact⟨ob,k _ _ (.inl rfl) e⟩
 |xd fs=>obtain⟨mA,⟨od,es,ep,e,c⟩,r⟩:=x;exact⟨mA,⟨od,es,ep,k _ _ (.inl rfl) e,c⟩,r⟩
 |rng lo hi=>obtain⟨t,u,v,e⟩:=x;exact⟨t,u,v,k _ _ (.inl rfl) e⟩
 |frz ob u ih=>obtain⟨e,q⟩:=x;exact⟨k _ _ (.inl rfl) e,ih q⟩
 |tbl ps=>
  have e:h.get? a=some {cls:=.none,data:=.fields ps}:=x;show h'.get? a=some {cls:=.none,data:=.fields ps};exact k a _ (.inl rfl) e
 |met f y=>
  have e:h.get? a=some (PySem.W.methodObj (.ref f) (.ref y)):=x;show h'.get? a=some (PySem.W.methodObj (.ref f) (.ref y));exact k a _ (.inl rfl) e
 |ext φ=>obtain⟨p,⟨o,e⟩,st⟩:=x;exact⟨st _ _ p λo q=>k _ _ (.inl rfl) q,⟨o,k _ _ (.inl rfl) e⟩,st⟩
theorem VF.lt(x:VF P w H h)(e:H a=some o):a<h.objs.size:=(x a o e).lt
def VF.fresh(x:VF P w H h)(e:h.objs.size<=a):H a=none:=by
 cases q:H a with
 |none=>rfl
 |some u=>exact absurd (zzK (x.lt q) e) (Nat.lt_irrefl _)
def VF.kept(x:VF P w H h)(k:∀b u,h.get? b=some u->h'.get? b=some u):VF P w H h':=λa o e=>
 (x a o e).stay (λb u _ q=>k b u q) (λ_ q=>q) λ_ _ q=>q
def VF.laid(x:VF P w H h)(k:∀b u,h.get? b=some u->h'.get? b=some u)(hp:h.objs.size<=a)(new:xi P w (upd H a o) h' a o):VF P w (upd H a o) h':=λb u e=>by
 have d:=x.fresh hp
 by_cases f:b=a
 . subst f;rw[yd]at e;cases e;exact new
 . rw[zK f]at e;exact(x b u e).stay (λc v _ q=>k c v q) (λc q=>by rw[zK (yq q d)];exact q) λc g q=>by rw[zK (yq q d)];exact q
end
def Rd(H:Hp)(a:Addr)(u:HO):Prop:=H a=some u\/∃o,H a=some (.frz o u)
def Rd.ok(r:Rd H a u)(x:VF P w H h):xi P w H h a u:=by
 rcases r with r|⟨o,r⟩
 . exact x a u r
 . obtain⟨_,q⟩:=x a _ r;exact q
def sJ:Option HO->Prop
 |some (.lst _)=>True
 |some (.dK _)=>True
 |some (.dT _)=>True
 |some (.set _ _)=>True
 |some (.ins _ _ _)=>True
 |some (.ext _)=>True
 |_=>False
section
variable{P:Program}{w:World}{H:Hp}{h h':Heap}{x e:Addr}{o':HO}
def VF.write(ok:VF P w H h)(mu:sJ (H x))(he:e=x\/H e=some (.own x))(k:∀b u,b≠e->h.get? b=some u->h'.get? b=some u)(heo:∃u,h'.get? e=some u)
 (new:xi P w (upd H x o') h' x o'):VF P w (upd H x o') h':=λb u q=>by
 have d:∀c y,H c=some (.own y)->c≠x:=λc y r z=>by subst z;rw[r]at mu;exact mu
 have f:∀c g,H c=some (.tup g)->c≠x:=λc g r z=>by subst z;rw[r]at mu;exact mu
 by_cases i:b=x
 . subst i;rw[yd]at q;cases q;exact new
 . rw[zK i]at q
   by_cases a:b=e
   . have l:H b=some (.own x):=by
      rcases he with z|z
      . exact absurd (a.trans z) i
      . rw[a];exact z
     rw[q]at l;cases l;obtain⟨v,m⟩:=heo;exact⟨v,by rw[a];exact m⟩
   . refine(ok b u q).stay (λc v j r=>k c v ?_ r) (λc r=>by rw[zK (d c b r)];exact r) λc g r=>by rw[zK (f c g r)];exact r
     rcases j with rfl|j
     . exact a
     . rintro rfl
       rcases he with z|z
       . exact d c b j z
       . rw[j]at z;cases z;exact i rfl
end
structure Un(fs ex:List Addr)(H H':Hp)(h h':Heap):Prop where
 keep:∀b o,h.get? b=some o->H b=none->b ∉ fs->b ∉ ex->h'.get? b=some o
 slot:∀b o,h.get? b=some o->H b=none->b ∈ fs->b ∉ ex->∃sl,h'.get? b=some {o with slots:=sl}
 free:∀b o,h.get? b=some o->H b=none->b ∉ ex->H' b=none
 there:∀b o,h.get? b=some o->b ∉ ex->∃o',h'.get? b=some o'
 tups:∀b xs,H b=some (.tup xs)->H' b=some (.tup xs)
 frzs:∀b o u,H b=some (.frz o u)->H' b=some (.frz o u)
 tbls:∀b ps,H b=some (.tbl ps)->∃more,H' b=some (.tbl (ps++more))
section
variable{fs fs' ex ex':List Addr}{H H1 H2:Hp}{h h1 h2 h':Heap}{a x e:Addr}{o:HO}
def Un.any(u:Un fs ex H H1 h h1)(q:h.get? b=some ob)(n:H b=none)(hx:b ∉ ex):∃sl,h1.get? b=some {ob with slots:=sl}:=by
 by_cases a:b ∈ fs
 . exact u.slot b ob q n a hx
 . exact⟨ob.slots,u.keep b ob q n a hx⟩
def Un.kept(k:∀b u,h.get? b=some u->h'.get? b=some u):Un fs ex H H h h':=
 ⟨λb ob q _ _ _=>k b ob q,λb ob q _ _ _=>⟨ob.slots,k b ob q⟩,λ_ _ _ n _=>n,λb ob q _=>⟨ob,k b ob q⟩,λ_ _ q=>q,λ_ _ _ q=>q,λ_ a q=>⟨#[],by rw[q];simp⟩⟩
def Un.refl:Un fs ex H H h h:=Un.kept λ_ _ q=>q
def Un.laid(k:∀b u,h.get? b=some u->h'.get? b=some u)(hp:h.objs.size<=a)(hn:H a=none):Un fs ex H (upd H a o) h h' where
 keep:=λb u q _ _ _=>k b u q
 slot:=λb u q _ _ _=>⟨u.slots,k b u q⟩
 free:=λb u q n _=>by rw[zK (zzQ (zzK (zxJ q) hp))];exact n
 there:=λb u q _=>⟨u,k b u q⟩
 tups:=λb c q=>by rw[zK (yq q hn)];exact q
 frzs:=λb u c q=>by rw[zK (yq q hn)];exact q
 tbls:=λb d q=>⟨#[],by rw[zK (yq q hn),q];simp⟩
def Un.write(mu:sJ (H x))(he:e=x\/H e=some (.own x))(k:∀b u,b≠e->h.get? b=some u->h'.get? b=some u)(heo:∃u,h'.get? e=some u):Un fs ex H (upd H x o) h h':=by
 have d:∀b,H b=none->b≠x:=λb n z=>by subst z;rw[n]at mu;exact mu
 have f:∀b,H b=none->b≠e:=λb n z=>by
  subst z
  rcases he with r|r
  . exact d b n r
  . rw[n]at r;cases r
 have c:∀b u,H b=some u->¬sJ (some u)->b≠x:=λb u q g z=>by subst z;rw[q]at mu;exact g mu
 refine⟨λb u q n _ _=>k b u (f b n) q,λb u q n _ _=>⟨u.slots,k b u (f b n) q⟩,λb u q n _=>by rw[zK (d b n)];exact n,λb u q _=>?_,
  λb i q=>by rw[zK (c b _ q λz=>z)];exact q,λb u i q=>by rw[zK (c b _ q λz=>z)];exact q,λb j q=>⟨#[],by rw[zK (c b _ q λz=>z),q];simp⟩⟩
 by_cases a:b=e
 . subst a;exact heo
 . exact⟨u,k b u a q⟩
end
def trk(h:Heap)(H:Hp):List Addr:=(List.range h.objs.size).filter λa=>(H a).isSome
def Lx(h:Heap)(H:Hp):Heap:=PySem.W.hideAll h (trk h H)
def FS(h:Heap)(H:Hp):(Lx h H).objs.size=h.objs.size:=PySem.W.hideAll_size _ _
def HJ(e:h.get? b=some o)(n:H b=none):(Lx h H).get? b=some o:=
 PySem.W.hideAll_get _ e λa=>by
  have q:(H b).isSome=true:=(List.mem_filter.mp a).2;rw[n]at q;simp at q
def Iu(e:(Lx h H).get? b=some o):h.get? b=some o/\H b=none:=by
 have a:h.get? b=some o:=PySem.W.of_hideAll (trk h H) e;refine⟨a, ?_⟩;cases q:H b with
 |none=>rfl
 |some x=>
  have c:b ∈ trk h H:=List.mem_filter.mpr ⟨List.mem_range.mpr (zxJ a),by simp[q]⟩;have z:(Lx h H).get? b=none:=PySem.W.hideAll_none (trk h H) c;rw[z]at e;cases e
end L2
namespace L2
open PySem PySem.Spec PyProof.Rows
structure Mod(K:zzA)(mg:Str->Option Value)(base:Heap):Prop where
 kin:K.In base
 glob:base.Ns mainGlobals mg
 blt:∃mb,base.Ns builtinsNs mb/\∀x:Str,x≠"__name__"->mb x=bootBuiltins x
 nolimit:base.NoLimit
structure Cx where
 prog:Program
 w:World
 K:zzA
 mg:Str->Option Value
 base:Heap
 A:Around
 N:List Str
 s₀:Shared
 H₀:Hp
 env:Env
 outer:List Env
 stack:List Env
 ex:List Addr
 fn:Str->Bool
 calm:Bool
 pn:List (Addr×Obj)
 xe:Value->Shared->Prop
def B3(l:List Env):List Addr:=l.filterMap (·.frame)
abbrev Cx.fs(X:Cx):List Addr:=B3 X.outer
def uX(sc:Scope)(x:Str):Prop:=sc.names.lookup x=some .local\/sc.names.lookup x=some .cell\/sc.names.lookup x=some .free
def Loc(sc:Scope)(x:Str):Prop:=sc.names.lookup x=some .local\/sc.names.lookup x=some .cell
def Look(env:Env)(h:Heap)(m:Str->Option Value)(x:Str)(u:Value):Prop:=
 (env.kindOf x=some .local/\m x=some u)\/((env.kindOf x=some .cell\/env.kindOf x=some .free)/\∃c,env.cells.lookup x=some c/\h.IsCell c (some u))
structure Cx.Ok(X:Cx):Prop where
 mod:Mod X.K X.mg X.base
 kind:X.env.scope.kind = .function
 glob:X.env.globals=mainGlobals
 blt:X.env.builtins=builtinsNs
 above:X.s₀.heap.objs.size<=X.env.locals
 inj:∀x y c,X.env.cells.lookup x=some c->X.env.cells.lookup y=some c->x=y
 has:∀x,(X.env.kindOf x=some .cell\/X.env.kindOf x=some .free)->∃c,X.env.cells.lookup x=some c
 cab:∀x c,X.fn x=true->X.env.cells.lookup x=some c->X.s₀.heap.objs.size<=c
 hd:X.calm=true->X.A.handled=none
 frames:X.A.frames=some X.stack
 stk:X.stack=X.outer\/(X.stack=X.env::X.outer/\X.env.frame=some X.env.locals)
 exf:∀b ∈ X.ex,b≠X.env.locals/\∀x c,X.env.cells.lookup x=some c->c≠b
 bs:∀b o,X.base.get? b=some o->X.s₀.heap.get? b=some o/\X.H₀ b=none
 bsz:X.base.objs.size<=X.s₀.heap.objs.size
 noex:∀b o,X.base.get? b=some o->b ∉ X.ex
 exfs:∀b ∈ X.ex,b ∉ X.fs
 funs:X.s₀.heap.FunFrames X.base X.outer
 frf:∀b ∈ X.fs,X.H₀ b=none
structure Inv(X:Cx)(pins:List (Addr×Obj))(σ:List (Option V))(H:Hp)(s:Shared):Prop where
 ok:X.Ok
 os:s.os=X.s₀.os
 bare:AllBare s.gens
 base:Un X.fs X.ex X.H₀ H X.s₀.heap s.heap
 loc:∃m,s.heap.Ns X.env.locals m/\∀(i:Nat) (x:Str) (v:V),X.N[i]? = some x->σ[i]? = some (some v)->uX X.env.scope x->∃u,RelV v u/\Look X.env s.heap m x u
 cell:∀x c,X.env.cells.lookup x=some c->∃v,s.heap.IsCell c v
 free:H X.env.locals=none
 freeC:∀x c,X.env.cells.lookup x=some c->H c=none
 pin:∀p ∈ X.pn++pins,s.heap.get? p.1=some p.2/\H p.1=none/\p.1≠X.env.locals/\p.1 ∉ X.fs/\∀v,p.2.data ≠ .cell v
 hok:VF X.prog X.w H s.heap
 len:σ.length=X.N.length
section
variable{X:Cx}{pins:List (Addr×Obj)}{σ:List (Option V)}{H H':Hp}{s:Shared}{h':Heap}
def Cx.Ok.nofr(ok:X.Ok)(e:X.base.get? b=some o):b ∉ X.fs:=λa=>by
 have:=(ok.funs.mem a).1;rw[e]at this;cases this
theorem Inv.bs(I:Inv X pins σ H s):∀b o,X.base.get? b=some o->s.heap.get? b=some o/\H b=none:=λb o e=>
 ⟨I.base.keep b o (I.ok.bs b o e).1 (I.ok.bs b o e).2 (I.ok.nofr e) (I.ok.noex b o e),I.base.free b o (I.ok.bs b o e).1 (I.ok.bs b o e).2 (I.ok.noex b o e)⟩
def Inv.bk(I:Inv X pins σ H s):∀b o,X.base.get? b=some o->s.heap.get? b=some o:=λb o e=>(I.bs b o e).1
theorem Inv.mod(I:Inv X pins σ H s):Mod X.K X.mg X.base:=I.ok.mod
def Inv.kIn(I:Inv X pins σ H s):X.K.In s.heap:=I.ok.mod.kin.keeps I.bk
theorem Inv.lt(I:Inv X pins σ H s):X.env.locals<s.heap.objs.size:=let⟨_,hn,_⟩:=I.loc;hn.lt
def Inv.sz(I:Inv X pins σ H s):X.s₀.heap.objs.size<=s.heap.objs.size:=zzO I.ok.above (Nat.le_of_lt I.lt)
def Inv.nofs(I:Inv X pins σ H s)(h:s.heap.objs.size<=a):a ∉ X.fs:=λb=>by
 obtain⟨_,o,c,_⟩:=I.ok.funs.mem b;exact absurd (zzK (zxJ c) (zzO I.sz h)) (Nat.lt_irrefl _)
def Inv.cne(I:Inv X pins σ H s):∀x c,X.env.cells.lookup x=some c->c≠X.env.locals:=λx c e z=>by
 obtain⟨v,o,d,f⟩:=I.cell x c e;obtain⟨m,⟨g,h,i,a,b,_⟩,_⟩:=I.loc;rw[z,a]at d;cases d;rw[b]at f;cases f
theorem Inv.funs(I:Inv X pins σ H s):s.heap.FunFrames X.base X.outer:=by
 have a:∀(l:List Env),(∀b ∈ B3 l,b ∈ X.fs)->X.s₀.heap.FunFrames X.base l->s.heap.FunFrames X.base l:=by
  intro l
  induction l with
  |nil=>intro _ _;trivial
  |cons h r i=>
   intro g j;obtain⟨k,⟨L,o,c,m,n,p⟩,q⟩:=j;have d:L ∈ X.fs:=g L (by unfold B3;rw[List.filterMap_cons,c];exact zzF);obtain⟨t,e⟩:=I.base.slot L o n (I.ok.frf L d) d λz=>I.ok.exfs L z d;exact⟨k,⟨L,_,c,m,e,p⟩,i (λb f=>g b (by unfold B3;rw[List.filterMap_cons,c];exact zzD _ f)) q⟩
 exact a X.outer (λ_ f=>f) I.ok.funs
theorem Inv.stack(I:Inv X pins σ H s):s.heap.FunFrames X.base X.stack:=by
 rcases I.ok.stk with e|⟨e,a⟩
 . rw[e];exact I.funs
 . rw[e];obtain⟨m,b,_⟩:=I.loc;refine .cons (by rw[I.ok.kind];decide) a b ?_ I.funs;exact Heap.get?_none_of_le (zzO I.ok.bsz I.ok.above)
def Inv.stkSub(I:Inv X pins σ H s):∀b ∈ B3 X.stack,b ∈ X.env.locals::X.fs:=λb a=>by
 rcases I.ok.stk with e|⟨e,c⟩
 . rw[e]at a;exact zzD _ a
 . rw[e]at a;unfold B3 at a;rw[List.filterMap_cons,c]at a;exact a
def Inv.stkFree(I:Inv X pins σ H s):∀b ∈ B3 X.stack,H b=none:=λb a=>by
 rcases zzC.mp (I.stkSub b a)with e|a
 . rw[e];exact I.free
 . obtain⟨_,o,c,_⟩:=I.ok.funs.mem a;exact I.base.free b o c (I.ok.frf b a) λz=>I.ok.exfs b z a
def Inv.step{g':Array GenState}{t':Nat}{d':Drawn}{ch:List Addr}(I:Inv X pins σ H s)
 (hch:∀b ∈ ch,(b ∈ X.ex\/X.s₀.heap.objs.size<=b)/\b≠X.env.locals/\(∀x c,X.env.cells.lookup x=some c->c≠b)/\∀p ∈ X.pn++pins,p.1≠b)
 (keep:∀b o,b≠X.env.locals->b ∉ X.fs->b ∉ ch->s.heap.get? b=some o->H b=none->h'.get? b=some o)
 (slot:∀b o,b≠X.env.locals->b ∈ X.fs->b ∉ ch->s.heap.get? b=some o->H b=none->∃sl,h'.get? b=some {o with slots:=sl}) (free:∀b o,b ∉ ch->s.heap.get? b=some o->H b=none->H' b=none)
 (there:∀b o,b ∉ ch->s.heap.get? b=some o->∃o',h'.get? b=some o')
 (tups:∀b xs,H b=some (.tup xs)->H' b=some (.tup xs)) (frzs:∀b o u,H b=some (.frz o u)->H' b=some (.frz o u)) (tbls:∀b ps,H b=some (.tbl ps)->∃more,H' b=some (.tbl (ps++more)))
 (ns:∀m,s.heap.Ns X.env.locals m->h'.Ns X.env.locals m) (hok:VF X.prog X.w H' h') (hg:AllBare g'):
 Inv X pins σ H' {s with heap:=h',gens:=g',drawn:=d',toks:=t'}:=by
 have A:∀b o,X.s₀.heap.get? b=some o->b≠X.env.locals:=λb o e=>zzQ (zzK (zxJ e) I.ok.above);have h:∀b o,X.s₀.heap.get? b=some o->b ∉ X.ex->b ∉ ch:=λb o e a t=>by
  rcases(hch b t).1 with z|z
  . exact a z
  . exact absurd (zzK (zxJ e) z) (Nat.lt_irrefl _)
 have f:∀x c,X.env.cells.lookup x=some c->∀v,s.heap.IsCell c v->h'.IsCell c v:=λx c e v ⟨o,y,D⟩=>by
  have g:c ∉ ch:=λz=>(hch c z).2.2.1 x c e rfl
  by_cases G:c ∈ X.fs
  . obtain⟨M,q⟩:=slot c o (I.cne x c e) G g y (I.freeC x c e);exact⟨_,q,D⟩
  . exact⟨o,keep c o (I.cne x c e) G g y (I.freeC x c e),D⟩
 refine⟨I.ok,I.os,hg,⟨λb o e n t a=>?_,λb o e n t a=>?_,λb o e n a=>?_,λb o e a=>?_,λb B e=>tups b B (I.base.tups b B e),λb o B e=>frzs b o B (I.base.frzs b o B e),λb N e=>?_⟩, ?_,λx c e=>?_, ?_,λx c e=>?_,λp J=>?_,hok,I.len⟩
 . exact keep b o (A b o e) t (h b o e a) (I.base.keep b o e n t a) (I.base.free b o e n a)
 . obtain⟨M,j⟩:=I.base.slot b o e n t a;obtain⟨E,C⟩:=slot b _ (A b o e) t (h b o e a) j (I.base.free b o e n a);exact⟨E,C⟩
 . obtain⟨F,j⟩:=I.base.there b o e a;exact free b F (h b o e a) j (I.base.free b o e n a)
 . obtain⟨F,j⟩:=I.base.there b o e a;exact there b F (h b o e a) j
 . obtain⟨O,j⟩:=I.base.tbls b N e;obtain⟨P,C⟩:=tbls b _ j;exact⟨O++P,by rw[C,Array.append_assoc]⟩
 . obtain⟨m,Q,R⟩:=I.loc;refine⟨m,ns m Q,λi x v j C S=>?_⟩;obtain⟨u,r,l⟩:=R i x v j C S;refine⟨u,r, ?_⟩
   rcases l with l|⟨k,c,e,z⟩
   . exact .inl l
   . exact .inr ⟨k,c,e,f x c e _ z⟩
 . obtain⟨v,z⟩:=I.cell x c e;exact⟨v,f x c e v z⟩
 . obtain⟨m,⟨o,_,_,y,_⟩,_⟩:=I.loc;exact free _ o (λz=>(hch _ z).2.1 rfl) y I.free
 . obtain⟨v,o,y,D⟩:=I.cell x c e;exact free c o (λz=>(hch c z).2.2.1 x c e rfl) y (I.freeC x c e)
 . obtain⟨e,n,K,L,d⟩:=I.pin p J;have g:p.1 ∉ ch:=λz=>(hch p.1 z).2.2.2 p J rfl;exact⟨keep p.1 p.2 K L g e n,free p.1 p.2 g e n,K,L,d⟩
def Inv.un{t':Nat}(I:Inv X pins σ H s)(u:Un X.fs [] H H' s.heap h')(hok:VF X.prog X.w H' h'):Inv X pins σ H' {s with heap:=h',toks:=t'}:=by
 obtain⟨m,⟨o,k,l,g,r⟩,_⟩:=id I.loc;obtain⟨p,h⟩:=u.any g I.free (by simp);exact I.step (g':=s.gens) (d':=s.drawn) (ch:=[]) (λ_ z=>nomatch z) (λb o _ c _ e n=>u.keep b o e n c (by simp)) (λb o _ c _ e n=>u.slot b o e n c (by simp)) (λb o _ e n=>u.free b o e n (by simp)) (λb o _ e=>u.there b o e (by simp)) u.tups u.frzs u.tbls (λq i=>by
  obtain⟨t,d,f,a,j⟩:=i;rw[g]at a;cases a;exact⟨_,d,f,h,j⟩) hok I.bare
def Inv.call{g':Array GenState}{t':Nat}{d':Drawn}{ch:List Addr}(I:Inv X pins σ H s)(u:Un (B3 X.stack) ch H H' s.heap h')(hok:VF X.prog X.w H' h')(hg:AllBare g')
 (hch:∀b ∈ ch,(b ∈ X.ex\/X.s₀.heap.objs.size<=b)/\b≠X.env.locals/\(∀x c,X.env.cells.lookup x=some c->c≠b)/\∀p ∈ X.pn++pins,p.1≠b):
 Inv X pins σ H' {s with heap:=h',gens:=g',drawn:=d',toks:=t'}:=by
 obtain⟨m,⟨o,q,t,i,r⟩,_⟩:=id I.loc;obtain⟨v,f⟩:=u.any i I.free λz=>(hch _ z).2.1 rfl;exact I.step (ch:=ch) hch (λb o f j a e n=>u.keep b o e n (λz=>(zzC.mp (I.stkSub b z)).elim f j) a) (λb o _ _ a e n=>u.any e n a) (λb o a e n=>u.free b o e n a) (λb o a e=>u.there b o e a) u.tups u.frzs u.tbls (λy k=>by
  obtain⟨A,g,h,d,l⟩:=k;rw[i]at d;cases d;exact⟨_,g,h,f,l⟩) hok hg
def Inv.turned{t':Nat}{it:Addr}(I:Inv X pins σ H s)(k:∀b o,b≠it->s.heap.get? b=some o->h'.get? b=some o)(hn:H it=none)(hL:it≠X.env.locals)
 (h1:it ∈ X.ex\/X.s₀.heap.objs.size<=it) (h2:∀x c,X.env.cells.lookup x=some c->c≠it) (h3:∀p ∈ X.pn++pins,p.1≠it):Inv X pins σ H {s with heap:=h',toks:=t'}:=by
 have d:∀b u,H b=some u->b≠it:=λb u e z=>by rw[z,hn]at e;cases e
 refine I.step (g':=s.gens) (d':=s.drawn) (ch:=[it]) (λb f=>?_) (λb o _ _ a e _=>k b o (λz=>a (by simp[z])) e) (λb o _ _ a e _=>⟨o.slots,k b o (λz=>a (by simp[z])) e⟩) (λ_ _ _ _ n=>n)
  (λb o a e=>⟨o,k b o (λz=>a (by simp[z])) e⟩) (λ_ _ e=>e) (λ_ _ _ e=>e) (λb l e=>⟨#[],by rw[e];simp⟩) (λm g=>?_) (λb u e=>?_) I.bare
 . have e:b=it:=by simpa using f
   subst e;exact⟨h1,hL,h2,h3⟩
 . obtain⟨o,h,i,j,r⟩:=g;exact⟨o,h,i,k _ o (Ne.symm hL) j,r⟩
 . refine(I.hok b u e).stay (λc v a q=>k c v ?_ q) (λ_ q=>q) λ_ _ q=>q
   rcases a with z|z
   . rw[z];exact d b u e
   . exact d c _ z
def Inv.tok(I:Inv X pins σ H s)(t:Nat):Inv X pins σ H {s with toks:=t}:=I.un (h':=s.heap) (t':=t) Un.refl I.hok
theorem Inv.kept(I:Inv X pins σ H s)(k:∀b u,s.heap.get? b=some u->h'.get? b=some u):Inv X pins σ H {s with heap:=h',toks:=t'}:=I.un (Un.kept k) (I.hok.kept k)
theorem Inv.laid(I:Inv X pins σ H s)(k:∀b u,s.heap.get? b=some u->h'.get? b=some u)(hp:s.heap.objs.size<=a)(new:xi X.prog X.w (upd H a o) h' a o):
 Inv X pins σ (upd H a o) {s with heap:=h',toks:=t'}:=I.un (Un.laid k hp (I.hok.fresh hp)) (I.hok.laid k hp new)
theorem Inv.write(I:Inv X pins σ H s)(mu:sJ (H x))(he:e=x\/H e=some (.own x))(k:∀b u,b≠e->s.heap.get? b=some u->h'.get? b=some u)(heo:∃u,h'.get? e=some u)
 (new:xi X.prog X.w (upd H x o) h' x o):Inv X pins σ (upd H x o) {s with heap:=h',toks:=t'}:=I.un (Un.write mu he k heo) (I.hok.write mu he k heo new)
def Inv.weak(I:Inv X pins σ H s)(hl:σ'.length=σ.length)(w:∀(i:Nat) v,σ'[i]? = some (some v)->σ[i]? = some (some v)):Inv X pins σ' H s:=
 ⟨I.ok,I.os,I.bare,I.base,let⟨m,hn,hl'⟩:=I.loc;⟨m,hn,λi x v a b c=>hl' i x v a (w i v b) c⟩,I.cell,I.free,I.freeC,I.pin,I.hok,hl.trans I.len⟩
def Inv.pins_of(I:Inv X pins σ H s)(h:∀p ∈ pins',s.heap.get? p.1=some p.2/\H p.1=none/\p.1≠X.env.locals/\p.1 ∉ X.fs/\∀v,p.2.data ≠ .cell v):Inv X pins' σ H s:=
 ⟨I.ok,I.os,I.bare,I.base,I.loc,I.cell,I.free,I.freeC,λp a=>(zzM.mp a).elim (λz=>I.pin p (zzP _ z)) (h p),I.hok,I.len⟩
def N4{N:List Str}(hN:N.Nodup){i j:Nat}{x:Str}(a:N[i]? = some x)(b:N[j]? = some x):i=j:=by
 obtain⟨e,c⟩:=zzG.mp a;obtain⟨f,d⟩:=zzG.mp b;exact(List.getElem_inj hN).mp (c.trans d.symm)
def GI{M:Model}{A:Around}{E:Value->Shared->Prop}{i:Nat}{x:Str}{v:V}{u:Value}{Q:Unit->Shared->Prop}(I:Inv X pins σ H s)(hN:X.N.Nodup)(hi:X.N[i]? = some x)(hx:Loc X.env.scope x)(r:RelV v u)
 (h:∀s',Inv X pins (σ.set i (some v)) H s'->(∃a,Heap.SameBut a s.heap s'.heap/\(a=X.env.locals\/X.env.cells.lookup x=some a))->Q () s') (hf:X.fn x=true\/X.env.scope.names.lookup x=some .local:=by first|exact .inl rfl|exact .inr rfl|assumption):wpAny M A (storeName X.env x u) Q E s:=by
 obtain⟨m,hn,hl⟩:=id I.loc;have hcls:(X.env.scope.kind == .class||(X.env.scope.kind == .module&&X.env.locals != X.env.globals))=false:=by rw[I.ok.kind];rfl
 have hiσ:i<σ.length:=by rw[I.len];exact(zzG.mp hi).1
 have cne:=I.cne;have tracked:∀{a:Addr}{h':Heap},(∃o,s.heap.get? a=some o/\H a=none)->Heap.SameBut a s.heap h'->VF X.prog X.w H h':=λ{a h'} ha hs b ob e=>by
  obtain⟨_,_,hfree⟩:=ha;refine(I.hok b ob e).stay (λc w' hc q=>(hs.2 c ?_).trans q) (λ_ q=>q) λ_ _ q=>q
  rintro rfl
  rcases hc with rfl|hc
  . rw[hfree]at e;cases e
  . rw[hfree]at hc;cases hc
 rcases hx with hk|hk
 . refine wpAny_storeName_local hk hn (λh' hn' hs=>?_) hcls;obtain⟨oL,_,_,hoL,_⟩:=id hn;refine h _ ⟨I.ok,I.os,I.bare,⟨λb o e n hb hx=>?_,λb o e n hb hx=>?_,I.base.free,λb o e hx=>?_,I.base.tups,I.base.frzs,I.base.tbls⟩,⟨_,hn',λj y v' e1 e2 e3=>?_⟩,λy c e=>?_,I.free,I.freeC,λp hp=>?_,tracked ⟨oL,hoL,I.free⟩ hs,by simpa using I.len⟩ ⟨_,hs,.inl rfl⟩
   . exact(hs.2 b (zzQ (zzK (zxJ e) I.ok.above))).trans (I.base.keep b o e n hb hx)
   . obtain⟨sl,e1⟩:=I.base.slot b o e n hb hx;exact⟨sl,(hs.2 b (zzQ (zzK (zxJ e) I.ok.above))).trans e1⟩
   . obtain⟨o',e1⟩:=I.base.there b o e hx;exact⟨o',(hs.2 b (zzQ (zzK (zxJ e) I.ok.above))).trans e1⟩
   . by_cases hj:j=i
     . subst hj;rw[hi]at e1;cases e1;rw[zyK hiσ]at e2;cases e2;exact⟨u,r,.inl ⟨hk,by simp⟩⟩
     . rw[zzY (Ne.symm hj)]at e2;obtain⟨u',r',q⟩:=hl j y v' e1 e2 e3;refine⟨u',r', ?_⟩
       rcases q with⟨k,e⟩|⟨k,c,e,z⟩
       . refine .inl ⟨k, ?_⟩;have:y≠x:=λe=>hj (N4 hN e1 (e ▸ hi));simp[this,e]
       . exact .inr ⟨k,c,e,z.sameBut hs (cne y c e)⟩
   . obtain⟨w',z⟩:=I.cell y c e;exact⟨w',z.sameBut hs (cne y c e)⟩
   . obtain⟨e,n,ne,nf,d⟩:=I.pin p hp;exact⟨(hs.2 p.1 ne).trans e,n,ne,nf,d⟩
 . have hfn:X.fn x=true:=by
    rcases hf with z|z
    . exact z
    . rw[z]at hk;cases hk
   obtain⟨c,hc⟩:=I.ok.has x (.inl hk);obtain⟨w',z⟩:=I.cell x c hc;refine wpAny_storeName_cell I.ok.kind hk hc z (λh' hc' hs=>?_);obtain⟨oc,hoc,hocd⟩:=id z;refine h {s with heap:=h'} ⟨I.ok,I.os,I.bare,⟨λb o e n hb hx=>?_,λb o e n hb hx=>?_,I.base.free,λb o e hx=>?_,I.base.tups,I.base.frzs,I.base.tbls⟩,⟨m,hn.sameBut hs (Ne.symm (cne x c hc)),λj y v' e1 e2 e3=>?_⟩,λy c' e=>?_,I.free,I.freeC,λp hp=>?_,tracked ⟨oc,hoc,I.freeC x c hc⟩ hs,by simpa using I.len⟩ ⟨c,hs,.inr hc⟩
   . exact(hs.2 b (zzQ (zzK (zxJ e) (I.ok.cab x c hfn hc)))).trans (I.base.keep b o e n hb hx)
   . obtain⟨sl,e1⟩:=I.base.slot b o e n hb hx;exact⟨sl,(hs.2 b (zzQ (zzK (zxJ e) (I.ok.cab x c hfn hc)))).trans e1⟩
   . obtain⟨o',e1⟩:=I.base.there b o e hx;exact⟨o',(hs.2 b (zzQ (zzK (zxJ e) (I.ok.cab x c hfn hc)))).trans e1⟩
   . by_cases hj:j=i
     . subst hj;rw[hi]at e1;cases e1;rw[zyK hiσ]at e2;cases e2;exact⟨u,r,.inr ⟨.inl hk,c,hc,hc'⟩⟩
     . rw[zzY (Ne.symm hj)]at e2;obtain⟨u',r',q⟩:=hl j y v' e1 e2 e3;refine⟨u',r', ?_⟩
       rcases q with q|⟨k,c',e,z'⟩
       . exact .inl q
       . refine .inr ⟨k,c',e,z'.sameBut hs ?_⟩
         rintro rfl
         exact hj (N4 hN e1 (I.ok.inj _ _ _ e hc ▸ hi))
   . by_cases hcc:c'=c
     . subst hcc;exact⟨_,hc'⟩
     . obtain⟨w2,z2⟩:=I.cell y c' e;exact⟨w2,z2.sameBut hs hcc⟩
   . obtain⟨e,n,ne,nf,d⟩:=I.pin p hp;refine⟨(hs.2 p.1 ?_).trans e,n,ne,nf,d⟩;intro q;rw[q,hoc]at e;have q':oc=p.2:=zzZ e;exact d w' (by rw[<-q'];exact hocd)
def Xe(I:Inv X pins σ H s)(hN:X.N.Nodup)(hi:X.N[i]? = some x)(hx:Loc X.env.scope x)(r:RelV v u)
 (h:∀s',Inv X pins (σ.set i (some v)) H s'->Q () s') (hf:X.fn x=true\/X.env.scope.names.lookup x=some .local:=by first|exact .inl rfl|exact .inr rfl|assumption):wpAny M A (storeName X.env x u) Q E s:=
 GI I hN hi hx r (λa b _=>h a b) hf
def Inv.call'(I:Inv X pins σ H s)(ho:s'.os=s.os)(u:Un (B3 X.stack) ch H H' s.heap s'.heap)(hok:VF X.prog X.w H' s'.heap)(hg:AllBare s'.gens)
 (hch:∀b ∈ ch,(b ∈ X.ex\/X.s₀.heap.objs.size<=b)/\b≠X.env.locals/\(∀x c,X.env.cells.lookup x=some c->c≠b)/\∀p ∈ X.pn++pins,p.1≠b):Inv X pins σ H' s':=by
 obtain⟨h,a,d,f,g⟩:=s';have e:g=s.os:=ho;subst e;exact I.call (g':=a) (t':=f) (d':=d) u hok hg hch
end
abbrev XK:=Value->Option Addr->Hp->Prop
abbrev St:=List (Option V)
abbrev VK:=V->Hp->Prop
abbrev TE:=St->Hp->VK->Prop
abbrev TT:=St->Hp->(Bool->Hp->Prop)->Prop
abbrev TA:=St->Hp->(List V->Hp->Prop)->Prop
structure Ends where
 nx:St->Hp->Prop
 rt:VK
 bk:St->Hp->Prop:=λ_ _=>False
 ct:St->Hp->Prop:=λ_ _=>False
abbrev TS:=Ends->St->Hp->Prop
def EP(X:Cx)(pins:List (Addr×Obj))(σ:St)(Q:VK)(u:Value)(s':Shared):Prop:=∃v H',Inv X pins σ H' s'/\RelV v u/\Q v H'
def TP(X:Cx)(pins:List (Addr×Obj))(σ:St)(Q:Bool->Hp->Prop)(b:Bool)(s':Shared):Prop:=∃H',Inv X pins σ H' s'/\Q b H'
def AP(X:Cx)(pins:List (Addr×Obj))(σ:St)(Q:List V->Hp->Prop)(us:List Value)(s':Shared):Prop:=∃vs H',Inv X pins σ H' s'/\z_ vs us/\Q vs H'
def SP(X:Cx)(pins:List (Addr×Obj))(D:Ends)(f:Flow)(s':Shared):Prop:=
 match f with
 | .next=>∃σ' H',Inv X pins σ' H' s'/\D.nx σ' H'
 | .brk=>∃σ' H',Inv X pins σ' H' s'/\D.bk σ' H'
 | .cont=>∃σ' H',Inv X pins σ' H' s'/\D.ct σ' H'
 | .ret u=>∃v σ' H',Inv X pins σ' H' s'/\RelV v u/\D.rt v H'
def PE(X:Cx)(e:Expr)(t:TE):Prop:=
 ∀(pins:List (Addr×Obj)) (s:Shared) (σ:St) (H:Hp) (Q:VK),Inv X pins σ H s->t σ H Q->wpAny (model X.prog X.w) X.A (eval e X.env) (EP X pins σ Q) X.xe s
def PT(X:Cx)(e:Expr)(t:TT):Prop:=
 ∀(pins:List (Addr×Obj)) (s:Shared) (σ:St) (H:Hp) (Q:Bool->Hp->Prop),Inv X pins σ H s->t σ H Q->wpAny (model X.prog X.w) X.A (isTrue e X.env (eval e X.env)) (TP X pins σ Q) X.xe s
def PW(X:Cx)(e:Expr)(t:TT):Prop:=
 ∀(whole:Sem Value) (pins:List (Addr×Obj)) (s:Shared) (σ:St) (H:Hp) (Q:Bool->Hp->Prop),Inv X pins σ H s->t σ H Q->wpAny (model X.prog X.w) X.A (isTrue e X.env whole) (TP X pins σ Q) X.xe s
def PW.pt(h:PW X e t):PT X e t:=h _
def PA(X:Cx)(es:List Expr)(t:TA):Prop:=
 ∀(pos:Pos) (pins:List (Addr×Obj)) (s:Shared) (σ:St) (H:Hp) (Q:List V->Hp->Prop),Inv X pins σ H s->t σ H Q->wpAny (model X.prog X.w) X.A (spliced (backTo pos (starEach es X.env))) (AP X pins σ Q) X.xe s
def PS(X:Cx)(st:Stmt)(t:TS):Prop:=
 ∀(pins:List (Addr×Obj)) (s:Shared) (σ:St) (H:Hp) (D:Ends),Inv X pins σ H s->t D σ H->wpAny (model X.prog X.w) X.A (exec st X.env) (SP X pins D) X.xe s
def Mo(X:Cx)(st:List Stmt)(t:TS):Prop:=
 ∀(pins:List (Addr×Obj)) (s:Shared) (σ:St) (H:Hp) (D:Ends),Inv X pins σ H s->t D σ H->wpAny (model X.prog X.w) X.A (execs st X.env) (SP X pins D) X.xe s
def thn(h:wpAny M A t Q E s)(hQ:∀a s,Q a s->Q' a s):wpAny M A t Q' E s:=zxP h hQ λ_ _ x=>x
end L2
namespace L2
open PySem PySem.Spec PyProof.Rows
section
variable{X:Cx}
def WZ(i:Nat):TE:=λσ H Q=>∃v,σ[i]? = some (some v)/\Q v H
def tC(v:V):TE:=λ_ H Q=>Q v H
def B7(hN:X.N[i]? = some x)(hv:uX X.env.scope x)(hd:(x==("__debug__":Str))=false:=by decide)(hcd:(x==("__classdict__":Str))=false:=by decide):PE X (.Name x pos) (WZ i):=by
 intro f s σ H Q I h;obtain⟨v,e,h⟩:=h;obtain⟨m,j,k⟩:=I.loc;obtain⟨u,r,l⟩:=k i x v hN e hv;have b:EP X f σ Q u s:=⟨v,H,I,r,h⟩
 rcases l with⟨d,n⟩|⟨d,c,g,a⟩
 . exact wpAny_Name (wpAny_loadName_local I.ok.kind d j n b) hd
 . rcases d with d|d
   . exact wpAny_Name (wpAny_loadName_cell I.ok.kind d g a b) hd
   . exact wpAny_Name (wpAny_loadName_free I.ok.kind d g a b hcd) hd
def KR:PE X (.Constant (.int i) j pos) (tC (.int i)):=λ_ _ _ H _ I h=>wpAny_Constant_int ⟨.int i,H,I.tok _,⟨_,rfl⟩,h⟩
def tX:PE X (.Constant (.bool b) j pos) (tC (.bl b)):=λ_ _ _ H _ I h=>Constant_bool ⟨.bl b,H,I,rfl,h⟩
def ui:PE X (.Constant .none j pos) (tC .non):=λ_ _ _ H _ I h=>Constant_none ⟨.non,H,I,rfl,h⟩
def A9:PE X (.Constant (.str x) j pos) (tC (.str x)):=λ_ _ _ H _ I h=>Calls.Constant_str ⟨.str x,H,I.tok _,⟨_,rfl⟩,h⟩
def Gl(X:Cx)(x:Str):Prop:=X.env.kindOf x=some .globalImplicit
def OX(I:Inv X pins σ H s)(hg:Gl X x)(hm:X.mg x=some u)(h:Q u s)
 (hd:(x==("__debug__":Str))=false:=by decide):wpAny (model X.prog X.w) X.A (eval (.Name x pos) X.env) Q E s:=
 Calls.Name_function_global I.ok.kind hg (Calls.loadGlobal_global (by rw[I.ok.glob];exact I.mod.glob.keeps I.bk) hm h) hd
def vQ(I:Inv X pins σ H s)(hg:Gl X x)(hm:X.mg x=none)(hv:bootBuiltins x=some u)(h:Q u s)
 (hn:x≠"__name__":=by decide) (hd:(x==("__debug__":Str))=false:=by decide):wpAny (model X.prog X.w) X.A (eval (.Name x pos) X.env) Q E s:=by
 obtain⟨c,a,b⟩:=I.mod.blt;exact Calls.Name_function_global I.ok.kind hg (Calls.loadGlobal_builtin (by rw[I.ok.glob];exact I.mod.glob.keeps I.bk) hm (by rw[I.ok.blt];exact a.keeps I.bk) ((b x hn).trans hv) h) hd
def Ib(hg:Gl X x)(hm:X.mg x=none)(hv:bootBuiltins x=some u)(r:RelV v u)(hn:x≠"__name__":=by decide)(hd:(x==("__debug__":Str))=false:=by decide):PE X (.Name x pos) (tC v):=
 λ_ _ _ H _ I h=>vQ I hg hm hv ⟨v,H,I,r,h⟩ hn hd
variable{a b:Expr}{ta tb:TE}{pos:Pos}
variable{tA tB':TT}{rest:List Expr}
def qg(t u:TT):TT:=λσ H Q=>t σ H λc H1=>if c=true then u σ H1 Q else Q false H1
def oo(t u:TT):TT:=λσ H Q=>t σ H λc H1=>if c=true then Q true H1 else u σ H1 Q
def qj(t:TT):TT:=λσ H Q=>t σ H λc H1=>Q (!c) H1
def OU(ha:PT X a tA):PW X (.BoolOp .And [a] pos) tA:=by
 intro d b s σ H Q I h;refine isTrue_and (thn (ha b s σ H Q I h) λc f e=>?_);cases c with
 |true=>exact isTrue_and_nil e
 |false=>exact e
def uh(ha:PT X a tA):PW X (.BoolOp .Or [a] pos) tA:=by
 intro d b s σ H Q I h;refine isTrue_or (thn (ha b s σ H Q I h) λc f e=>?_);cases c with
 |false=>exact isTrue_or_nil e
 |true=>exact e
def DG(ha:PT X a tA)(hb:PW X (.BoolOp .And (b::rest) pos) tB'):PW X (.BoolOp .And (a::b::rest) pos) (qg tA tB'):=by
 intro i d s σ H Q I h;refine isTrue_and (thn (ha d s σ H _ I h) λc j ⟨e,f,g⟩=>?_);cases c with
 |true=>exact hb i d j σ e Q f g
 |false=>exact⟨e,f,g⟩
def tL(ha:PT X a tA)(hb:PW X (.BoolOp .Or (b::rest) pos) tB'):PW X (.BoolOp .Or (a::b::rest) pos) (oo tA tB'):=by
 intro i d s σ H Q I h;refine isTrue_or (thn (ha d s σ H _ I h) λc j ⟨e,f,g⟩=>?_);cases c with
 |true=>exact⟨e,f,g⟩
 |false=>exact hb i d j σ e Q f g
def Aw(ha:PT X a tA):PT X (.UnaryOp .Not a pos) (qj tA):=by
 intro b s σ H Q I h;exact isTrue_not (ha b s σ H (λc d=>Q (!c) d) I h)
def tm(ta tb:TE):TE:=λσ H Q=>ta σ H λx H1=>∃c,x = .bl c/\if c=true then tb σ H1 Q else Q (.bl false) H1
def sy(ta:TE):TE:=λσ H Q=>ta σ H λx H1=>∃c,x = .bl c/\Q (.bl (!c)) H1
def AL(h:PE X a t):PE X (.BoolOp op [a] pos) t:=λb s σ H Q I c=>BoolOp_one (h b s σ H Q I c)
def Dl(ha:PE X a ta)(hb:PE X (.BoolOp .And (b::rest) pos) tb):PE X (.BoolOp .And (a::b::rest) pos) (tm ta tb):=by
 intro d s σ H Q I h;refine BoolOp_and (thn (ha d s σ H _ I h) λv i ⟨x,f,g,j,e⟩=>?_);obtain⟨c,rfl,e⟩:=e;cases j;refine wpAny_truthy_bool ?_;cases c with
 |true=>exact hb d i σ f Q g e
 |false=>exact⟨.bl false,f,g,rfl,e⟩
def AV(ha:PE X a ta):PE X (.UnaryOp .Not a pos) (sy ta):=by
 intro b s σ H Q I h;refine UnaryOp_ (thn (ha b s σ H _ I h) λv i ⟨x,e,f,g,d⟩=>?_);obtain⟨c,rfl,d⟩:=d;cases g;exact not_of (wpAny_truthy_bool ⟨.bl (!c),e,f,rfl,d⟩)
end
end L2
namespace L2
open PySem PySem.Spec PyProof.Rows
def Z5(K:zzA)(H:Hp)(a:Addr)(xs:List V):Prop:=
 Rd H a (.lst xs) \/
  ∃(o:Obj) (its:Array Value) (n:Nat),K.lookup a=some o/\o.cls = .type "list"/\o.dict=none/\o.data = .seq its n/\its.size<=sizeLine/\z_ xs its.toList
def SY(K:zzA)(H:Hp)(a:Addr)(xs:List V):Prop:=
 Rd H a (.lst xs)\/∃(its:Array Value) (n:Nat),K.lookup a=some {cls:=.type "list",data:=.seq its n}/\its.size<=sizeLine/\z_ xs its.toList
def VQ(K:zzA)(H:Hp)(a:Addr)(xs:List V):Prop:=
 Rd H a (.tup xs) \/
  ∃(o:Obj) (its:Array Value) (n:Nat),K.lookup a=some o/\o.cls = .type "tuple"/\o.data = .seq its n/\its.size<=sizeLine/\z_ xs its.toList
noncomputable def qo:Value->Option V
 | .none=>some .non
 | .bool b=>some (.bl b)
 | .int i _=>some (.int i)
 | .str x _=>some (.str x)
 | .bytes b _=>some (.byt b)
 | .float b _=>some (.flt b)
 | .ref a=>some (.ref a)
 | .type n=>some (.ty n)
 |_=>none
def RelV.abs(r:RelV x u):qo u=some x:=by
 cases x with
 |non=>cases r;rfl
 |bl _=>cases r;rfl
 |int _=>obtain⟨t,rfl⟩:=r;rfl
 |str _=>obtain⟨t,rfl⟩:=r;rfl
 |byt _=>obtain⟨t,rfl⟩:=r;rfl
 |flt _=>obtain⟨t,rfl⟩:=r;rfl
 |ref _=>cases r;rfl
 |ty _=>cases r;rfl
def RelV.inj(r:RelV x u)(q:RelV y u):x=y:=zzZ (r.abs.symm.trans q.abs)
theorem z_.inj:∀{xs ys:List V}{us:List Value},z_ xs us->z_ ys us->xs=ys
 |_,_,_,.nil,.nil=>rfl
 |_,_,_,.cons r t,.cons a b=>by rw[r.inj a,z_.inj t b]
section
variable{X:Cx}{pins:List (Addr×Obj)}{σ:St}{H:Hp}{s:Shared}{a:Addr}{xs ys:List V}
def Inv.list(I:Inv X pins σ H s)(h:Z5 X.K H a xs):∃its:List Value,z_ xs its/\PlainL s.heap a its.toArray/\xs.length<=sizeLine:=by
 rcases h with h|⟨o,b,n,c,d,f,g,i,r⟩
 . obtain⟨z,b,n,r,e⟩:=h.ok I.hok;exact⟨b,r,⟨_,n,e,rfl,rfl,rfl⟩,z⟩
 . refine⟨b.toList,r,⟨o,n,I.kIn a o c,d,f,by simpa using g⟩, ?_⟩;have e:=r.length;simp only[zyT]at e;omega
def Inv.tuple(I:Inv X pins σ H s)(h:VQ X.K H a xs):∃its:List Value,z_ xs its/\IsTup s.heap a its.toArray/\xs.length<=sizeLine:=by
 rcases h with h|⟨o,b,n,c,d,f,g,r⟩
 . obtain⟨z,b,r,p⟩:=h.ok I.hok;exact⟨b,r,p,z⟩
 . refine⟨b.toList,r,⟨o,I.kIn a o c,d,n,by simpa using f⟩, ?_⟩;have e:=r.length;simp only[zyT]at e;omega
def Inv.list_inj(I:Inv X pins σ H s)(h:Z5 X.K H a xs)(h':Z5 X.K H a ys):xs=ys:=by
 obtain⟨its,r,⟨o,n,e,_,_,d⟩,_⟩:=I.list h;obtain⟨its',r',⟨o',n',e',_,_,d'⟩,_⟩:=I.list h';rw[e]at e';cases e';rw[d]at d';injection d' with d1 _
 have:its=its':=by simpa using congrArg Array.toList d1
 subst this;exact r.inj r'
def Inv.tuple_inj(I:Inv X pins σ H s)(h:VQ X.K H a xs)(h':VQ X.K H a ys):xs=ys:=by
 obtain⟨its,r,⟨o,e,_,n,d⟩,_⟩:=I.tuple h;obtain⟨its',r',⟨o',e',_,n',d'⟩,_⟩:=I.tuple h';rw[e]at e';cases e';rw[d]at d';injection d' with d1 _
 have:its=its':=by simpa using congrArg Array.toList d1
 subst this;exact r.inj r'
end
abbrev Cx.wish(X:Cx)(E:Value->Shared->Prop):Cx:={X with xe:=E}
abbrev Cx.nox(X:Cx):Cx:=X.wish λ_ _=>False
theorem Cx.Ok.wish{X:Cx}(ok:X.Ok)(E:Value->Shared->Prop):(X.wish E).Ok:=
 ⟨ok.mod,ok.kind,ok.glob,ok.blt,ok.above,ok.inj,ok.has,ok.cab,ok.hd,ok.frames,ok.stk,ok.exf,ok.bs,ok.bsz,ok.noex,ok.exfs,ok.funs,ok.frf⟩
def Cx.Ok.unwish{X:Cx}{E:Value->Shared->Prop}(ok:(X.wish E).Ok):X.Ok:=
 ⟨ok.mod,ok.kind,ok.glob,ok.blt,ok.above,ok.inj,ok.has,ok.cab,ok.hd,ok.frames,ok.stk,ok.exf,ok.bs,ok.bsz,ok.noex,ok.exfs,ok.funs,ok.frf⟩
section
variable{X:Cx}{pins:List (Addr×Obj)}{σ:St}{H:Hp}{s:Shared}{E:Value->Shared->Prop}
theorem Inv.wish(I:Inv X pins σ H s)(E:Value->Shared->Prop):Inv (X.wish E) pins σ H s:=⟨I.ok.wish E,I.os,I.bare,I.base,I.loc,I.cell,I.free,I.freeC,I.pin,I.hok,I.len⟩
theorem Inv.unwish(I:Inv (X.wish E) pins σ H s):Inv X pins σ H s:=⟨I.ok.unwish,I.os,I.bare,I.base,I.loc,I.cell,I.free,I.freeC,I.pin,I.hok,I.len⟩
theorem SP.unwish(h:SP (X.wish E) pins D f s'):SP X pins D f s':=by
 cases f with
 |next=>obtain⟨σ',H',I,q⟩:=h;exact⟨σ',H',I.unwish,q⟩
 |brk=>obtain⟨σ',H',I,q⟩:=h;exact⟨σ',H',I.unwish,q⟩
 |cont=>obtain⟨σ',H',I,q⟩:=h;exact⟨σ',H',I.unwish,q⟩
 |ret u=>obtain⟨v,σ',H',I,r,q⟩:=h;exact⟨v,σ',H',I.unwish,r,q⟩
theorem Mo.nox{st:List Stmt}{t:TS}(h:Mo X.nox st t):Mo X st t:=λa s σ H D I b=>
 zxP (h a s σ H D (I.wish _) b) (λ_ _ q=>q.unwish) λ_ _ z=>False.elim z
end
section
variable{X:Cx}{st:Stmt}{rest:List Stmt}{t u:TS}{e:Expr}{te:TE}{pos:Pos}
def tF:TS:=λD σ H=>D.nx σ H
def qa(t u:TS):TS:=λD σ H=>t {D with nx:=u D} σ H
def CD:Mo X [] tF:=λ_ _ σ H _ I h=>wpAny_execs_nil ⟨σ,H,I,h⟩
def Nc(h1:PS X st t)(h2:Mo X rest u):Mo X (st::rest) (qa t u):=by
 intro pins s σ H D I h;refine wpAny_execs_cons (thn (h1 pins s σ H {D with nx:=u D} I h) λf s1 q=>?_);cases f with
 |next=>
  obtain⟨σ',H',I',q⟩:=q;exact h2 pins s1 σ' H' D I' q
 |ret v=>exact q
 |brk=>exact q
 |cont=>exact q
def Fc(h1:PS X st t):Mo X [st] t:=by
 intro pins s σ H D I h;refine wpAny_execs_cons (thn (h1 pins s σ H D I h) λf s1 q=>?_);cases f with
 |next=>exact wpAny_execs_nil q
 |ret v=>exact q
 |brk=>exact q
 |cont=>exact q
def Inv.quiet(I:Inv X pins σ H s):interactive X.env=false:=by simp[interactive,I.ok.kind]
def uL(te:TE):TS:=λD σ H=>te σ H λ_ H1=>D.nx σ H1
def FH(he:PE X e te)(hs:swapsWith e none pos.line X.env=pure false:=by rfl):PS X (.Expr e pos) (uL te):=by
 intro a s σ H D I h;exact wpAny_Expr_any (thn (he a s σ H _ I h) λv f ⟨x,b,c,g,d⟩=>⟨σ,b,c,d⟩) I.quiet hs
def rP(te:TE):TS:=λD σ H=>te σ H D.rt
def D7(he:PE X e te):PS X (.Return (some e) pos) (rP te):=by
 intro a s σ H D I h;exact wpAny_Return_some (thn (he a s σ H _ I h) λv g ⟨x,b,c,d,f⟩=>⟨x,σ,b,c,d,f⟩)
def qh(c:TT)(t u:TS):TS:=λD σ H=>c σ H λb H1=>if b=true then t D σ H1 else u D σ H1
def uO(hc:PT X c tc)(ha:Mo X a t)(hb:Mo X b u):PS X (.If c a b pos) (qh tc t u):=by
 intro e s σ H D I h;refine wpAny_If (thn (hc e s σ H _ I h) λd f ⟨g,i,j⟩=>?_);cases d with
 |true=>exact ha e f σ g D i j
 |false=>exact hb e f σ g D i j
end
abbrev TG:=V->St->Hp->(St->Hp->Prop)->Prop
abbrev DB:=List V->St->Hp->(St->Hp->Prop)->Prop
def PG(X:Cx)(target:Expr)(t:TG):Prop:=
 ∀(pins:List (Addr×Obj)) (s:Shared) (σ:St) (H:Hp) (v:V) (u:Value) (Q:St->Hp->Prop),Inv X pins σ H s->RelV v u->t v σ H Q->
  wpAny (model X.prog X.w) X.A (assign target X.env u) (λ_ s'=>∃σ' H',Inv X pins σ' H' s'/\Q σ' H') X.xe s
def JM(X:Cx)(ts:List Expr)(t:DB):Prop:=
 ∀(pins:List (Addr×Obj)) (s:Shared) (σ:St) (H:Hp) (vs:List V) (us:List Value) (Q:St->Hp->Prop),Inv X pins σ H s->z_ vs us->t vs σ H Q->
  wpAny (model X.prog X.w) X.A (assignInOrder ((assignEach ts X.env).map (·.2)) us) (λ_ s'=>∃σ' H',Inv X pins σ' H' s'/\Q σ' H') X.xe s
abbrev uT:=V->V->V->Hp->(Hp->Prop)->Prop
def uD(X:Cx)(t:uT):Prop:=
 ∀(pins:List (Addr×Obj)) (s:Shared) (σ:St) (H:Hp) (o i v:V) (ov iv u:Value) (Q:Hp->Prop),Inv X pins σ H s->RelV o ov->RelV i iv->RelV v u->t o i v H Q->
  wpAny (model X.prog X.w) X.A (setItem ov iv u) (λ_ s'=>∃H',Inv X pins σ H' s'/\Q H') X.xe s
abbrev qb:=V->V->Hp->VK->Prop
def q8(X:Cx)(op:Operator)(t:qb):Prop:=
 ∀(pins:List (Addr×Obj)) (s:Shared) (σ:St) (H:Hp) (x y:V) (v u:Value) (Q:VK),Inv X pins σ H s->RelV x v->RelV y u->t x y H Q->
  wpAny (model X.prog X.w) X.A (inplaceOp op v u) (EP X pins σ Q) X.xe s
section
variable{X:Cx}{pos:Pos}
def Nm(i:Nat):TG:=λv σ H Q=>Q (σ.set i (some v)) H
def Cr(hN:X.N.Nodup)(hi:X.N[i]? = some x)(hx:Loc X.env.scope x)(hf:X.fn x=true\/X.env.scope.names.lookup x=some .local:=by first|exact .inl rfl|exact .inr rfl|assumption):PG X (.Name x pos) (Nm i):=by
 intro a s σ H v u Q I r h;exact wpAny_assign_Name (Xe I hN hi hx r (λc b=>⟨_,H,b,h⟩) hf)
def qB:DB:=λvs σ H Q=>vs=[]/\Q σ H
def tJ(t:TG)(u:DB):DB:=λvs σ H Q=>∃v r,vs=v::r/\t v σ H λσ' H'=>u r σ' H' Q
def CB:JM X [] qB:=by
 intro a s σ H b c Q I r h;obtain⟨e,h⟩:=h;subst e;cases r;exact assignInOrder_nil ⟨σ,H,I,h⟩
def Oa(h1:PG X e t)(h2:JM X es u)
 (hs:(assignEach (e::es) X.env).map (·.2)=assign e X.env::(assignEach es X.env).map (·.2):=by rfl):JM X (e::es) (tJ t u):=by
 intro a s σ H k l Q I r h;obtain⟨v,m,b,h⟩:=h;subst b;cases r with
 |cons r c=>
  rw[hs];refine assignInOrder_cons (thn (h1 a s σ H _ _ _ I r h) λ_ d ⟨f,g,i,j⟩=>?_);exact h2 a d f g _ _ Q i c j
def qN(K:zzA)(n:Nat)(t:DB):TG:=λv σ H Q=>∃a xs,v = .ref a/\VQ K H a xs/\xs.length=n/\t xs σ H Q
def DD(hc:X.calm=true)(h:JM X es t)
 (hn:(assignEach es X.env).length=n:=by rfl) (hst:(assignEach es X.env).findIdx? (·.1)=none:=by rfl):PG X (.Tuple es k pos) (qN X.K n t):=by
 intro c s σ H v u Q I r d;obtain⟨a,g,i,j,l,d⟩:=d;subst i;cases r;obtain⟨m,f,p,y⟩:=I.tuple j;refine assign_Tuple_tuple (I.ok.hd hc) p (by simp[hn,<-l,f.length]) hst λq w=>?_;have x:Inv X c σ H {s with heap:=q}:=I.kept (t':=s.toks) λb o e=>w b o (zzQ (zxJ e)) e;exact h c _ σ H g _ Q x (by simpa using f) d
def qO(to ti:TE)(t:uT):TG:=λv σ H Q=>to σ H λo H1=>ti σ H1 λi H2=>t o i v H2 λH3=>Q σ H3
def Eg(ho:PE X o to)(hi:PE X i ti)(hs:uD X t)
 (ha:∀v,assign (.Subscript o i pos) X.env v=(do
  let ov <-holding [v] (eval o X.env);let iv <-holding [v,ov] (eval i X.env)
  standAt pos
  holding [v,ov,iv] (setItem ov iv v)
  release [v,ov,iv] []):=by intro _;rfl):PG X (.Subscript o i pos) (qO to ti t):=by
 intro a s σ H v u Q I r h;rw[ha];refine zxG (zxM (thn (ho a s σ H _ I h) λb c ⟨x,d,e,f,g⟩=>?_));refine zxG (zxM (thn (hi a c σ d _ e g) λj k ⟨y,l,m,n,p⟩=>?_));refine zxG (wpAny_standAt (zxG (zxM (thn (hs a k σ l x y v b j u _ m f n r p) λ_ A ⟨q,w,z⟩=>?_))));exact wpAny_release ⟨σ,q,w,z⟩
def DE(te:TE)(g:TG):TS:=λD σ H=>te σ H λx H1=>g x σ H1 D.nx
def K2(he:PE X e te)(hg:PG X tg g)(hs:swapsWithSole [tg] e pos.line X.env=pure false:=by rfl)(hw:swappedStores [tg] e X.env=pure none:=by rfl)
 (h1:(assignEach [tg] X.env).map (·.2)=[assign tg X.env]:=by rfl):PS X (.Assign [tg] e pos) (DE te g):=by
 intro a s σ H D I h;refine wpAny_Assign_stores (thn (he a s σ H _ I h) λv b ⟨x,c,d,f,i⟩=>?_) hs hw;rw[h1];exact thn (hg a b σ c x v _ d f i) λ_ j q=>q
def SA(hN:X.N.Nodup)(hi:X.N[i]? = some x)(hx:Loc X.env.scope x)(he:PE X e te)(hs:swapsWith e (some (.Name x pos')) pos.line X.env=pure false:=by rfl)(hf:X.fn x=true\/X.env.scope.names.lookup x=some .local:=by first|exact .inl rfl|exact .inr rfl|assumption):
 PS X (.Assign [.Name x pos'] e pos) (DE te (Nm i)):=by
 intro a s σ H D I h;refine wpAny_Assign_Name (thn (he a s σ H _ I h) λv j ⟨y,b,c,d,f⟩=>?_) hs;exact Xe c hN hi hx d (λk g=>⟨_,b,g,f⟩) hf
def rN(i j:Nat)(ta:TA):TS:=λD σ H=>ta σ H λvs H1=>∃v w,vs=[v,w]/\D.nx ((σ.set i (some v)).set j (some w)) H1
def DT(hc:X.calm=true)(hN:X.N.Nodup)(hi:X.N[i]? = some x)(hj:X.N[j]? = some y)(hij:i≠j)
 (hx:X.env.scope.names.lookup x=some .local) (hy:X.env.scope.names.lookup y=some .local) (ha:PA X [a,b] ta)
 (hw:swappedStores [.Tuple [.Name x px,.Name y py] kt pt] (.Tuple [a,b] k2 pt2) X.env=pure (some [x,y]))
 (hs:swapsWithSole [.Tuple [.Name x px,.Name y py] kt pt] (.Tuple [a,b] k2 pt2) pos.line X.env=pure false:=by rfl):
 PS X (.Assign [.Tuple [.Name x px,.Name y py] kt pt] (.Tuple [a,b] k2 pt2) pos) (rN i j ta):=by
 intro pins s σ H D I h;rw[exec_Assign_arm];refine zxG (wpAny_standAt ?_);rw[hs];refine zxG (zxH ?_);rw[if_neg (by decide)];refine zxG (Tuple_ (thn (ha _ pins s σ H _ I h) λus s1 ⟨vs,H1,I1,r1,q1⟩=>?_));obtain⟨v,w,e1,q1⟩:=q1;subst e1;obtain⟨u1,u2,rfl,rv,rw'⟩:∃u1 u2,us=[u1,u2]/\RelV v u1/\RelV w u2:=by
  cases r1 with
  |cons p q=>
   cases q with
   |cons p' q'=>
    cases q';exact⟨_,_,rfl,p,p'⟩
 refine zxL ?_ (by show 2<=sizeLine;decide);have I2:Inv X pins σ H1 {s1 with heap:=s1.heap.push {cls:=.type "tuple",data:=.seq [u1,u2].toArray}}:=I1.kept (t':=s1.toks) λb o e=>zxI _ e;rw[hw];refine zxG (zxH ?_);show wpAny (model X.prog X.w) X.A (do rule "assign.swapped-stores";let items <-unpackItems (.ref s1.heap.objs.size) 2 none;assignInOrder [λv=>bindName X.env y v,λv=>bindName X.env x v] items.reverse;pure Flow.next) _ _ _;refine zxG (wpAny_rule (zxG (unpackItems_tuple (items:=#[u1,u2]) (I.ok.hd hc) (IsTup.new s1.heap _) λh' hx'=>?_)));have I3:=I2.kept (h':=h') (t':=s1.toks) λb o e=>hx' b o (zzQ (zxJ e)) e;show wpAny _ _ (assignInOrder [λv=>bindName X.env y v,λv=>bindName X.env x v] [u2,u1] >>= λ_=>pure Flow.next) _ _ _;refine zxG (assignInOrder_cons (wpAny_bindName (Xe I3 hN hj (.inl hy) rw' (λs2 I4=>?_) (.inr hy))));refine assignInOrder_cons (wpAny_bindName (Xe I4 hN hi (.inl hx) rv (λs3 I5=>assignInOrder_nil (zxH ?_)) (.inr hx)));rw[List.set_comm _ _ (Ne.symm hij)]at I5;exact⟨_,H1,I5,q1⟩
def qS(i:Nat)(te:TE)(ti:qb):TS:=λD σ H=>∃x,σ[i]? = some (some x)/\te σ H λy H1=>ti x y H1 λz H2=>D.nx (σ.set i (some z)) H2
def D5(hN:X.N.Nodup)(hi:X.N[i]? = some x)(hx:Loc X.env.scope x)(he:PE X e te)(ho:q8 X op ti)(hf:X.fn x=true\/X.env.scope.names.lookup x=some .local:=by first|exact .inl rfl|exact .inr rfl|assumption):
 PS X (.AugAssign (.Name x pos') op e pos) (qS i te ti):=by
 intro a s σ H D I h;obtain⟨v,j,h⟩:=h;obtain⟨m,n,o⟩:=I.loc;have f:uX X.env.scope x:=by rcases hx with k|k;exact .inl k;exact .inr (.inl k)
 obtain⟨u,r,l⟩:=o i x v hi j f;refine wpAny_AugAssign_Name ?_;have g:wpAny (model X.prog X.w) X.A (eval e X.env) (λw p=>wpAny (model X.prog X.w) X.A (inplaceOp op u w) (λr q=>wpAny (model X.prog X.w) X.A (storeName X.env x r) (λ_=>SP X a D .next) X.xe q) X.xe p) X.xe s:=by
  refine thn (he a s σ H _ I h) λw t ⟨y,B,C,E,F⟩=>?_;refine thn (ho a t σ B v y u w _ C r E F) λz Q ⟨R,G,J,K,L⟩=>?_;exact Xe J hN hi hx K (λS M=>⟨_,G,M,L⟩) hf
 rcases l with⟨b,O⟩|⟨b,c,P,d⟩
 . exact wpAny_loadName_local I.ok.kind b n O g
 . rcases b with b|b
   . exact wpAny_loadName_cell I.ok.kind b P d g
   . rcases hx with k|k
     . have:X.env.scope.names.lookup x=some .free:=b;rw[k]at this;cases this
     . have:X.env.scope.names.lookup x=some .free:=b;rw[k]at this;cases this
def pZ(f:Int->Int->Int):qb:=λx y H Q=>∃i j,x = .int i/\y = .int j/\Q (.int (f i j)) H
def Dc:q8 X .Add (pZ λi j=>i+j):=by
 intro a s σ H x y v u Q I b c h;obtain⟨i,j,d,e,q⟩:=h;subst d;subst e;obtain⟨t,rfl⟩:=b;obtain⟨f,rfl⟩:=c;exact iadd_int ⟨.int _,H,I.tok _,⟨_,rfl⟩,q⟩
end
section
variable{X:Cx}{pos:Pos}
def Ap(c:TT)(tb:TS):TS:=λD σ H=>∃W:Nat->St->Hp->Prop,(∃m,W m σ H)/\∀m σ H,W m σ H->
 c σ H λb H1=>if b=true then ∃N:St->Hp->Prop,(∀σ' H',N σ' H'->∃m',m'<m/\W m' σ' H')/\tb {D with nx:=N,ct:=N,bk:=D.nx} σ H1 else D.nx σ H1
def Hn(hp:PassesOwn (model X.prog X.w) X.A X.env X.xe)(hc:PT X c tc)(hb:Mo X body tb):PS X (.While c body [] pos) (Ap tc tb):=by
 intro pins s σ H D I h;obtain⟨W,⟨m0,w0⟩,turn⟩:=h;refine wpAny_While (codeAny_whileLoop (λn s'=>∃σ' H',Inv X pins σ' H' s'/\W n σ' H') ?_ m0 ⟨σ,H,I,w0⟩)
 rintro n s1 ⟨σ1,H1,I1,w1⟩
 refine wpAny_passesOwn hp (thn (hc pins s1 σ1 H1 _ I1 (turn n σ1 H1 w1)) λb s2 ⟨H2,I2,q2⟩=>?_);cases b with
 |true=>
  obtain⟨N,hN,q2⟩:=q2;rw[if_pos rfl];refine wpAny_passesOwn hp (thn (hb pins s2 σ1 H2 _ I2 q2) λf s3 q3=>?_);cases f with
  |next=>
   obtain⟨σ3,H3,I3,n3⟩:=q3;obtain⟨m',hm,w3⟩:=hN σ3 H3 n3;exact⟨m',hm,σ3,H3,I3,w3⟩
  |cont=>
   obtain⟨σ3,H3,I3,n3⟩:=q3;obtain⟨m',hm,w3⟩:=hN σ3 H3 n3;exact⟨m',hm,σ3,H3,I3,w3⟩
  |brk=>exact q3
  |ret v=>exact q3
 |false=>
  rw[if_neg zyW];exact wpAny_execs_nil ⟨σ1,H2,I2,q2⟩
end
structure It where
 go:Nat->Hp->Prop
 yld:Nat->Hp->V->Hp->Prop
 stop:Nat->Hp->Prop
def UL(X:Cx)(pins:List (Addr×Obj))(H:Hp)(b:Addr):Prop:=
 H b=none/\b≠X.env.locals/\b ∉ X.fs/\(b ∈ X.ex\/X.s₀.heap.objs.size<=b)/\(∀x c,X.env.cells.lookup x=some c->c≠b)/\∀p ∈ X.pn++pins,p.1≠b
def Inv.fpOk(I:Inv X pins σ H s)(hb:s.heap.objs.size<=b)(hn:H' b=none):UL X pins H' b:=by
 refine⟨hn,Nat.ne_of_gt (zzK I.lt hb),I.nofs hb,.inr (zzO I.sz hb),λx c e z=>?_,λp a z=>?_⟩
 . obtain⟨v,q⟩:=I.cell x c e;exact absurd (zzK q.lt (by rw[z];exact hb)) (Nat.lt_irrefl _)
 . exact absurd (zzK (zxJ (I.pin p a).1) (by rw[z];exact hb)) (Nat.lt_irrefl _)
structure Turn(P:Program)(w:World)(K:zzA)(tg:Expr)(J:It)(fp:List Addr)(it:Addr)(tn:Nat->Heap->Prop):Prop where
 mem:it ∈ fp
 obj:∀i h,tn i h->∀b ∈ fp,∃o,h.get? b=some o/\∀v,o.data ≠ .cell v
 keep:∀i h h',tn i h->(∀b ∈ fp,∀o,h.get? b=some o->h'.get? b=some o)->tn i h'
 item:∀(X:Cx),X.prog=P->X.w=w->X.K=K->X.calm=true->∀(i:Nat) (pins:List (Addr×Obj)) (s:Shared) (σ:St) (H:Hp) (E:Value->Shared->Prop),Inv X pins σ H s->(∀b ∈ fp,UL X pins H b)->tn i s.heap->J.go i H->
  wpAny (model P w) X.A (pyNext (.ref it)) (λr s1=>∃u,r=some u/\
   wpAny (model P w) X.A (letOwnedTupleGo tg (.ref it) u) (λ_ s2=>∃x H',Inv X pins σ H' s2/\RelV x u/\J.yld i H x H'/\tn (i+1) s2.heap/\∀b ∈ fp,H' b=none) E s1) E s
 done:∀(X:Cx),X.prog=P->X.w=w->X.K=K->X.calm=true->∀(i:Nat) (pins:List (Addr×Obj)) (s:Shared) (σ:St) (H:Hp) (E:Value->Shared->Prop),Inv X pins σ H s->(∀b ∈ fp,UL X pins H b)->tn i s.heap->J.stop i H->
  wpAny (model P w) X.A (pyNext (.ref it)) (λr s1=>r=none/\Inv X pins σ H s1) E s
 self:∀(A:Around) (i:Nat) (s:Shared) (Q:Value->Shared->Prop) (E:Value->Shared->Prop),tn i s.heap->Q (.ref it) s->wpAny (model P w) A (pyIter (.ref it)) Q E s
abbrev TI:=St->Hp->(It->Hp->Prop)->Prop
def pj(X:Cx)(pins:List (Addr×Obj))(σ:St)(tg:Expr)(R:It->Hp->Prop)(itv:Value)(s2:Shared):Prop:=
 ∃(it:Addr) (fp:List Addr) (tn:Nat->Heap->Prop) (J:It) (H':Hp),itv = .ref it/\Inv X pins σ H' s2/\Turn X.prog X.w X.K tg J fp it tn/\tn 0 s2.heap/\(∀b ∈ fp,UL X pins H' b)/\R J H'
def PI(X:Cx)(tg iter:Expr)(wi:TI):Prop:=
 ∀(pins:List (Addr×Obj)) (s:Shared) (σ:St) (H:Hp) (R:It->Hp->Prop),Inv X pins σ H s->wi σ H R->
  wpAny (model X.prog X.w) X.A (eval iter X.env) (λv s1=>wpAny (model X.prog X.w) X.A (pyIter v) (pj X pins σ tg R) X.xe s1) X.xe s
def HP(ho:s.heap.get? it=some o)(hc:o.cls = .type n)(hd:o.data = .fields vs)
 (hn : ["enumerate","zip","dict_itemiterator","dict_reverseitemiterator","odict_iterator","itertools.zip_longest","itertools.pairwise"].contains n=false) (hQ:Q () s):wpAny M A (letOwnedTupleGo tg (.ref it) u) Q E s:=by
 unfold letOwnedTupleGo;cases tg<;>first
  |exact zxH hQ
  |(cases u<;>first
   |exact zxH hQ
   | (refine zxG (wpAny_load ho ?_)
      rw[hc,hd];show wpAny M A (if(["enumerate","zip","dict_itemiterator","dict_reverseitemiterator","odict_iterator","itertools.zip_longest","itertools.pairwise"].contains n&&vs[0]? == some (rawInt _))=true then _ else _) Q E s;rw[if_neg (by intro h;rw[hn,Bool.false_and]at h;cases h)];exact zxH hQ))
def rg(K:zzA)(a:Addr):It:=
 ⟨λi H=>∃xs x,Z5 K H a xs/\xs[i]? = some x,λi H x H'=>H'=H/\∀xs,Z5 K H a xs->xs[i]? = some x,λi H=>∃xs,Z5 K H a xs/\xs.length<=i⟩
def s_(K:zzA)(a:Addr):It:=
 ⟨λi H=>∃xs x,VQ K H a xs/\xs[i]? = some x,λi H x H'=>H'=H/\∀xs,VQ K H a xs->xs[i]? = some x,λi H=>∃xs,VQ K H a xs/\xs.length<=i⟩
def tZ(lo:Int)(n:Nat):It:=⟨λi _=>i<n,λi H x H'=>H'=H/\x = .int (lo+i),λi _=>n<=i⟩
def Bp{P:Program}{w:World}{K:zzA}{tg:Expr}(a it:Addr):Turn P w K tg (rg K a) [it] it (λi h=>h.IsListIter it a i)where
 mem:=by simp
 obj:=λi h f b j=>by
  have e:b=it:=by simpa using j
  subst e;obtain⟨o,e,c,d⟩:=f;exact⟨o,e,λv z=>by rw[d]at z;cases z⟩
 keep:=λi h m f k=>f.at λo e=>k it (by simp) o e
 item:=by
  intro X r t y N i g s σ H E I n f A;subst r t y;obtain⟨O,x,q,B⟩:=A;obtain⟨C,D,p,Q⟩:=I.list q;obtain⟨u,R,S⟩:=D.get B;obtain⟨F,G,T,J,L,M⟩:=n it (by simp);refine wpAny_pyNext_list_item f p.isList (x:=u) (by simpa using R) λm l U=>?_;have V:Inv X g σ H {s with heap:=m}:=I.turned (t':=s.toks) (λb o j e=>(U.2 b j).trans e) F G J L M;obtain⟨o,e,c,d⟩:=id l;exact⟨u,rfl,HP (s:={s with heap:=m}) e c d (by decide) ⟨x,H,V,S,⟨rfl,λys Y=>by rw[I.list_inj Y q];exact B⟩,l,λb j=>(n b j).1⟩⟩
 done:=by
  intro X r t y N i g s σ H E I n f A;subst r t y;obtain⟨O,q,B⟩:=A;obtain⟨C,D,p,Q⟩:=I.list q;obtain⟨F,G,T,J,L,M⟩:=n it (by simp);have hl:=D.length;exact wpAny_pyNext_list_end (I.ok.hd N) f p.isList (by simp;omega) λm Z=>⟨rfl,I.turned (t':=s.toks) (λb o j e=>Z b o j e) F G J L M⟩
 self:=λ_ _ _ _ _ f h=>wpAny_pyIter_listiter f h
def Ec{P:Program}{w:World}{K:zzA}{tg:Expr}(a it:Addr):Turn P w K tg (s_ K a) [it] it (λi h=>h.IsTupleIter it a i)where
 mem:=by simp
 obj:=λi h f b j=>by
  have e:b=it:=by simpa using j
  subst e;obtain⟨o,e,c,d⟩:=f;exact⟨o,e,λv z=>by rw[d]at z;cases z⟩
 keep:=λi h n f k=>f.at λo e=>k it (by simp) o e
 item:=by
  intro X t y A N i g s σ H E I q f B;subst t y A;obtain⟨O,x,r,C⟩:=B;obtain⟨l,D,p,Q⟩:=I.tuple r;obtain⟨u,R,S⟩:=D.get C;obtain⟨F,G,T,J,L,M⟩:=q it (by simp);refine wpAny_pyNext_tuple_item f (show s.heap.IsTuple a l.toArray from p) (x:=u) (by simpa using R) λn m U=>?_;have V:Inv X g σ H {s with heap:=n}:=I.turned (t':=s.toks) (λb o j e=>(U.2 b j).trans e) F G J L M;obtain⟨o,e,c,d⟩:=id m;exact⟨u,rfl,HP (s:={s with heap:=n}) e c d (by decide) ⟨x,H,V,S,⟨rfl,λys Y=>by rw[I.tuple_inj Y r];exact C⟩,m,λb j=>(q b j).1⟩⟩
 done:=by
  intro X t y A N i g s σ H E I q f B;subst t y A;obtain⟨O,r,C⟩:=B;obtain⟨l,D,p,Q⟩:=I.tuple r;obtain⟨F,G,T,J,L,M⟩:=q it (by simp);have hl:=D.length;exact wpAny_pyNext_tuple_end (I.ok.hd N) f (show s.heap.IsTuple a l.toArray from p) (by simp;omega) λn Z=>⟨rfl,I.turned (t':=s.toks) (λb o j e=>Z b o j e) F G J L M⟩
 self:=λ_ _ _ _ _ f h=>wpAny_pyIter_tupleiter f h
def MV{P:Program}{w:World}{K:zzA}{tg:Expr}(it:Addr)(lo:Int)(n:Nat):Turn P w K tg (tZ lo n) [it] it (λi h=>IsRangeIter h it (lo+(i:Nat)*1) ((n:Int)-(i:Nat)) 1)where
 mem:=by simp
 obj:=λi h a b d=>by
  have e:b=it:=by simpa using d
  subst e;exact⟨_,a,λv z=>by
   have D:Data.fields _=Data.cell v:=z;cases D⟩
 keep:=λi h g a k=>k it (by simp) _ a
 item:=by
  intro X l m p q i c s σ H E I j a r;subst l m p;obtain⟨u,x,F,y,A,B⟩:=j it (by simp);have W:=Walks.range (prog:=X.prog) (w:=X.w) (I.ok.hd q) it lo 1 n;refine W.item i s _ _ r a λv g C G f J=>?_;obtain⟨t,rfl⟩:=G;have L:Inv X c σ H {s with heap:=g,toks:=C}:=I.turned (λb o d e=>J b o (by simpa using d) e) u x y A B;refine⟨_,rfl,HP (s:={s with heap:=g,toks:=C}) (n:="range_iterator") f rfl rfl (by decide) ⟨.int (lo+i),H,L,⟨t, ?_⟩,⟨rfl,rfl⟩,f,λb d=>(j b d).1⟩⟩;rw[Int.mul_one]
 done:=by
  intro X l m p q i c s σ H E I j a r;subst l m p;obtain⟨u,x,F,y,A,B⟩:=j it (by simp);exact wpAny_pyNext_range_end (I.ok.hd q) a (by have:n<=i:=r;omega) λg M=>⟨rfl,I.turned (t':=s.toks) (λb o d e=>M b o d e) u x y A B⟩
 self:=λ_ _ _ _ _ a h=>wpAny_pyIter_rangeiter a h
end L2
namespace L2
open PySem PySem.Spec PyProof.Rows
section
variable{X:Cx}{tg:Expr}
def uC(K:zzA)(tl:TE):TI:=λσ H R=>tl σ H λx H1=>∃a,x = .ref a/\(∃xs,Z5 K H1 a xs)/\R (rg K a) H1
def rE(K:zzA)(tl:TE):TI:=λσ H R=>tl σ H λx H1=>∃a,x = .ref a/\(∃xs,VQ K H1 a xs)/\R (s_ K a) H1
def KP{l:Expr}{tl:TE}(hl:PE X l tl):PI X tg l (uC X.K tl):=by
 intro c s σ H R I h;refine thn (hl c s σ H _ I h) λv d ⟨x,g,f,i,j⟩=>?_;obtain⟨a,e,⟨r,k⟩,q⟩:=j;subst e;cases i;obtain⟨m,t,p,u⟩:=f.list k;refine wpAny_pyIter_list p.isList ?_;refine⟨d.heap.objs.size,[d.heap.objs.size],_,_,g,rfl,f.kept (t':=d.toks) λb o e=>zxI _ e,Bp a _,⟨_,zxK _ rfl,rfl,rfl⟩,λb n=>?_,q⟩;have e:b=d.heap.objs.size:=by simpa using n
 subst e;exact f.fpOk (zzN _) (f.hok.fresh (zzN _))
def M8{l:Expr}{tl:TE}(hl:PE X l tl):PI X tg l (rE X.K tl):=by
 intro c s σ H R I h;refine thn (hl c s σ H _ I h) λv d ⟨x,i,f,j,k⟩=>?_;obtain⟨a,e,⟨r,m⟩,q⟩:=k;subst e;cases j;obtain⟨g,t,p,u⟩:=f.tuple m;refine wpAny_pyIter_tuple (show d.heap.IsTuple a g.toArray from p) ?_;refine⟨d.heap.objs.size,[d.heap.objs.size],_,_,i,rfl,f.kept (t':=d.toks) λb o e=>zxI _ e,Ec a _,⟨_,zxK _ rfl,rfl,rfl⟩,λb n=>?_,q⟩;have e:b=d.heap.objs.size:=by simpa using n
 subst e;exact f.fpOk (zzN _) (f.hok.fresh (zzN _))
def S3{pins:List (Addr×Obj)}{σ:St}{H:Hp}{s:Shared}{R:It->Hp->Prop}{E:Value->Shared->Prop}{lo hi:Int}{t u v:Tok}{tk:Nat}(I:Inv X pins σ H s)(h1 : -(2 ^ 62)<=lo)(h2:lo<2 ^ 62)(h3 : -(2 ^ 62)<=hi)(h4:hi<2 ^ 62)
 (q:R (tZ lo (hi-lo).toNat) H):wpAny (model X.prog X.w) X.A (pyIter (.ref s.heap.objs.size)) (pj X pins σ tg R) E {s with heap:=s.heap.push {cls:=.type "range",data:=.fields #[.int lo t,.int hi u,.int 1 v]},toks:=tk}:=by
 refine wpAny_pyIter_range (IsRange.new ..) (small_one h1 h2 h3 h4) ?_;have a:Inv X pins σ H {s with heap:=s.heap.push {cls:=.type "range",data:=.fields #[.int lo t,.int hi u,.int 1 v]},toks:=tk}:=I.kept λb o e=>zxI _ e;refine⟨(s.heap.push {cls:=.type "range",data:=.fields #[.int lo t,.int hi u,.int 1 v]}).objs.size,[(s.heap.push {cls:=.type "range",data:=.fields #[.int lo t,.int hi u,.int 1 v]}).objs.size],_,_,H,rfl,
  a.kept (t':=tk) λb o e=>zxI _ e,MV _ lo (hi-lo).toNat, ?_,λb c=>?_,q⟩
 . have d:lo+((0:Nat):Int)*1=lo:=by simp
   have f:(((hi-lo).toNat:Nat):Int)-((0:Nat):Int)=Builtin.Range.rangeSize lo hi 1:=by rw[rangeSize_one];split<;>omega
   show IsRangeIter _ _ (lo+((0:Nat):Int)*1) ((((hi-lo).toNat:Nat):Int)-((0:Nat):Int)) 1;rw[d,f];exact zxK _ rfl
 . have e:b=(s.heap.push {cls:=.type "range",data:=.fields #[.int lo t,.int hi u,.int 1 v]}).objs.size:=by simpa using c
   subst e;exact a.fpOk (zzN _) (a.hok.fresh (zzN _))
def t9(ta:TA):TI:=λσ H R=>ta σ H λvs H1=>∃j:Int,vs=[.int j] /\ -(2 ^ 62)<=j/\j<2 ^ 62/\R (tZ 0 j.toNat) H1
def Gr{a:Expr}{ta:TA}{p pos:Pos}(hg:Gl X "range")(hm:X.mg "range"=none)(ha:PA X [a] ta)(hs:starEach [a] X.env=[(false,eval a X.env)]:=by rfl):PI X tg (.Call (.Name "range" p) [a] [] pos) (t9 ta):=by
 intro b s σ H R I h;refine Call_ (vQ I hg hm boot_range (PyProof.Rows.callWith_type1 (thn (ha pos b s σ H _ I h) λk l ⟨m,n,d,f,c⟩=>?_) hs rfl));obtain⟨j,e,c,g,q⟩:=c;subst e;cases f with
 |cons r i=>
  cases i;obtain⟨t,rfl⟩:=r;exact call_range_1 (S3 d (by omega) (by omega) c g (by simpa using q))
def qc(wi:TI)(g:TG)(tb:TS):TS:=λD σ H=>wi σ H λJ H1=>∃W:Nat->Nat->St->Hp->Prop,(∃m,W 0 m σ H1)/\∀i m σ H,W i m σ H->
 (J.stop i H/\D.nx σ H)\/(J.go i H/\∃N:St->Hp->Prop,(∀σ' H',N σ' H'->∃m',m'<m/\W (i+1) m' σ' H')/\∀x H',J.yld i H x H'->g x σ H' λσ2 H2=>tb {D with nx:=N,ct:=N,bk:=D.nx} σ2 H2)
def Ri(fp:List Addr)(h:Heap):List (Addr×Obj):=fp.filterMap λb=>(h.get? b).map λo=>(b,o)
def ZU(hb:b ∈ fp)(e:h.get? b=some o):(b,o) ∈ Ri fp h:=List.mem_filterMap.mpr ⟨b,hb,by rw[e];rfl⟩
def Bb(hp:p ∈ Ri fp h):p.1 ∈ fp/\h.get? p.1=some p.2:=by
 obtain⟨b,a,e⟩:=List.mem_filterMap.mp hp;cases q:h.get? b with
 |none=>rw[q]at e;cases e
 |some o=>
  rw[q]at e;have c:(b,o)=p:=zzZ e;subst c;exact⟨a,q⟩
def Inv.pinned(I:Inv X pins σ H s)(hf:∀b ∈ fp,UL X pins H b)(ho:∀b ∈ fp,∃o,s.heap.get? b=some o/\∀v,o.data ≠ .cell v):Inv X (pins++Ri fp s.heap) σ H s:=
 I.pins_of λp f=>(zzM.mp f).elim (λz=>I.pin p (zzL _ z)) λz=>by
  obtain⟨a,e⟩:=Bb z;obtain⟨g,h,i,_⟩:=hf p.1 a;obtain⟨o,c,d⟩:=ho p.1 a;rw[e]at c;cases c;exact⟨e,g,h,i,d⟩
def Inv.unpinned(I:Inv X (pins++pl) σ H s):Inv X pins σ H s:=I.pins_of λp a=>I.pin p (zzL _ (zzP _ a))
def AQ(hp:PassesOwn (model X.prog X.w) X.A X.env X.xe)(hc:X.calm=true)(hi:PI X tg iter wi)(hg:PG X tg g)(hb:Mo X body tb)
 (hs:∀x,foldedSetIterable iter X.env x=pure x:=by intro _;rfl):PS X (.For tg iter body [] pos) (qc wi g tb):=by
 intro pins s σ H D I h;refine wpAny_For (thn (hi pins s σ H _ I h) λv s1 h1=>thn h1 λitv s2 h2=>?_) hs;obtain⟨it,fp,tn,J,H2,e,I2,T,st2,f2,W,⟨m0,w0⟩,turn⟩:=h2;subst e;have stat:∀{H':Hp},(∀b ∈ fp,H' b=none)->∀b ∈ fp,UL X pins H' b:=λhn b hb=>⟨hn b hb,(f2 b hb).2⟩;refine codeAny_forLoop_any (λn s'=>∃i σ' H',Inv X pins σ' H' s'/\tn i s'.heap/\(∀b ∈ fp,H' b=none)/\W i n σ' H') ?_ m0 ⟨0,σ,H2,I2,st2,λb hb=>(f2 b hb).1,w0⟩
 rintro n s3 ⟨i,σ3,H3,I3,st3,fr3,w3⟩
 rcases turn i n σ3 H3 w3 with⟨stop,qn⟩|⟨go,N,hN,step⟩
 . refine wpAny_passesOwn hp (thn (T.done X rfl rfl rfl hc i pins s3 σ3 H3 X.xe I3 (stat fr3) st3 stop) λr s4 ⟨hr,I4⟩=>?_);subst hr;exact wpAny_execs_nil ⟨σ3,H3,I4,qn⟩
 . refine wpAny_passesOwn hp (thn (T.item X rfl rfl rfl hc i pins s3 σ3 H3 X.xe I3 (stat fr3) st3 go) λr s4 ⟨u,hr,h4⟩=>?_);subst hr;refine wpAny_passesOwn hp (thn h4 λ_ s5 ⟨x,H5,I5,r5,y5,st5,fr5⟩=>?_);have I5':=I5.pinned (stat fr5) (T.obj _ _ st5);refine wpAny_passesOwn hp (thn (hg _ s5 σ3 H5 x u _ I5' r5 (step x H5 y5)) λ_ s6 ⟨σ6,H6,I6,q6⟩=>?_);refine wpAny_passesOwn hp (thn (hb _ s6 σ6 H6 _ I6 q6) λf s7 q7=>?_);have again:∀{σ7:St}{H7:Hp},Inv X (pins++Ri fp s5.heap) σ7 H7 s7->N σ7 H7->∃m,m<n/\∃i σ' H',Inv X pins σ' H' s7/\tn i s7.heap/\(∀b ∈ fp,H' b=none)/\W i m σ' H':=λ{σ7 H7} I7 n7=>by
    obtain⟨m',hm,w7⟩:=hN σ7 H7 n7;refine⟨m',hm,i+1,σ7,H7,I7.unpinned,T.keep _ _ _ st5 λb hb o e=>(I7.pin (b,o) (zzL _ (zzL _ (ZU hb e)))).1,λb hb=>?_,w7⟩;obtain⟨o,e,d⟩:=T.obj _ _ st5 b hb;exact(I7.pin (b,o) (zzL _ (zzL _ (ZU hb e)))).2.1
   cases f with
   |next=>obtain⟨σ7,H7,I7,n7⟩:=q7;exact again I7 n7
   |cont=>obtain⟨σ7,H7,I7,n7⟩:=q7;exact again I7 n7
   |brk=>obtain⟨σ7,H7,I7,q7⟩:=q7;exact⟨σ7,H7,I7.unpinned,q7⟩
   |ret v=>obtain⟨x7,σ7,H7,I7,r7,q7⟩:=q7;exact⟨x7,σ7,H7,I7.unpinned,r7,q7⟩
end
end L2
namespace L2
open PySem PySem.Spec PyProof.Rows
abbrev R2:=V->V->Hp->VK->Prop
def QF(X:Cx)(f:Value->Value->Sem Value)(r:R2):Prop:=
 ∀(pins:List (Addr×Obj)) (s:Shared) (σ:St) (H:Hp) (x y:V) (v u:Value) (Q:VK),Inv X pins σ H s->RelV x v->RelV y u->r x y H Q->
  wpAny (model X.prog X.w) X.A (f v u) (EP X pins σ Q) X.xe s
def Y1(X:Cx)(f:Value)(r:List V->Hp->VK->Prop):Prop:=
 ∀(pins:List (Addr×Obj)) (s:Shared) (σ:St) (H:Hp) (xs:List V) (us:List Value) (Q:VK),Inv X pins σ H s->z_ xs us->r xs H Q->
  wpAny (model X.prog X.w) X.A (call f us) (EP X pins σ Q) X.xe s
def rB(X:Cx)(r:V->Hp->(Bool->Hp->Prop)->Prop):Prop:=
 ∀(pins:List (Addr×Obj)) (s:Shared) (σ:St) (H:Hp) (x:V) (v:Value) (Q:Bool->Hp->Prop),Inv X pins σ H s->RelV x v->r x H Q->
  wpAny (model X.prog X.w) X.A (truthy v) (TP X pins σ Q) X.xe s
def tu(r:R2)(ta tb:TE):TE:=λσ H Q=>ta σ H λx H1=>tb σ H1 λy H2=>r x y H2 Q
def rI(C:Int->Int->Prop)(g:Int->Int->V):R2:=λx y H Q=>∃i j,x = .int i/\y = .int j/\C i j/\Q (g i j) H
def Jm(g:Int->Int->V):R2:=λx y H Q=>∃i j,x = .int i/\y = .int j/\Q (g i j) H
section
variable{X:Cx}{a b c:Expr}{ta tb tc:TE}{pos:Pos}
def AJ(ha:PE X a ta)(hb:PE X b tb){pins:List (Addr×Obj)}{s:Shared}{σ:St}{H:Hp}{R:V->V->Hp->Prop}(I:Inv X pins σ H s)
 (h:ta σ H λx H1=>tb σ H1 λy H2=>R x y H2) {Q:Value->Shared->Prop}{f:Value->Value->Sem Value}
 (hf:∀v u s2 x y H2,Inv X pins σ H2 s2->RelV x v->RelV y u->R x y H2->wpAny (model X.prog X.w) X.A (f v u) Q X.xe s2):
 wpAny (model X.prog X.w) X.A (eval a X.env) (λv s₁=>wpAny (model X.prog X.w) X.A (eval b X.env) (λu s₂=>wpAny (model X.prog X.w) X.A (f v u) Q X.xe s₂) X.xe s₁) X.xe s:=by
 refine thn (ha pins s σ H _ I h) λv c ⟨x,d,e,g,i⟩=>?_;refine thn (hb pins c σ d _ e i) λu j ⟨y,k,l,m,n⟩=>?_;exact hf v u j x y k l g m n
def Ji{op:Operator}{r:R2}(ho:QF X (binaryOp op) r)(ha:PE X a ta)(hb:PE X b tb):PE X (.BinOp a op b pos) (tu r ta tb):=by
 intro c s σ H Q I h;exact wpAny_BinOp (AJ ha hb I h λv u d x y e f g i q=>ho c d σ e x y v u Q f g i q)
def pe{f:Value->Value->Sem Value}{C:Int->Int->Prop}{g:Int->Int->Int}
 (rule:∀(i j:Int) (t u:Tok) (s:Shared) (Q:Value->Shared->Prop) (E:Value->Shared->Prop),C i j->Q (.int (g i j) s.toks) {s with toks:=s.toks+1}->wpAny (model X.prog X.w) X.A (f (.int i t) (.int j u)) Q E s):
 QF X f (rI C λi j=>.int (g i j)):=by
 intro a s σ H x y v u Q I b c h;obtain⟨i,j,rfl,rfl,d,q⟩:=h;obtain⟨t,rfl⟩:=b;obtain⟨e,rfl⟩:=c;exact rule i j t e s _ _ d ⟨.int (g i j),H,I.tok _,⟨_,rfl⟩,q⟩
def uB{f:Value->Value->Sem Value}{g:Int->Int->Int}
 (rule:∀(i j:Int) (t u:Tok) (s:Shared) (Q:Value->Shared->Prop) (E:Value->Shared->Prop),Q (.int (g i j) s.toks) {s with toks:=s.toks+1}->wpAny (model X.prog X.w) X.A (f (.int i t) (.int j u)) Q E s):
 QF X f (Jm λi j=>.int (g i j)):=by
 intro a s σ H x y v u Q I b c h;obtain⟨i,j,rfl,rfl,q⟩:=h;obtain⟨t,rfl⟩:=b;obtain⟨d,rfl⟩:=c;exact rule i j t d s _ _ ⟨.int (g i j),H,I.tok _,⟨_,rfl⟩,q⟩
def Cq{f:Value->Value->Sem Value}{g:Int->Int->Bool}
 (rule:∀(i j:Int) (t u:Tok) (s:Shared) (Q:Value->Shared->Prop) (E:Value->Shared->Prop),Q (.bool (g i j)) s->wpAny (model X.prog X.w) X.A (f (.int i t) (.int j u)) Q E s):
 QF X f (Jm λi j=>.bl (g i j)):=by
 intro a s σ H x y v u Q I b c h;obtain⟨i,j,rfl,rfl,q⟩:=h;obtain⟨t,rfl⟩:=b;obtain⟨d,rfl⟩:=c;exact rule i j t d s _ _ ⟨.bl (g i j),H,I,rfl,q⟩
def ri(i j:Int):Prop:=0<j/\j<1073741824
def rF(i j:Int):Prop:=0<=j/\j<=1000000/\i.natAbs<2 ^ 64
def AB:QF X (binaryOp .Add) (Jm λi j=>.int (i+j)):=uB λ_ _ _ _ _ _ _ q=>add_int q
def JV:QF X (binaryOp .Sub) (Jm λi j=>.int (i-j)):=uB λ_ _ _ _ _ _ _ q=>sub_int q
def S_:QF X (binaryOp .Mod) (rI (λ_ j=>0<j) λi j=>.int (i%j)):=pe λi j _ _ _ _ _ a q=>by
 have b:(0:Int)<j:=a;exact mod_int' (by omega) (by rw[Int.fmod_eq_emod_of_nonneg i (by omega)];exact q)
def DJ:QF X (binaryOp .Pow) (rI rF λi j=>.int (i ^ j.toNat)):=pe λ_ _ _ _ _ _ _ a q=>pow_int_small a.1 a.2.1 a.2.2 q
end
section
variable{X:Cx}{a b c:Expr}{ta tb tc:TE}{pos:Pos}
def y_(I:Inv X pins σ H s)(q:Q (.bl k) H)(e:k=k'):EP X pins σ Q (.bool k') s:=by
 subst e;exact⟨.bl k,H,I,rfl,q⟩
def uy:QF X (compareOp .Lt) (Jm λi j=>.bl (decide (i<j))):=Cq λ_ _ _ _ _ _ _ q=>lt_int q
def uW:QF X (compareOp .LtE) (Jm λi j=>.bl (decide (i<=j))):=Cq λ_ _ _ _ _ _ _ q=>le_int q
def u4:QF X (compareOp .Gt) (Jm λi j=>.bl (decide (j<i))):=Cq λ_ _ _ _ _ _ _ q=>gt_int q
def tO:QF X (compareOp .GtE) (Jm λi j=>.bl (decide (j<=i))):=Cq λ_ _ _ _ _ _ _ q=>ge_int q
def FR:QF X (compareOp .In) (λx y H Q=>∃i j,x = .str i/\y = .str j/\Q (.bl (!(Builtin.Str.occurrences j i 0 j.length 1).isEmpty)) H):=by
 intro a s σ H x y v u Q I b c h;obtain⟨i,j,rfl,rfl,q⟩:=h;obtain⟨t,rfl⟩:=b;obtain⟨d,rfl⟩:=c;exact in_str (y_ I q rfl)
def Ag:QF X (compareOp .Is) (λx y H Q=>y = .non/\Q (.bl (decide (x = .non))) H):=by
 intro a s σ H x y v u Q I b c h;obtain⟨rfl,q⟩:=h;cases c;refine is_none_gen (y_ I q ?_);cases x<;>first
  |(cases b;rfl)
  |(obtain⟨t,rfl⟩:=b;rfl)
def CL:QF X (compareOp .IsNot) (λx y H Q=>y = .non/\Q (.bl (!decide (x = .non))) H):=by
 intro a s σ H x y v u Q I b c h;obtain⟨rfl,q⟩:=h;cases c;refine isnot_none_gen (y_ I q ?_);cases x<;>first
  |(cases b;rfl)
  |(obtain⟨t,rfl⟩:=b;rfl)
def Le:QF X (compareOp .NotIn) (λx y H Q=>∃i j,x = .str i/\y = .str j/\Q (.bl (!(!(Builtin.Str.occurrences j i 0 j.length 1).isEmpty))) H):=by
 intro a s σ H x y v u Q I b c h;obtain⟨i,j,rfl,rfl,q⟩:=h;obtain⟨t,rfl⟩:=b;obtain⟨d,rfl⟩:=c;exact notIn_str (y_ I q rfl)
def Hg(b:Expr)(h:op ≠ .In:=by decide)(h2:op ≠ .NotIn:=by decide):behindInMarks op b=false:=by
 have a:(op==CmpOp.In)=false:=by cases op<;>first|rfl|exact absurd rfl h
 have c:(op==CmpOp.NotIn)=false:=by cases op<;>first|rfl|exact absurd rfl h2
 cases b<;>simp[behindInMarks,a,c]
def CV{op:CmpOp}{r:R2}(ho:QF X (compareOp op) r)(ha:PE X a ta)(hb:PE X b tb)(hm:behindInMarks op b=false):PE X (.Compare a [op] [b] pos) (tu r ta tb):=by
 intro c s σ H Q I h;exact wpAny_Compare1 (AJ ha hb I h λv u d x y e f g i q=>ho c d σ e x y v u Q f g i q) hm
def sC(t:TE):TT:=λσ H Q=>t σ H λx H'=>∃k,x = .bl k/\Q k H'
def CA(ho:QF X (compareOp op) r)(ha:PE X a ta)(hb:PE X b tb)(hm:behindInMarks op b=false):PT X (.Compare a [op] [b] pos) (sC (tu r ta tb)):=by
 intro d s σ H Q I h;refine wpAny_isTrue_Compare1 (thn (ha d s σ H _ I h) λv f ⟨x,g,i,j,l⟩=>thn (hb d f σ g _ i l) λu m ⟨y,n,o,p,q⟩=>
  thn (ho d m σ n x y v u _ o j p q) λc C ⟨z,t,w,A,k,e,B⟩=>?_) hm
 subst e;cases A;exact wpAny_truthy_bool ⟨t,w,B⟩
def AM(r r':R2)(ta tb tc:TE):TE:=λσ H Q=>ta σ H λx H1=>tb σ H1 λy H2=>r x y H2 λz H3=>∃k,z = .bl k/\
 (if k=true then tc σ H3 λw' H4=>r' y w' H4 Q else Q (.bl false) H3)
def ON(ho:QF X (compareOp op) r)(ho':QF X (compareOp op') r')(ha:PE X a ta)(hb:PE X b tb)(hc:PE X c tc)
 (hm:lastMarks [op,op'] [b,c]=false:=by with_unfolding_all rfl):PE X (.Compare a [op,op'] [b,c] pos) (AM r r' ta tb tc):=by
 intro f s σ H Q I h;refine Compare_chain (thn (ha f s σ H _ I h) λv m ⟨x,n,o,p,q⟩=>chain_link (thn (hb f m σ n _ o q) λu t ⟨y,w,A,g,B⟩=>
  thn (ho f t σ w x y v u _ A p g B) λd C ⟨z,i,j,D,k,e,l⟩=>?_)) hm
 subst e;cases D;refine wpAny_truthy_bool ?_;cases k with
 |false=>exact ite_ff ⟨.bl false,i,j,rfl,l⟩
 |true=>exact ite_tt (chain_last (thn (hc f C σ i _ j l) λE F ⟨G,J,K,L,M⟩=>ho' f F σ J y G u E Q K g L M))
def uu(K:zzA)(x:V)(H:Hp)(k:Bool):Prop:=
 match x with
 | .non=>k=false
 | .bl b=>k=b
 | .int i=>k=(i != 0)
 | .str y=>y.length<=sizeLine/\k=((y.length:Int) != 0)
 | .byt y=>y.size<=sizeLine/\k=((y.size:Int) != 0)
 | .ref p=>(∃xs,Z5 K H p xs/\k = !xs.isEmpty)\/(∃xs,VQ K H p xs/\k = !xs.isEmpty)\/∃kvs,H p=some (.dK kvs)/\k = !kvs.isEmpty
 |_=>False
def Ew(r:KV kvs vs):(!vs.isEmpty) = !kvs.isEmpty:=by
 cases r<;>rfl
def Tp(r:z_ xs its):(!its.toArray.isEmpty) = !xs.isEmpty:=by
 cases r<;>simp
def WM:(sizeLine:Nat)<2 ^ 63:=by rw[sizeLine_eq];decide
def A5:rB X (λx H Q=>∃k,uu X.K x H k/\Q k H):=by
 intro pins s σ H x v Q I rx h;obtain⟨k,e,q⟩:=h;have hl:=WM;have hs:sizeLine=16777216:=sizeLine_eq;cases x with
 |non=>
  cases rx;have e':k=false:=e;subst e';exact truthy_none ⟨H,I,q⟩
 |bl b=>
  cases rx;have e':k=b:=e;subst e';exact wpAny_truthy_bool ⟨H,I,q⟩
 |int i=>
  obtain⟨t,rfl⟩:=rx;have e':k=(i != 0):=e;subst e';exact PySem.P.truthy_int ⟨H,I,q⟩
 |str y=>
  obtain⟨t,rfl⟩:=rx;obtain⟨hy,e'⟩:y.length<=sizeLine/\k=((y.length:Int) != 0):=e;subst e';exact PySem.P.truthy_str (by omega) ⟨H,I.tok _,q⟩
 |byt y=>
  obtain⟨t,rfl⟩:=rx;obtain⟨hy,e'⟩:y.size<=sizeLine/\k=((y.size:Int) != 0):=e;subst e';exact PySem.W.truthy_bytes (by omega) ⟨H,I.tok _,q⟩
 |ref p=>
  cases rx;have e':(∃xs,Z5 X.K H p xs/\k = !xs.isEmpty)\/(∃xs,VQ X.K H p xs/\k = !xs.isEmpty)\/∃kvs,H p=some (.dK kvs)/\k = !kvs.isEmpty:=e
  rcases e' with⟨xs,hx,e'⟩|⟨xs,hx,e'⟩|⟨kvs,hx,e'⟩
  . subst e';obtain⟨its,r,pl,hz⟩:=I.list hx;have hlen:=r.length;exact wpAny_truthy_list pl.isList (by simp only[zzH];omega) ⟨H,I.tok _,by rw[Tp r];exact q⟩
  . subst e';obtain⟨its,r,pl,hz⟩:=I.tuple hx;have hlen:=r.length;exact truthy_tuple pl (by simp only[zzH];omega) ⟨H,I.tok _,by rw[Tp r];exact q⟩
  . subst e';obtain⟨hz,hS,vs,r,m⟩:kvs.length<=sizeLine/\(p==sysModules)=false/\∃vs,KV kvs vs/\s.heap.DictOf (yN X.prog X.w) p vs:=I.hok p _ hx;have hlen:kvs.length=vs.length:=Paired.length r;exact wpAny_truthy_dict hS m (by omega) ⟨H,I.tok _,by rw[Ew r];exact q⟩
 |_=>exact(show False from e).elim
def Su(ha:PE X a ta)(he:∀whole,isTrue a X.env whole=(do let v <-whole;standAt a.pos;holding [v] (truthy v))):
 PT X a (λσ H Q=>ta σ H λx H'=>∃k,uu X.K x H' k/\Q k H'):=by
 intro b s σ H Q I h;exact isTrue_plain (thn (ha b s σ H _ I h) λv c ⟨x,d,e,f,g⟩=>A5 b c σ d x v Q e f g) (he _)
def M0:QF X (binaryOp .Add) (λx y H Q=>∃i j,x = .str i/\y = .str j/\i.length+j.length<=sizeLine/\Q (.str (i++j)) H):=by
 intro a s σ H x y v u Q I b c h;obtain⟨i,j,rfl,rfl,d,q⟩:=h;obtain⟨t,rfl⟩:=b;obtain⟨e,rfl⟩:=c;exact add_str (λe f=>⟨.str (i++j),H,I.tok _,⟨_,rfl⟩,q⟩) d
def vals1(r:z_ [x] us):∃u,us=[u]/\RelV x u:=by
 cases r with
 |cons a b=>cases b;exact⟨_,rfl,a⟩
def vals2(r:z_ [x,y] us):∃u w',us=[u,w']/\RelV x u/\RelV y w':=by
 cases r with
 |cons a b=>
  cases b with
  |cons c d=>cases d;exact⟨_,_,rfl,a,c⟩
def Ba(hc:X.calm=true):Y1 X (.builtin "max") (λxs H Q=>∃i j,xs=[.int i,.int j]/\Q (.int (if j > i then j else i)) H):=by
 intro b s σ H c d Q I r h;obtain⟨i,j,rfl,q⟩:=h;obtain⟨u,e,rfl,⟨t,rfl⟩,⟨f,rfl⟩⟩:=vals2 r;refine max_two_ints (I.ok.hd hc) λg l k=>⟨_,H,I.kept k, ?_,q⟩
 by_cases a:j > i
 . rw[if_pos a,if_pos a];exact⟨_,rfl⟩
 . rw[if_neg a,if_neg a];exact⟨_,rfl⟩
def GE:Y1 X (.type "int") (λxs H Q=>(∃i,xs=[.int i]/\Q (.int i) H)\/∃k,xs=[.bl k]/\Q (.int (if k then 1 else 0)) H):=by
 intro a s σ H c d Q I r h
 rcases h with⟨i,rfl,q⟩|⟨k,rfl,q⟩
 . obtain⟨u,rfl,t,rfl⟩:=vals1 r;exact call_int_int ⟨.int i,H,I,⟨_,rfl⟩,q⟩
 . obtain⟨u,rfl,b⟩:=vals1 r;cases b;exact call_int_bool ⟨.int (if k then 1 else 0),H,I.tok _,⟨_,rfl⟩,q⟩
def NT:Y1 X (.builtin "divmod") (λxs H Q=>∃i j,xs=[.int i,.int j]/\ri i j/\∀p,H p=none->Q (.ref p) (upd H p (.tup [.int (i/j),.int (i%j)]))):=by
 intro a s σ H d f Q I r h;obtain⟨i,j,rfl,⟨g,k⟩,q⟩:=h;obtain⟨u,l,rfl,⟨t,rfl⟩,⟨m,rfl⟩⟩:=vals2 r;refine divmod_int (by omega) ?_ (.inl (PyProof.noPylong_small (by omega)));rw[Int.fdiv_eq_ediv_of_nonneg i (by omega),Int.fmod_eq_emod_of_nonneg i (by omega)];have c:H s.heap.objs.size=none:=I.hok.fresh (zzN _);refine⟨.ref s.heap.objs.size,_, ?_,rfl,q _ c⟩;refine I.laid (λb o e=>zxI _ e) (zzN _) ⟨by simp only[zzT,List.length_nil];rw[sizeLine_eq];decide,[.int (i/j) s.toks,.int (i%j) (s.toks+1)],.cons ⟨_,rfl⟩ (.cons ⟨_,rfl⟩ .nil), ?_⟩;exact⟨_,zxK s.heap rfl,rfl,0,rfl⟩
end
end L2
namespace L2
open PySem PySem.Spec PyProof.Rows
structure ObjM(h:Heap)(x dx C:Addr)(mA:Str->Option Value):Prop where
 obj:h.get? x=some (PySem.W.instObj C dx)
 ns:h.Ns1 dx mA
 ne:dx≠x
def Th.some_of(r:Th (some v) o):∃u,o=some u/\RelV v u:=by
 cases o with
 |none=>exact(show False from r).elim
 |some u=>exact⟨u,rfl,r⟩
structure Cls(K:zzA)(C:Addr):Prop where
 pg:PySem.W.plainGet K C Str.empty=true
 hd:PySem.W.hasDictIn K C=true
 po:PySem.W.plainOver K C=true
 sa:PySem.W.findIn K (.ref C) "__setattr__"=some (some (.builtin "object.__setattr__"))
structure Con(K:zzA)(C:Addr)(f:Str)(v:V)(u:Value):Prop where
 at_:PySem.W.findIn K (.ref C) f=some (some u)
 rel:RelV v u
 get:PySem.W.specialIn K u "__get__"=some none
 cp:PySem.W.copiedNames.contains f=false
structure Meth(K:zzA)(C:Addr)(m:Str)(f:Addr):Prop where
 at_:PySem.W.findIn K (.ref C) m=some (some (.ref f))
 fn:PySem.W.isFn K (.ref f)=true
 kp:PySem.W.keepIn K (.ref f)=true
section
variable{X:Cx}{pins:List (Addr×Obj)}{σ:St}{H:Hp}{s:Shared}{A:Around}{E:Value->Shared->Prop}{Q:Value->Shared->Prop}{c:Value}{b:Bool}
inductive TyOf(K:zzA)(H:Hp):V->Value->Prop where
 |non:TyOf K H .non (.type "NoneType")
 |bl (x:Bool):TyOf K H (.bl x) (.type "bool")
 |int (i:Int):TyOf K H (.int i) (.type "int")
 |str (x:Str):TyOf K H (.str x) (.type "str")
 |flt (x:UInt64):TyOf K H (.flt x) (.type "float")
 |lst {a:Addr}{xs:List V}(e:H a=some (.lst xs)):TyOf K H (.ref a) (.type "list")
 |frz {a:Addr}{o:Obj}{xs:List V}(e:H a=some (.frz o (.lst xs))):TyOf K H (.ref a) (.type "list")
 |tup {a:Addr}{xs:List V}(e:H a=some (.tup xs)):TyOf K H (.ref a) (.type "tuple")
 |dK {a:Addr}{kvs:List (Key×V)}(e:H a=some (.dK kvs)):TyOf K H (.ref a) (.type "dict")
 |dT {a:Addr}{kvs:List (List Key×V)}(e:H a=some (.dT kvs)):TyOf K H (.ref a) (.type "dict")
 |ins {a C dx:Addr}{fs:List (Str×V)}(e:H a=some (.ins C dx fs)) (cl:Cls K C) (ha:PySem.W.findIn K (.ref C) "__class__"=some (some (.builtin "object.__class__")))
  (hn:PySem.W.specialIn K (.builtin "object.__class__") "__get__"=some (some (.builtin "getset_descriptor.__get__"))) (htk:PySem.W.takesIn K (.builtin "object.__class__")=some true)
  (hm:PySem.W.mroIn K C (.type "object")=some true):TyOf K H (.ref a) (.ref C)
end
end L2
namespace L2
open PySem PySem.Spec PyProof.Rows
structure Room(k:Nat)(A:Around):Prop where
 hd:A.handled=none
 dp:A.depth+3*k+5<recursionLimit
 un:A.units+16*k+200<cLine
 gd:A.guards=some []
def Room.mono(r:Room k A)(h:j<=k):Room j A:=⟨r.hd,by have:=r.dp;omega,by have:=r.un;omega,r.gd⟩
theorem Room.deeper(r:Room (k+1) A)(env:Env):Room k (A.deeper env):=
 ⟨r.hd,by have:=r.dp;show A.depth+1+3*k+5<_;omega,by have:=r.un;show A.units+3+16*k+200<_;omega,r.gd⟩
theorem Room.depth(r:Room k A):A.depth<recursionLimit:=by have:=r.dp;omega
theorem Room.units(r:Room k A):A.units+64<cLine:=by have:=r.un;omega
def u9:TA:=λ_ H Q=>Q [] H
def JN(ta:TE)(tr:TA):TA:=λσ H Q=>ta σ H λx H1=>tr σ H1 λxs H2=>Q (x::xs) H2
section
variable{X:Cx}{e:Expr}{es:List Expr}{te:TE}{t:TA}{pos:Pos}
def Qu:PA X [] u9:=λ_ _ _ _ H Q I h=>Calls.spliced_nil ⟨[],H,I,.nil,h⟩
def Z3(ha:PE X e te)(hr:PA X es t)(hs:starEach (e::es) X.env=(false,eval e X.env)::starEach es X.env:=by rfl):PA X (e::es) (JN te t):=by
 intro b a s σ H Q I h;rw[hs];show wpAny _ _ (spliced ((false,eval e X.env)::backTo b (starEach es X.env))) _ _ s;refine Calls.spliced_cons (thn (ha a s σ H _ I h) λu c ⟨x,d,f,g,i⟩=>?_);exact thn (hr b a c σ d _ f i) λo p ⟨j,k,l,m,n⟩=>⟨x::j,k,l,.cons g m,n⟩
def rJ(t:TA):TE:=λσ H Q=>t σ H λxs H1=>xs.length<=sizeLine/\∀p,H1 p=none->Q (.ref p) (upd H1 p (.tup xs))
def qe(t:TA):TE:=λσ H Q=>t σ H λxs H1=>xs.length<=sizeLine/\∀p,H1 p=none->Q (.ref p) (upd H1 p (.lst xs))
def DU(h:PA X es t):PE X (.Tuple es x1 pos) (rJ t):=by
 intro a s σ H Q I g;refine wpAny_Tuple_spliced (thn (h pos a s σ H _ I g) λi c ⟨j,d,f,r,z,q⟩=>⟨by rw[<-r.length];exact z, ?_⟩);have k:d c.heap.objs.size=none:=f.hok.fresh (zzN _);refine⟨.ref c.heap.objs.size,upd d c.heap.objs.size (.tup j),f.laid (t':=c.toks) (λb u e=>zxI _ e) (zzN _) ?_,rfl,q _ k⟩;exact⟨z,i,r,⟨_,zxK _ rfl,rfl,_,rfl⟩⟩
def ue(h:PA X es t):PE X (.List es pos) (qe t):=by
 intro a s σ H Q I g;refine wpAny_List_spliced (thn (h pos a s σ H _ I g) λi c ⟨j,d,f,r,z,q⟩=>⟨by rw[<-r.length];exact z, ?_⟩);have k:d c.heap.objs.size=none:=f.hok.fresh (zzN _);refine⟨.ref c.heap.objs.size,upd d c.heap.objs.size (.lst j),f.laid (t':=c.toks) (λb u e=>zxI _ e) (zzN _) ?_,rfl,q _ k⟩;exact⟨z,i,0,r,zxK _ rfl⟩
end
abbrev Sp:=List V->Hp->VK->XK->Prop
abbrev B2:=List Env->Hp->Shared->XK->Value->Shared->Prop
structure Env0(P:Program)(w:World)(K:zzA)(mg:Str->Option Value)(base:Heap)(A:Around)(outer:List Env)(s:Shared)(H:Hp):Prop where
 frames:A.frames=some outer
 mod:Mod K mg base
 bs:∀b o,base.get? b=some o->s.heap.get? b=some o/\H b=none
 bsz:base.objs.size<=s.heap.objs.size
 funs:s.heap.FunFrames base outer
 frf:∀b ∈ B3 outer,H b=none
 hok:VF P w H s.heap
 bare:AllBare s.gens
def CE(outer:List Env)(P:Program)(w:World)(H:Hp)(s:Shared)(Q:VK)(u:Value)(s':Shared):Prop:=
 ∃v H',s'.os=s.os/\AllBare s'.gens/\Un (B3 outer) [] H H' s.heap s'.heap/\VF P w H' s'.heap/\RelV v u/\Q v H'
def CR(CX:B2)(outer:List Env)(P:Program)(w:World)(H:Hp)(s:Shared)(Q:VK)(E:XK)(r:Result)(s':Shared):Prop:=
 match r with
 | .ok (.ret u)=>CE outer P w H s Q u s'
 | .ok _=>False
 | .error e=>CX outer H s E e s'
structure FnOk(P:Program)(w:World)(K:zzA)(mg:Str->Option Value)(base:Heap)(CX:B2)(k:Nat)(f:Addr)(fd:FuncData)(ps:List Str)(sp:Sp):Prop where
 len:∀vs H Q E,sp vs H Q E->vs.length=ps.length
 run:∀(A:Around) (outer:List Env) (s:Shared) (H:Hp) (args:Args) (us:List Value) (vs:List V) (Q:VK) (E:XK),Room k A->Env0 P w K mg base A outer s H->BindsTo s fd args (ps.zip us)->z_ vs us->sp vs H Q E->
  codeAny (model P w) A (.call (.ref f) args) (CR CX outer P w H s Q E) s
def FnOk.imp{P:Program}{w:World}{K:zzA}{mg:Str->Option Value}{base:Heap}{CX:B2}{k:Nat}{f:Addr}{fd:FuncData}{ps:List Str}{sp sp':Sp}(F:FnOk P w K mg base CX k f fd ps sp)
 (h:∀vs H Q E,sp' vs H Q E->sp vs H Q E):FnOk P w K mg base CX k f fd ps sp':=
 ⟨λc H Q E q=>F.len c H Q E (h _ _ _ _ q),λA a s H b d c Q E e g i j l=>F.run A a s H b d c Q E e g i j (h _ _ _ _ l)⟩
section
variable{X:Cx}{pins:List (Addr×Obj)}{σ:St}{H:Hp}{s s':Shared}
def Inv.env0(I:Inv X pins σ H s):Env0 X.prog X.w X.K X.mg X.base X.A X.stack s H:=
 ⟨I.ok.frames,I.ok.mod,I.bs,zzO I.ok.bsz I.sz,I.stack,I.stkFree,I.hok,I.bare⟩
def Inv.after(I:Inv X pins σ H s)(h:CE X.stack X.prog X.w H s Q u s'):EP X pins σ Q u s':=by
 obtain⟨v,f,i,a,j,c,r,q⟩:=h;obtain⟨k,g,d,t,e⟩:=s';obtain rfl:e=s.os:=i;exact⟨v,f,I.call (h':=k) (g':=g) (d':=d) (t':=t) (ch:=[]) j c a (λb z=>absurd z (by simp)),r,q⟩
end
def JB(sp:Sp)(dvs:List V)(E:XK)(t:TA):TE:=λσ H Q=>t σ H λvs H1=>sp (vs++dvs) H1 Q E
def Binds(K:zzA)(fd:FuncData)(ps:List Str)(ds:List Value):Prop:=
 ∀(s:Shared) (us:List Value),K.In s.heap->(us++ds).length=ps.length->BindsTo s fd ⟨us,[]⟩ (ps.zip (us++ds))
def Binds.all{K:zzA}{fd:FuncData}{ps:List Str}(h:∀us:List Value,us.length=ps.length->bindArgs fd ⟨us,[]⟩=pure (ps.zip us)):Binds K fd ps []:=λs b _ a=>by
 rw[zyE]at a ⊢;exact .of_eq (h b a)
def Ls(CX:B2)(X:Cx)(E:XK):Prop:=∀(pins:List (Addr×Obj)) (σ:St) (H:Hp) (s:Shared) (e:Value) (s':Shared),Inv X pins σ H s->CX X.stack H s E e s'->X.xe e s'
section
variable{X:Cx}{CX:B2}{k:Nat}{f C:Addr}{fd:FuncData}{ps:List Str}{sp:Sp}{dvs:List V}{ds:List Value}{E:XK}{x m:Str}{p pos apos:Pos}{e o:Expr}{es:List Expr}{ta:TE}{t:TA}
def Ao(F:FnOk X.prog X.w X.K X.mg X.base CX k f fd ps sp)(hr:Room k X.A)(hb:Binds X.K fd ps ds)(hd:z_ dvs ds)(hx:Ls CX X E)
 (I:Inv X pins σ H s) (r:z_ vs us) (h:sp (vs++dvs) H Q E):wpAny (model X.prog X.w) X.A (call (.ref f) us) (EP X pins σ Q) X.xe s:=by
 have r2:z_ (vs++dvs) (us++ds):=r.append hd;have hl:(us++ds).length=ps.length:=by rw[<-r2.length];exact F.len _ _ _ _ h
 refine wpAny_call (codeAny_mono (F.run X.A X.stack s H ⟨us,[]⟩ (us++ds) (vs++dvs) Q E hr I.env0 (hb s us I.kIn hl) r2 h) λr s' hq=>?_);cases r with
 |error e=>exact hx pins σ H s e s' I hq
 |ok fl=>
  cases fl with
  |ret u=>exact I.after hq
  |next=>exact False.elim hq
  |brk=>exact False.elim hq
  |cont=>exact False.elim hq
def IK(F:FnOk X.prog X.w X.K X.mg X.base CX k f fd ps sp)(hr:Room k X.A)(hg:Gl X x)(hm:X.mg x=some (.ref f))(hk:PySem.W.keepIn X.K (.ref f)=true)(hb:Binds X.K fd ps ds)(hd:z_ dvs ds)(hx:Ls CX X E)
 (ha:PA X (e::es) t) (hdb:(x==("__debug__":Str))=false:=by decide) (he:starEach (e::es) X.env=(false,eval e X.env)::starEach es X.env:=by rfl) (hpl:(backTo pos (starEach es X.env)).any (·.1)=false:=by rfl):
 PE X (.Call (.Name x p) (e::es) [] pos) (JB sp dvs E t):=by
 intro a s σ H Q I h;refine wpAny_Call_Name_kw (OX I hg hm ?_ hdb);refine PySem.W.callWith_K (h₀:=X.base) I.ok.mod.kin hk (thn (ha pos a s σ H _ I h) λc d ⟨g,i,b,r,q⟩=>⟨b.kIn, ?_⟩) he hpl;exact Ao F hr hb hd hx b r q
structure Mk(K:zzA)(C f:Addr):Prop where
 makes:PySem.W.makesIn K C=true
 init:PySem.W.findIn K (.ref C) "__init__"=some (some (.ref f))
 fn:PySem.W.isFn K (.ref f)=true
 kp:PySem.W.keepIn K (.ref C)=true
end
section
variable{X:Cx}{CX:B2}{k:Nat}{f C:Addr}{fd:FuncData}{ps ks:List Str}{sp:Sp}{E:XK}{x m:Str}{p pos apos kpos:Pos}{e o:Expr}{es:List Expr}{kws:List Keyword}{te ta:TE}{t tk:TA}{nm:Option Str}
structure KBinds(K:zzA)(fd:FuncData)(ps ks:List Str)(g:List Value->List Value->List Value)(gV:List V->List V->List V):Prop where
 to:∀(s:Shared) (us ws:List Value),K.In s.heap->(g us ws).length=ps.length->BindsTo s fd ⟨us,ks.zip ws⟩ (ps.zip (g us ws))
 rel:∀{vs:List V}{us:List Value}{zs:List V}{ws:List Value},z_ vs us->z_ zs ws->z_ (gV vs zs) (g us ws)
variable{g:List Value->List Value->List Value}{gV:List V->List V->List V}
end
structure FnScope(N P:List Str)(sc:Scope):Prop where
 kind:sc.kind = .function
 co:sc.isCoroutine=false
 gen:sc.isGenerator=false
 nd:N.Nodup
 pre:N.take P.length=P
 par:∀x ∈ P,sc.names.lookup x=some .local\/sc.names.lookup x=some .cell
 nofree:∀y ∈ sc.names,y.2 ≠ .free
theorem GL{kindOf:Str->Option NameKind}{x:Str}:∀{binds:List (Str×Value)}{m:Str->Option Value},(∀v,(x,v) ∉ binds)->bindL kindOf binds m x=m x
 | [],_,_=>rfl
 |(n,v)::r,m,h=>by
  unfold bindL;rw[GL λw a=>h w (zzD _ a)]
  split
  . have:x≠n:=by rintro rfl;exact h v zzF
    simp[this]
  . rfl
theorem GO{kindOf:Str->Option NameKind}{x:Str}:∀{binds:List (Str×Value)}{m:Str->Option Value},(∀v,(x,v) ∉ binds)->bindC kindOf binds m x=m x
 | [],_,_=>rfl
 |(n,v)::r,m,h=>by
  unfold bindC;rw[GO λw a=>h w (zzD _ a)]
  split
  . rfl
  . have:x≠n:=by rintro rfl;exact h v zzF
    simp[this]
theorem G6{kindOf:Str->Option NameKind}{x:Str}{v:Value}:∀{P:List Str}{vs:List Value}{i:Nat}{m:Str->Option Value},P.Nodup->P[i]? = some x->vs[i]? = some v->kindOf x=some .local->
 bindL kindOf (P.zip vs) m x=some v
 | [],_,_,_,_,h,_,_=>by simp at h
 |_::_,[],_,_,_,_,h,_=>by simp at h
 |p::P,w::c,0,m,nd,a,b,d=>by
  simp at a b;subst a;subst b;show bindL kindOf ((p,w)::P.zip c) m p=_;unfold bindL;rw[GL λv e=>(zzW.mp nd).1 (List.of_mem_zip e).1,if_pos d];simp
 |p::P,w::c,i+1,m,nd,a,b,d=>by
  show bindL kindOf ((p,w)::P.zip c) m x=_;unfold bindL;exact G6 (i:=i) (zzW.mp nd).2 (by simpa using a) (by simpa using b) d
theorem G1{kindOf:Str->Option NameKind}{x:Str}{v:Value}:∀{P:List Str}{vs:List Value}{i:Nat}{m:Str->Option Value},P.Nodup->P[i]? = some x->vs[i]? = some v->kindOf x≠some .local->
 bindC kindOf (P.zip vs) m x=some v
 | [],_,_,_,_,h,_,_=>by simp at h
 |_::_,[],_,_,_,_,h,_=>by simp at h
 |p::P,w::c,0,m,nd,a,b,d=>by
  simp at a b;subst a;subst b;show bindC kindOf ((p,w)::P.zip c) m p=_;unfold bindC;rw[GO λv e=>(zzW.mp nd).1 (List.of_mem_zip e).1,if_neg d];simp
 |p::P,w::c,i+1,m,nd,a,b,d=>by
  show bindC kindOf ((p,w)::P.zip c) m x=_;unfold bindC;exact G1 (i:=i) (zzW.mp nd).2 (by simpa using a) (by simpa using b) d
noncomputable def start(N:List Str)(vs:List V):St:=vs.map some++List.replicate (N.length-vs.length) none
def NP(CX:B2)(P:Program)(w:World)(K:zzA)(mg:Str->Option Value)(base:Heap)(N:List Str)(qual:Str)(scope:Scope)(f:Addr)(cd:Value)(A:Around)(outer:List Env)(s:Shared)(H:Hp)(E:XK):Cx where
 prog:=P
 w:=w
 K:=K
 mg:=mg
 base:=base
 A:=A.deeper (envOfC qual scope s.heap.objs.size f cd)
 N:=N
 s₀:=s
 H₀:=H
 env:=envOfC qual scope s.heap.objs.size f cd
 outer:=outer
 stack:=envOfC qual scope s.heap.objs.size f cd::outer
 ex:=[]
 calm:=true
 fn:=λ_=>true
 pn:=[]
 xe:=λe s'=>wpAny (model P w) (A.deeper (envOfC qual scope s.heap.objs.size f cd)) (leaving (envOfC qual scope s.heap.objs.size f cd) e) (λ_ s''=>CX outer H s E e s'') (λe' s''=>CX outer H s E e' s'') s'
def N0{sc:Scope}{n:Nat}{x:Str}(h:sc.names.lookup x=some .cell):∃c,(cellsFrom n sc.names []).lookup x=some c:=by
 have q:=PySem.W.cellsFrom_some sc.names n [] (.inl h);exact Option.isSome_iff_exists.mp q
def BY{CX:B2}{P:Program}{w:World}{K:zzA}{mg:Str->Option Value}{base:Heap}{N ps:List Str}{qual:Str}{scope:Scope}{f:Addr}{cd:Value}{A:Around}{outer:List Env}{s s1:Shared}{H:Hp}{E:XK}{us:List Value}{vs:List V}
 (S:FnScope N ps scope) (hd:A.handled=none) (e0:Env0 P w K mg base A outer s H) (hl:vs.length=ps.length) (r:z_ vs us)
 (x:InCallC s s.heap.objs.size (bindL (envOfC qual scope s.heap.objs.size f cd).kindOf (ps.zip us) λ_=>none) (cellsFrom (s.heap.objs.size+1) scope.names []) (bindC (envOfC qual scope s.heap.objs.size f cd).kindOf (ps.zip us) λ_=>none) s1):
 Inv (NP CX P w K mg base N qual scope f cd A outer s H E) [] (start N vs) H s1:=by
 have D:ps.length<=N.length:=by have:=congrArg List.length S.pre;rw[zzS]at this;omega
 obtain⟨o,I,rfl,B⟩:=x.done;have g:∀b:Addr,b ∉ (NP CX P w K mg base N qual scope f cd A outer s H E).ex:=λb z=>absurd (show b ∈ ([]:List Addr)from z) (by simp);refine⟨⟨e0.mod,S.kind,rfl,rfl,zzN _,λy z c o d=>?_,λy j=>?_,λy c _ h=>?_,λ_=>hd,Around.frames_deeper e0.frames,.inr ⟨rfl,rfl⟩,λb z=>absurd z (g b),e0.bs,e0.bsz,λb _ _=>g b,λb z=>absurd z (g b),e0.funs,e0.frf⟩,
  rfl,e0.bare,Un.kept B,⟨_,x.toInCall.ns,λi y v o d J=>?_⟩,λy c h=>⟨_,x.cell y c h⟩,e0.hok.fresh (zzN _),λy c h=>?_,λp l=>absurd (show p ∈ ([]:List (Addr×Obj))from l) (by simp),e0.hok.kept B, ?_⟩
 . exact name_of_addr x.apart (PySem.mem_of_lookup o) (PySem.mem_of_lookup d)
 . have j:scope.names.lookup y=some .cell\/scope.names.lookup y=some .free:=j
   rcases j with j|j
   . exact N0 j
   . exact absurd rfl (S.nofree _ (PySem.mem_of_lookup j))
 . exact Nat.le_of_lt (x.above y c (PySem.mem_of_lookup h))
 . have t:i<vs.length:=by
    unfold start at d
    by_cases t:i<vs.length
    . exact t
    . rw[zyR (by simpa using t)]at d;rw[List.getElem?_replicate]at d
      split at d<;>cases d
   have F:vs[i]? = some v:=by
    unfold start at d;rw[zyP (by simpa using t),zzI]at d;cases e:vs[i]? with
    |none=>rw[e]at d;cases d
    |some a=>rw[e]at d;cases d;rfl
   obtain⟨u,C,G⟩:=r.get F;have l:ps[i]? = some y:=by
    rw[<-S.pre,List.getElem?_take_of_lt (by omega)];exact o
   have m:ps.Nodup:=by rw[<-S.pre];exact S.nd.sublist (List.take_sublist _ _)
   refine⟨u,G, ?_⟩
   rcases S.par y (zyA l)with k|k
   . exact .inl ⟨k,G6 m l C k⟩
   . obtain⟨c,e⟩:=N0 (n:=s.heap.objs.size+1) k;refine .inr ⟨.inl k,c,e, ?_⟩;have q:=x.cell y c e;rw[G1 m l C (by show scope.names.lookup y≠_;rw[k];decide)]at q;exact q
 . exact e0.hok.fresh (Nat.le_of_lt (x.above y c (PySem.mem_of_lookup h)))
 . unfold start;show _=N.length;rw[zzJ,zzB,List.length_replicate];omega
def uG{CX:B2}{P:Program}{w:World}{K:zzA}{mg:Str->Option Value}{base:Heap}{k:Nat}{f:Addr}{name qual:Str}{params:Arguments}{body:List Stmt}{scope:Scope}{dV kV doc pm cdv ct oc:Value}{an od:Option Addr}
 {osl:Array (Option Value)}{N ps:List Str}{sp:Sp}(lk:K.lookup f=some ⟨oc,od,.func (PySem.W.fnOf name qual params body scope dV kV doc pm an cdv ct),osl⟩) (hcd:PySem.W.codeIn K cdv qual=true) (S:FnScope N ps scope)
 (len:∀vs H Q E,sp vs H Q E->vs.length=ps.length)
 (hbody:∀(A:Around) (outer:List Env) (s:Shared) (H:Hp) (vs:List V) (Q:VK) (E:XK),Room k (A.deeper (envOfC qual scope s.heap.objs.size f cdv))->sp vs H Q E->
  ∃t,Mo (NP CX P w K mg base N qual scope f cdv A outer s H E) body t/\t {nx:=λ_ H'=>Q .non H',rt:=Q} (start N vs) H):
 FnOk P w K mg base CX (k+1) f (PySem.W.fnOf name qual params body scope dV kV doc pm an cdv ct) ps sp:=by
 refine⟨len,λA outer s H args us vs Q E hr e0 hb r hsp=>?_⟩;have hl:=len _ _ _ _ hsp;have KX:K.In s.heap:=e0.mod.kin.keeps λb o e=>(e0.bs b o e).1;have lim:s.heap.NoLimit:=e0.mod.nolimit.keeps λb o e=>(e0.bs b o e).1;have hkind:∀y ∈ ps.zip us,scope.names.lookup y.1=some .local\/(scope.names.lookup y.1=some .cell/\((cellsFrom (s.heap.objs.size+1) scope.names []).lookup y.1).isSome=true):=λ⟨n,v⟩ hy=>by
  rcases S.par n (List.of_mem_zip hy).1 with q|q
  . exact .inl q
  . exact .inr ⟨q,PySem.W.cellsFrom_some _ _ _ (.inl q)⟩
 refine codeAny_call_function hr.depth (KX _ _ lk) rfl S.co S.gen rfl (PySem.W.codeRec_of KX hcd) (hb _ _ _ _ ?_);refine wpAny_newFunctionEnv_cells S.kind hkind λenv he s1 x=>?_;subst he;refine⟨lim.keeps x.toInCall.keep,codeAny_func ?_⟩;obtain⟨t,ht,hq⟩:=hbody A outer s H vs Q E (hr.deeper _) hsp;have I:Inv (NP CX P w K mg base N qual scope f cdv A outer s H E) [] (start N vs) H s1:=BY S hr.hd e0 hl r x;refine zxP (ht [] s1 (start N vs) H _ I hq) (λfl s' hs=>?_) λe s' hs=>hs;have fin:∀{σ':St}{H':Hp}{v:V}{u:Value},Inv (NP CX P w K mg base N qual scope f cdv A outer s H E) [] σ' H' s'->RelV v u->Q v H'->CE outer P w H s Q u s':=
  λ{σ' H' v u} J rv q=>⟨v,H',J.os,J.bare,J.base,J.hok,rv,q⟩
 cases fl with
 |ret u=>
  obtain⟨v,σ',H',J,rv,q⟩:=hs;exact fin J rv q
 |next=>
  obtain⟨σ',H',J,q⟩:=hs;exact fin (v:=V.non) (u:=Value.none) J rfl q
 |brk=>
  obtain⟨_,_,_,q⟩:=hs;exact False.elim q
 |cont=>
  obtain⟨_,_,_,q⟩:=hs;exact False.elim q
end L2
namespace L2
open PySem PySem.Spec PyProof.Rows
section
variable{X:Cx}{x:Str}{p pos:Pos}{e:Expr}{es:List Expr}{t:TA}{id T:String}{r:List V->Hp->VK->Prop}
def ph(r:List V->Hp->VK->Prop)(t:TA):TE:=λσ H Q=>t σ H λvs H1=>r vs H1 Q
def RB(hc:Y1 X (.builtin id) r)(hg:Gl X x)(hm:X.mg x=none)(hv:bootBuiltins x=some (.builtin id))(ha:PA X (e::es) t)(hn:x≠"__name__":=by decide)(hdb:(x==("__debug__":Str))=false:=by decide)
 (he:starEach (e::es) X.env=(false,eval e X.env)::starEach es X.env:=by rfl) (hpl:(backTo pos (starEach es X.env)).any (·.1)=false:=by rfl):PE X (.Call (.Name x p) (e::es) [] pos) (ph r t):=by
 intro a s σ H Q I h;refine wpAny_Call_Name_kw (vQ I hg hm hv ?_ hn hdb);exact PyProof.Rows.callWith_builtin1 (thn (ha pos a s σ H _ I h) λb c ⟨d,f,g,i,j⟩=>hc a c σ f d b Q g i j) he hpl
def BU(hc:Y1 X (.type T) r)(hg:Gl X x)(hm:X.mg x=none)(hv:bootBuiltins x=some (.type T))(ha:PA X (e::es) t)(hn:x≠"__name__":=by decide)(hdb:(x==("__debug__":Str))=false:=by decide)
 (he:starEach (e::es) X.env=(false,eval e X.env)::starEach es X.env:=by rfl) (hpl:(backTo pos (starEach es X.env)).any (·.1)=false:=by rfl):PE X (.Call (.Name x p) (e::es) [] pos) (ph r t):=by
 intro a s σ H Q I h;refine wpAny_Call_Name_kw (vQ I hg hm hv ?_ hn hdb);exact PyProof.Rows.callWith_type1 (thn (ha pos a s σ H _ I h) λb c ⟨d,f,g,i,j⟩=>hc a c σ f d b Q g i j) he hpl
end
end L2
namespace L2
open PySem PySem.Spec PyProof.Rows
section
variable{κ:Type}[DecidableEq κ]
def wJ(kvs:List (κ×V))(k:κ):Option V:=(kvs.find? λkv=>decide (kv.1=k)).map (·.2)
def putK(kvs:List (κ×V))(k:κ)(v:V):List (κ×V):=
 if(kvs.any λkv=>decide (kv.1=k))=true then kvs.map (λkv=>if kv.1=k then(kv.1,v)else kv)else kvs++[(k,v)]
def Py{p:κ×V}{r:List (κ×V)}{k:κ}(e:p.1=k):wJ (p::r) k=some p.2:=by simp[wJ,List.find?_cons,e]
def Pv{p:κ×V}{r:List (κ×V)}{k:κ}(e:¬p.1=k):wJ (p::r) k=wJ r k:=by simp[wJ,List.find?_cons,e]
theorem Rk(k:κ):∀kvs:List (κ×V),(kvs.any λkv=>decide (kv.1=k))=(wJ kvs k).isSome
 | []=>rfl
 |p::r=>by
  rw[List.any_cons]
  by_cases e:p.1=k
  . simp only[Py e,zyO e,Bool.true_or,Option.isSome_some]
  . rw[Pv e,zyG e,Bool.false_or];exact Rk k r
def QK(kvs:List (κ×V))(k:κ)(v:V):(putK kvs k v).length<=kvs.length+1:=by
 unfold putK
 split
 . rw[zzB];omega
 . rw[zzJ,zzT,List.length_nil];omega
def Th.isSome_eq(r:Th o u):o.isSome=u.isSome:=by
 cases o with
 |none=>cases u with
  |none=>rfl
  |some _=>exact(show False from r).elim
 |some _=>cases u with
  |none=>exact(show False from r).elim
  |some _=>rfl
def KV.val{kvs:List (κ×V)}{vs:List (κ×Value)}(r:KV kvs vs)(k:κ):Th (wJ kvs k) (valueAt vs k):=by
 unfold KV at r
 induction r with
 |nil=>exact True.intro
 | @cons p q i a h t f=>
  obtain⟨d,g⟩:=h
  by_cases e:p.1=k
  . have c:q.1=k:=d.symm.trans e;have b:valueAt (q::a) k=some q.2:=by simp[valueAt,List.find?_cons,c]
    rw[Py e,b];exact g
  . have c:¬q.1=k:=λz=>e (d.trans z);have b:valueAt (q::a) k=valueAt a k:=by simp[valueAt,List.find?_cons,c]
    rw[Pv e,b];exact f
theorem KV.any(r:KV kvs vs)(k:κ):(kvs.any λkv=>decide (kv.1=k))=vs.any λkv=>decide (kv.1=k):=by
 unfold KV at r
 induction r with
 |nil=>rfl
 |cons h t a=>rw[List.any_cons,List.any_cons,a,h.1]
def KV.repl(r:KV kvs vs)(k:κ)(ry:RelV y u):
 KV (kvs.map λkv=>if kv.1=k then(kv.1,y)else kv) (vs.map λkv=>if kv.1=k then(kv.1,u)else kv):=by
 unfold KV at r ⊢
 induction r with
 |nil=>exact .nil
 | @cons p q d f h t b=>
  rw[zyS,zyS];refine .cons ?_ b;obtain⟨a,c⟩:=h
  by_cases e:p.1=k
  . rw[if_pos e,if_pos (a.symm.trans e)];exact⟨a,ry⟩
  . rw[if_neg e,if_neg (λz=>e (a.trans z))];exact⟨a,c⟩
def KV.put(r:KV kvs vs)(k:κ)(ry:RelV y u):KV (putK kvs k y) (stored vs k u):=by
 unfold putK stored;rw[r.any k]
 by_cases e:(vs.any λa=>decide (a.1=k))=true
 . rw[if_pos e,if_pos e];exact r.repl k ry
 . rw[if_neg e,if_neg e];exact Paired.snoc r ⟨rfl,ry⟩
theorem KV.length(r:KV kvs vs):kvs.length=vs.length:=Paired.length r
end
def Ve(r:RelV (kV k) u):(yN P w).is k u=true:=by
 cases k with
 |inl i=>obtain⟨t,e⟩:=(show ∃t,u=Value.int i t from r);subst e;exact LX P w i t
 |inr x=>obtain⟨t,e⟩:=(show ∃t,u=Value.str x t from r);subst e;exact YX P w x t
def sx(e:kO v=some k)(r:RelV v u):(yN P w).is k u=true:=by
 cases v with
 |int i=>cases e;exact Ve (k:=.inl i) r
 |str x=>cases e;exact Ve (k:=.inr x) r
 |bl b=>cases e;rw[show u=Value.bool b from r];exact H9 b
 |_=>cases e
theorem GP:∀{ks:List Key}{vs:List V}{us:List Value},vs.map kO=ks.map some->z_ vs us->ItemsAre (yN P w) ks us
 | [],[],_,_,r=>by cases r;exact .nil
 | [],_::_,_,e,_=>by simp at e
 |_::_,[],_,e,_=>by simp at e
 |k::a,v::b,_,e,r=>by
  rw[zyS,zyS]at e;injection e with e1 e2
  cases r with
  |cons h t=>exact .cons (sx e1 h) (GP e2 t)
abbrev KT(H:Hp):List (List Key×V)->List (List Key×Addr×Value)->Prop:=Paired λp q=>p.1=q.1/\KC H q.2.1 p.1/\RelV p.2 q.2.2
def KT.val{H:Hp}{kvs:List (List Key×V)}{xs:List (List Key×Addr×Value)}(r:KT H kvs xs)(k:List Key):Th (wJ kvs k) ((atKey xs k).map (·.2)):=by
 induction r with
 |nil=>exact True.intro
 | @cons p q i a h t f=>
  obtain⟨d,_,g⟩:=h
  by_cases e:p.1=k
  . have c:q.1=k:=d.symm.trans e;have b:atKey (q::a) k=some q.2:=by simp[atKey,List.find?_cons,c]
    rw[Py e,b];exact g
  . have c:¬q.1=k:=λz=>e (d.trans z);have b:atKey (q::a) k=atKey a k:=by simp[atKey,List.find?_cons,c]
    rw[Pv e,b];exact f
def KT.repl(r:KT H kvs xs)(k:List Key)(ry:RelV y u):
 KT H (kvs.map λkv=>if kv.1=k then(kv.1,y)else kv) (xs.map (putAt k u)):=by
 induction r with
 |nil=>exact .nil
 | @cons p q f g h t c=>
  rw[zyS,zyS];refine .cons ?_ c;obtain⟨a,b,d⟩:=h;unfold putAt
  by_cases e:p.1=k
  . rw[if_pos e,if_pos (a.symm.trans e)];exact⟨a,b,ry⟩
  . rw[if_neg e,if_neg (λz=>e (a.trans z))];exact⟨a,b,d⟩
def KT.put(r:KT H kvs xs)(k:List Key)(hb:KC H b k)(ry:RelV y u):
 KT H (putK kvs k y) (storedH xs k b u):=by
 have e:(kvs.any λa=>decide (a.1=k))=(atKey xs k).isSome:=by
  rw[Rk,(r.val k).isSome_eq,Option.isSome_map]
 unfold putK storedH;rw[e]
 by_cases q:(atKey xs k).isSome=true
 . rw[if_pos q,if_pos q];exact r.repl k ry
 . rw[if_neg q,if_neg q];exact Paired.snoc r ⟨rfl,hb,ry⟩
def KT.keeps(r:KT H kvs xs)(ht:∀b ys,H b=some (.tup ys)->H' b=some (.tup ys)):KT H' kvs xs:=
 Paired.mapP r λ_ _ z=>⟨z.1,z.2.1.mono λa=>ht _ a,z.2.2⟩
section
variable{P:Program}{w:World}{H:Hp}{h:Heap}{a:Addr}
def Jf(ok:VF P w H h)(e:Rd H a u):xi P w H h a u:=e.ok ok
def ND(ok:VF P w H h)(e:Rd H a (.dK kvs)):kvs.length<=sizeLine/\(a==sysModules)=false/\∃vs,KV kvs vs/\h.DictOf (yN P w) a vs:=
 show xi P w H h a (.dK kvs)from Jf ok e
def uV(ok:VF P w H h)(e:H a=some (.dK kvs)):kvs.length<=sizeLine/\(a==sysModules)=false/\∃vs,KV kvs vs/\h.DictOf (yN P w) a vs:=ND ok (.inl e)
def Wy(ok:VF P w H h)(e:KC H a ks):(tupleKind (yN P w)).is h ks a:=by
 obtain⟨c,e,d⟩:=e;obtain⟨_,b,r,o,f,g,n,i⟩:=(show xi P w H h a (.tup c)from ok a _ e);exact⟨o,b.toArray,n,f,g,i,by simpa using GP d r⟩
def NH(ok:VF P w H h)(e:Rd H a (.dT kvs)):kvs.length<=sizeLine/\(a==sysModules)=false/\
 ∃xs,KT H kvs xs/\h.DictOfH (tupleKind (yN P w)) a xs:=by
 obtain⟨z,y,f,r,o,g,i,j,k,n,s,u⟩:=(show xi P w H h a (.dT kvs)from Jf ok e);refine⟨z,y,f,r,o,g,i,j,k,n,s,λx b=>?_,u⟩;have c:∀{l:List (List Key×V)}{m:List (List Key×Addr×Value)},KT H l m->∀x ∈ m,(tupleKind (yN P w)).is h x.1 x.2.1:=by
  intro l m q
  induction q with
  |nil=>intro x b;exact nomatch b
  | @cons p q A B d t v=>
   intro x b
   rcases zzC.mp b with e|b
   . subst e;exact Wy ok (by rw[<-d.1];exact d.2.1)
   . exact v x b
 exact c r x b
def Fe(ok:VF P w H h)(e:H a=some (.dT kvs)):kvs.length<=sizeLine/\(a==sysModules)=false/\
 ∃xs,KT H kvs xs/\h.DictOfH (tupleKind (yN P w)) a xs:=NH ok (.inl e)
end
def LW(H:Hp)(a:Addr)(y:V)(r:Option V):Prop:=
 (∃kvs k,Rd H a (.dK kvs)/\y=kV k/\r=wJ kvs k)\/∃kvs k b,Rd H a (.dT kvs)/\y = .ref b/\KC H b k/\r=wJ kvs k
def sQ(H:Hp)(a:Addr)(y v:V)(H':Hp):Prop:=
 (∃kvs k,H a=some (.dK kvs)/\y=kV k/\kvs.length<sizeLine/\H'=upd H a (.dK (putK kvs k v))) \/
 ∃kvs k b,H a=some (.dT kvs)/\y = .ref b/\KC H b k/\kvs.length<sizeLine/\H'=upd H a (.dT (putK kvs k v))
def LW.t{H:Hp}{a b:Addr}{kvs:List (List Key×V)}{k:List Key}(e:H a=some (.dT kvs))(eb:KC H b k):LW H a (.ref b) (wJ kvs k):=.inr ⟨kvs,k,b,.inl e,rfl,eb,rfl⟩
section
variable{X:Cx}{pins:List (Addr×Obj)}{σ:St}{H:Hp}{s:Shared}{a:Addr}{y v:V}{u r:Value}{o:Option V}{A:Around}{E:Value->Shared->Prop}
def Inv.big(I:Inv X pins σ H s):sysModules<s.heap.objs.size:=by
 have h:mainGlobals<s.heap.objs.size:=(I.mod.glob.keeps I.bk).lt;exact Nat.lt_trans (by decide) h
def Bq(hu:A.units+1<cLine)(I:Inv X pins σ H s)(g:LW H a y (some v))(ry:RelV y u)(h:∀w' s',Inv X pins σ H s'->RelV v w'->Q w' s'):
 wpAny (model X.prog X.w) A (getItem (.ref a) u) Q E s:=by
 rcases g with⟨f,k,e,i,l⟩|⟨f,k,b,e,i,r,l⟩
 . subst i;obtain⟨z,t,x,c,j⟩:=ND I.hok e;obtain⟨m,n,d⟩:=Th.some_of (v:=v) (o:=valueAt x k) (by rw[l];exact c.val k);exact wpAny_getItem_of (Ve ry) j.mapOf n (h m _ (I.tok _) d)
 . subst i;cases(show u=Value.ref b from ry);obtain⟨z,t,B,c,j⟩:=NH I.hok e;obtain⟨m,n,d⟩:=Th.some_of (v:=v) (o:=(atKey B k).map (·.2)) (by rw[l];exact c.val k);obtain⟨p,C,q⟩:=zzX.mp n;refine wpAny_getItem_heap (tupleKind_room_in1 hu) (Wy I.hok r) j C ?_;rw[q];exact h m _ (I.tok _) d
def r6(hu:A.units+1<cLine)(I:Inv X pins σ H s)(g:LW H a y o)(ry:RelV y u)(h:∀s',Inv X pins σ H s'->Q (.bool o.isSome) s'):
 wpAny (model X.prog X.w) A (compareOp .In u (.ref a)) Q E s:=by
 rcases g with⟨d,k,e,f,l⟩|⟨d,k,b,e,f,m,l⟩
 . subst f;obtain⟨z,i,n,c,j⟩:=ND I.hok e;refine wpAny_in_of (Ve ry) i j.mapOf ?_;rw[<-(c.val k).isSome_eq,<-l];exact h _ (I.tok _)
 . subst f;cases(show u=Value.ref b from ry);obtain⟨z,i,p,c,j⟩:=NH I.hok e;refine wpAny_in_heap (tupleKind_room_in1 hu) (Wy I.hok m) i j ?_;have q:=(c.val k).isSome_eq;rw[Option.isSome_map]at q;rw[<-q,<-l];exact h _ (I.tok _)
def ID(hu:A.units+1<cLine)(I:Inv X pins σ H s)(g:LW H a y o)(ry:RelV y u)(h:∀s',Inv X pins σ H s'->Q (.bool (!o.isSome)) s'):
 wpAny (model X.prog X.w) A (compareOp .NotIn u (.ref a)) Q E s:=by
 rcases g with⟨d,k,e,f,l⟩|⟨d,k,b,e,f,m,l⟩
 . subst f;obtain⟨z,i,n,c,j⟩:=ND I.hok e;refine wpAny_notIn_of (Ve ry) i j.mapOf ?_;rw[<-(c.val k).isSome_eq,<-l];exact h _ (I.tok _)
 . subst f;cases(show u=Value.ref b from ry);obtain⟨z,i,p,c,j⟩:=NH I.hok e;refine wpAny_notIn_heap (tupleKind_room_in1 hu) (Wy I.hok m) i j ?_;have q:=(c.val k).isSome_eq;rw[Option.isSome_map]at q;rw[<-q,<-l];exact h _ (I.tok _)
def Rf(I:Inv X pins σ H s)(mu:sJ (H a))(hs:Heap.SameBut a s.heap h')(he:∃q,h'.get? a=some q)(new:xi X.prog X.w (upd H a ob) h' a ob):
 Inv X pins σ (upd H a ob) {s with heap:=h',toks:=t'}:=
 I.write (x:=a) (e:=a) mu (.inl rfl) (λb q c z=>(hs.2 b c).trans z) he new
def Af(z:kvs.length<=sizeLine)(hd:(a==sysModules)=false)(rel:KV kvs vs)(dd:h'.DictOf (yN P w) a vs):
 xi P w H' h' a (.dK kvs):=⟨z,hd,vs,rel,dd⟩
def FK(hu:A.units+1<cLine)(I:Inv X pins σ H s)(g:sQ H a y v H')(ry:RelV y u)(rv:RelV v r)(h:∀s',Inv X pins σ H' s'->Q () s'):
 wpAny (model X.prog X.w) A (setItem (.ref a) u r) Q E s:=by
 rcases g with⟨d,k,e,m,l,n⟩|⟨d,k,b,e,m,C,l,n⟩
 . subst m n;obtain⟨z,o,G,f,p⟩:=uV I.hok e;have t:G.length<=sizeLine:=by rw[<-f.length];exact z
   have x:(putK d k v).length<=sizeLine:=by have:=QK d k v;omega
   refine wpAny_setItem_pairs (hsz:=t) (Ve ry) p λD i B=>h _ ?_;have J:∃q,D.get? a=some q:=let⟨q,_,_,j,_⟩:=i;⟨q,j⟩;exact Rf I (by rw[e];exact True.intro) B J (Af x o (f.put k rv) i)
 . subst m n;cases(show u=Value.ref b from ry);obtain⟨z,o,K,f,p⟩:=Fe I.hok e;have t:K.length<=sizeLine:=by rw[<-Paired.length f];exact z
   have x:(putK d k v).length<=sizeLine:=by have:=QK d k v;omega
   refine wpAny_setItem_heap (hsz:=t) (tupleKind_room_in1 hu) (Wy I.hok C) p λD i B=>h _ ?_;obtain⟨q,L,M,j,N,O,P,_,R⟩:=i;refine Rf I (by rw[e];exact True.intro) B ⟨q,j⟩ ⟨x,o,_,(f.put k C rv).keeps λc S F=>?_,q,L,M,j,N,O,P,R⟩;rw[zK (SE F e (λz=>nomatch z))];exact F
end
def t8(td ty tv:TE):TS:=λD σ H=>tv σ H λv H1=>td σ H1 λx H2=>ty σ H2 λy H3=>∃a H4,x = .ref a/\sQ H3 a y v H4/\D.nx σ H4
section
variable{X:Cx}{o i e value:Expr}{pos pos' tpos:Pos}{td ty tv:TE}
def Ic(hu:X.A.units+1<cLine)(ho:PE X o td)(hi:PE X i ty)(hv:PE X value tv)(hs:swapsWith value (some (.Subscript o i pos')) pos.line X.env=pure false):
 PS X (.Assign [.Subscript o i pos'] value pos) (t8 td ty tv):=by
 intro b s σ H D I h;refine wpAny_Assign_Subscript (thn (hv b s σ H _ I h) λr c ⟨v,d,e,f,j⟩=>thn (ho b c σ d _ e j) λu k ⟨x,l,m,n,p⟩=>thn (hi b k σ l _ m p) λE F ⟨y,G,q,t,a,w,z,g,B⟩=>?_) hs;subst z;obtain rfl:u=Value.ref a:=n;exact FK hu q g t f λJ C=>⟨σ,w,C,B⟩
end
def NZ(h:Heap)(hb:sysModules<h.objs.size):xi P w H (h.push {cls:=.type "dict",data:=.dict #[]}) h.objs.size (.dT []):=
 ⟨Nat.zero_le _,beq_eq_false_iff_ne.mpr (Ne.symm (zzQ hb)),[],.nil,_,#[],0,zxK _ rfl,⟨rfl,rfl,rfl⟩,rfl,rfl,zyJ⟩
def Ay:TE:=λ_ H Q=>∀p,H p=none->Q (.ref p) (upd H p (.dT []))
section
variable{X:Cx}{pos:Pos}
def OJ:PE X (.Dict [] [] pos) Ay:=λb s σ H Q I h=>
 wpAny_Dict_empty ⟨.ref s.heap.objs.size,_,I.laid (a:=s.heap.objs.size) (o:=.dT []) (t':=s.toks) (λ_ _ q=>zxI _ q) (zzN _) (NZ s.heap I.big),rfl,h _ (I.hok.fresh (zzN _))⟩
end
def OG:List (TE×TE)->St->Hp->(List (V×V)->Hp->Prop)->Prop
 | [],_,H,Q=>Q [] H
 |(tk,tv)::r,σ,H,Q=>tk σ H λx H1=>tv σ H1 λy H2=>OG r σ H2 λps H3=>Q ((x,y)::ps) H3
abbrev VV:List (V×V)->List (Value×Value)->Prop:=Paired λp q=>RelV p.1 q.1/\RelV p.2 q.2
def qU(X:Cx)(pos:Pos)(keys:List (Option Expr))(values:List Expr)(trs:List (TE×TE)):Prop:=
 ∀(pins:List (Addr×Obj)) (s:Shared) (σ:St) (H:Hp) (Q:List (V×V)->Hp->Prop),Inv X pins σ H s->OG trs σ H Q->
  wpAny (model X.prog X.w) X.A (evalPairs (pairTrees keys values X.env pos)) (λvs s'=>∃ps H',Inv X pins σ H' s'/\VV ps vs/\Q ps H') X.xe s
def CQ:qU X pos [] [] []:=λa s σ H Q I h=>pairTrees_nil_walk ⟨[],H,I,.nil,h⟩
def On(hk:PE X k tk)(hv:PE X v tv)(hr:qU X pos ks vs trs):
 qU X pos (some k::ks) (v::vs) ((tk,tv)::trs):=λa s σ H Q I h=>
 pairTrees_cons_walk (thn (hk a s σ H _ I h) λu c ⟨x,d,e,f,g⟩=>thn (hv a c σ d _ e g) λt i ⟨y,j,l,m,n⟩=>
  thn (hr a i σ j _ l n) λw z ⟨o,p,q,b,r⟩=>⟨(x,y)::o,p,q,.cons ⟨f,m⟩ b,r⟩)
structure M1(X:Cx)(o:Expr)(m:Str)(apos:Pos)(e:Expr)(cpos:Pos):Prop where
 base:attributeBase o m X.env (eval o X.env)=eval o X.env
 few:((backTo cpos (starEach [e] X.env)).all (λx=>!x.1)&&(backToKw cpos (keywordEach [] X.env)).all (λx=>x.1.isSome)
  && decide (([e]:List Expr).length+([]:List Keyword).length+(if([]:List Keyword).isEmpty then 0 else 1)<30))=true
 line:(apos.endLine==cpos.line)=true
 trees:backTo cpos (starEach [e] X.env)=[(false,eval e X.env)]
structure M2(X:Cx)(o:Expr)(m:Str)(apos:Pos)(e f:Expr)(cpos:Pos):Prop where
 base:attributeBase o m X.env (eval o X.env)=eval o X.env
 few:((backTo cpos (starEach [e,f] X.env)).all (λx=>!x.1)&&(backToKw cpos (keywordEach [] X.env)).all (λx=>x.1.isSome)
  && decide (([e,f]:List Expr).length+([]:List Keyword).length+(if([]:List Keyword).isEmpty then 0 else 1)<30))=true
 line:(apos.endLine==cpos.line)=true
 trees:backTo cpos (starEach [e,f] X.env)=[(false,eval e X.env),(false,eval f X.env)]
end L2
namespace HT
open PySem PyProof.Rows
section
variable{prog:Program}{w:World}{A:Around}{E:Value->Shared->Prop}{s:Shared}
def Cv(ht:IsTup s.heap t vs.toArray)(hb:IsTup s.heap b ws.toArray)(hv:vs≠[])
 (h1:ws=[]->Q (.ref t) s) (h2:ws≠[]->Q (.ref s.heap.objs.size) {s with heap:=s.heap.push {cls:=.type "tuple",data:=.seq (vs++ws).toArray}})
 (hsz:vs.length+ws.length<=sizeLine):wpAny (model prog w) A (binaryOp .Add (.ref t) (.ref b)) Q E s:=by
 obtain⟨⟨u,k,l,m⟩,h,o,n,p⟩:=id ht;obtain⟨⟨q,c,j,d⟩,a,f,r,g⟩:=id hb;simp only at o p f g;subst o p f g;have e:vs.toArray++ws.toArray=(vs++ws).toArray:=by simp
 by_cases i:ws=[]
 . exact concat_meets ⟨_,h,rfl⟩ ⟨_,a,rfl⟩ noFill_tuple_add seq_tuple_add PySem.F.slot_tuple_add PySem.F.entry_tuple_add (PySem.F.args_tuple_add_2 _ _)
    (tuple_addW1 t b vs.toArray ws.toArray n r k c m d (by simpa using hv) (by simp[i])) ⟨h,a,h1 i⟩
 . refine concat_meets ⟨_,h,rfl⟩ ⟨_,a,rfl⟩ noFill_tuple_add seq_tuple_add PySem.F.slot_tuple_add PySem.F.entry_tuple_add (PySem.F.args_tuple_add_2 _ _)
    (tuple_addW2 t b vs.toArray ws.toArray n r k c m d (by simpa using hv) (by simpa using i) (by rw[zzH,zzH];exact hsz)) ⟨h,a, ?_⟩
   rw[e];exact h2 i
noncomputable def sIx(n d:Nat):Option Int->Nat
 |none=>d
 |some v=>if v<0 then(v+(n:Int)).toNat else min v.toNat n
def NN(n d:Nat):sIx n d none=d:=rfl
def U5(n d k:Nat):sIx n d (some (k:Int))=min k n:=by
 show(if(k:Int)<0 then((k:Int)+(n:Int)).toNat else min (k:Int).toNat n)=min k n;rw[if_neg (by omega),zyI]
def DK(n d:Nat)(hd:d<=n)(o:Option Int):sIx n d o<=n:=by
 cases o with
 |none=>exact hd
 |some v=>
  show(if v<0 then(v+(n:Int)).toNat else min v.toNat n)<=n
  by_cases a:v<0
  . rw[if_pos a];omega
  . rw[if_neg a];exact Nat.min_le_right _ _
def Fj(v:Int)(n d:Nat):(if v<0 then max (v+(n:Int)) 0 else min v (n:Int))=((sIx n d (some v):Nat):Int):=by
 show(if v<0 then max (v+(n:Int)) 0 else min v (n:Int))=(((if v<0 then(v+(n:Int)).toNat else min v.toNat n):Nat):Int)
 by_cases a:v<0
 . simp only[if_pos a];omega
 . simp only[if_neg a];omega
def Ep(lo hi:Option Int)(n:Nat):Builtin.Slice.sliceAdjust lo hi 1 (n:Int)=(((sIx n 0 lo:Nat):Int),((sIx n n hi:Nat):Int)):=by
 have a:¬((1:Int)<0):=by omega
 unfold Builtin.Slice.sliceAdjust;simp only[a,if_false];refine Prod.ext ?_ ?_
 . cases lo with
   |none=>rfl
   |some v=>exact Fj v n 0
 . cases hi with
   |none=>rfl
   |some v=>exact Fj v n n
def Ef(i j:Nat):Builtin.Slice.slicePlaces (i:Int) (j:Int) 1=j-i:=by
 unfold Builtin.Slice.slicePlaces;have a:(1:Int) > 0:=by omega
 simp only[a,if_true,Int.ediv_one]
 split<;>omega
def RH(p:IsPart v o)(h:Q o s):wpAny (model prog w) A (Builtin.Slice.slicePartIndex v) Q E s:=by
 cases p with
 |none=>exact slicePart_none h
 |int i t=>exact slicePart_int h
def Qo{sl:Addr}{vl vu:Value}{lo hi:Option Int}{n:Nat}{Q:Int×Int×Nat->Shared->Prop}(hs:s.heap.IsSliceOf sl vl vu .none)(pl:IsPart vl lo)(pu:IsPart vu hi)
 (h:Q (((sIx n 0 lo:Nat):Int),1,sIx n n hi-sIx n 0 lo) s):wpAny (model prog w) A (Builtin.Slice.sliceApplied (.ref sl) (pure (n:Int))) Q E s:=by
 obtain⟨os,hos,hcs,hds⟩:=id hs;unfold Builtin.Slice.sliceApplied Builtin.Slice.sliceFields;refine zxG (zxG (wpAny_field hos hds (x:=vl) rfl (zxG (wpAny_field hos hds (x:=vu) rfl (zxG (wpAny_field hos hds (x:=.none) rfl (zxH ?_)))))));refine zxG (slicePart_none ?_);show wpAny _ _ (if((1:Int)==0)=true then _ else _) _ _ s;rw[if_neg (by decide)];refine zxG (RH pl (zxG (RH pu (zxG (zxH ?_)))));show wpAny _ _ (match Builtin.Slice.sliceAdjust lo hi 1 (n:Int)with|(lo,hi)=>pure (lo,(1:Int),Builtin.Slice.slicePlaces lo hi 1)) _ _ s;rw[Ep lo hi n];show wpAny _ _ (pure (((sIx n 0 lo:Nat):Int),(1:Int),Builtin.Slice.slicePlaces ((sIx n 0 lo:Nat):Int) ((sIx n n hi:Nat):Int) 1)) _ _ s;rw[Ef];exact zxH h
def Hd(xs:Array Value)(i k:Nat):((List.range k).filterMap λ(m:Nat)=>xs[((i:Int)+(m:Int)*1).toNat]?).toArray=((xs.toList.drop i).take k).toArray:=by
 have e:(λ(m:Nat)=>xs[((i:Int)+(m:Int)*1).toNat]?)=λm=>xs[i+m]? := by
  funext m;have:((i:Int)+(m:Int)*1).toNat=i+m:=by omega
  rw[this]
 rw[e];have:=pick_run xs i k;rw[List.filterMap_map]at this;have a:((λx=>xs[x]?)∘λx=>i+x)=λm=>xs[i+m]? := rfl;rw[a]at this;rw[this]
def Vy{t sl:Addr}{items:Array Value}{vl vu:Value}{lo hi:Option Int}{Q:Value->Shared->Prop}(ht:IsTup s.heap t items)(hs:s.heap.IsSliceOf sl vl vu .none)(pl:IsPart vl lo)(pu:IsPart vu hi)
 (hw:¬(sIx items.size 0 lo=0/\sIx items.size items.size hi=items.size))
 (h:Q (.ref s.heap.objs.size) {s with heap:=s.heap.push {cls:=.type "tuple",data:=.seq ((items.toList.drop (sIx items.size 0 lo)).take (sIx items.size items.size hi-sIx items.size 0 lo)).toArray}})
 (hsz:items.size<=sizeLine):wpAny (model prog w) A (getItem (.ref t) (.ref sl)) Q E s:=by
 have a:sizeOk (.seq ((items.toList.drop (sIx items.size 0 lo)).take (sIx items.size items.size hi-sIx items.size 0 lo)).toArray):=by
  show((items.toList.drop (sIx items.size 0 lo)).take (sIx items.size items.size hi-sIx items.size 0 lo)).toArray.size<=sizeLine;rw[zzH,zzS,List.length_drop,zyT];omega
 have i:sIx items.size items.size hi<=items.size:=DK _ _ (zzN _) hi;obtain⟨f,b,c,g⟩:=id hs;have d:s.TypeIs (.ref sl) "slice":=⟨f,b,c⟩;unfold getItem
 try with_reducible refine zxM ?_
 first|refine zxG (zxH ?_)|skip
 refine zxG (wpAny_sequenceKey ht.typeIs (by decide) ?_);refine zxG (wpAny_callSpecial?_slot (name:=Str.ofString "__getitem__") ht.typeIs PyProof.Rows.slot_tuple_getitem
  (zxQ PyProof.Rows.slot_tuple_getitem ht.typeIs entry_tuple_getitem ?_ (args_tuple_getitem _ _)))
 show wpAny _ _ (Builtin.Tuple.tupleItemsOf (.ref t) >>= _) _ _ s;refine zxG (tupleItemsOf_ ht ?_);refine zxG (wpAny_typeOf d ?_);rw[if_pos (by decide)];refine zxG (Qo hs pl pu ?_);have e:¬((((sIx items.size 0 lo:Nat):Int)==0&&(1:Int)==1&&(sIx items.size items.size hi-sIx items.size 0 lo)==items.size)=true):=by
  intro q;rw[zyC,zyC]at q;have j:((sIx items.size 0 lo:Nat):Int)=0:=eq_of_beq q.1.1;have k:sIx items.size items.size hi-sIx items.size 0 lo=items.size:=eq_of_beq q.2;exact hw ⟨by omega,by omega⟩
 show wpAny _ _ (if(((sIx items.size 0 lo:Nat):Int)==0&&(1:Int)==1&&(sIx items.size items.size hi-sIx items.size 0 lo)==items.size)=true then _ else _) _ _ s;rw[if_neg e,Hd]
 first
  |exact zxG (m:=Builtin.Tuple.tupleExact _) (zxL (zxH ⟨_,rfl,zxH h⟩) a)
  |exact zxG (m:=Builtin.Tuple.tupleExact _) (zxL (zxG (zxH (zxH ⟨_,rfl,zxH h⟩))) a)
  |exact zxG (zxG (m:=Builtin.Tuple.tupleExact _) (zxL (zxH (zxH ⟨_,rfl,zxH h⟩)) a))
  |exact zxG (zxG (m:=Builtin.Tuple.tupleExact _) (zxL (zxH ⟨_,rfl,zxH h⟩) a))
end
end HT
namespace L2
open PySem PySem.Spec PyProof.Rows
abbrev TO:=St->Hp->(Option Int->Hp->Prop)->Prop
def PO(X:Cx)(e:Option Expr)(t:TO):Prop:=
 ∀(pins:List (Addr×Obj)) (s:Shared) (σ:St) (H:Hp) (Q:Option Int->Hp->Prop),Inv X pins σ H s->t σ H Q->
  wpAny (model X.prog X.w) X.A (evalPart e X.env) (λu s'=>∃o H',Inv X pins σ H' s'/\IsPart u o/\Q o H') X.xe s
def C6:TO:=λ_ H Q=>Q none H
def sh(t:TE):TO:=λσ H Q=>t σ H λx H1=>∃i,x = .int i/\Q (some i) H1
def intsAre_of:∀{us:List Value},z_ (ns.map V.int) us->IntsAre us ns:=by
 induction ns with
 |nil=>intro us r;rw[List.map_nil]at r;cases r;exact .nil
 |cons n ns ih=>
  intro us r;rw[zyS]at r;cases r with
  |cons r1 r2=>
   obtain⟨t,e⟩:=r1;subst e;exact .cons n t (ih r2)
section
variable{X:Cx}{e:Expr}{te:TE}{lo hi:Option Expr}{tl th:TO}{pos p2:Pos}
def Ip:PO X none C6:=by
 intro a s σ H Q I h;rw[evalPart_none];exact zxH ⟨none,H,I,.none,h⟩
def OZ(h:PE X e te):PO X (some e) (sh te):=by
 intro a s σ H Q I b;rw[evalPart_some];refine thn (h a s σ H _ I b) λu j ⟨x,c,d,f,g⟩=>?_;obtain⟨i,rfl,q⟩:=g;obtain⟨t,rfl⟩:=f;exact⟨some i,c,d,.int i t,q⟩
def uw(X:Cx)(r:V->Option Int->Option Int->Hp->VK->Prop):Prop:=
 ∀(pins:List (Addr×Obj)) (s:Shared) (σ:St) (H:Hp) (x:V) (v vl vu:Value) (lo hi:Option Int) (sl:Addr) (Q:VK),Inv X pins σ H s->RelV x v->s.heap.IsSliceOf sl vl vu .none->IsPart vl lo->IsPart vu hi->r x lo hi H Q->
  ∃T id,typeLookup (.type T) "__getitem__"=pure (some (.builtin id))/\s.TypeIs v T/\wpAny (model X.prog X.w) X.A (getItem v (.ref sl)) (EP X pins σ Q) X.xe s
def oz(r:V->Option Int->Option Int->Hp->VK->Prop)(te:TE)(tl th:TO):TE:=λσ H Q=>te σ H λx H1=>tl σ H1 λl H2=>th σ H2 λu H3=>r x l u H3 Q
def Nu(hr:uw X r)(he:PE X e te)(hl:PO X lo tl)(hu:PO X hi th):PE X (.Subscript e (.Slice lo hi none p2) pos) (oz r te tl th):=by
 intro a s σ H Q I h;refine Subscript_ (thn (he a s σ H _ I h) λv i ⟨x,j,k,m,n⟩=>?_);refine wpAny_Slice (thn (hl a i σ j _ k n) λd o ⟨l,p,t,y,z⟩=>thn (hu a o σ p _ t z) λf c ⟨u,g,B,C,D⟩=>?_);rw[evalPart_none];refine zxH ?_;have E:Inv X a σ g {c with heap:=c.heap.push {cls:=.type "slice",data:=.fields #[d,f,.none]}}:=B.kept (t':=c.toks) λb ob q=>zxI _ q;obtain⟨T,K,F,G,J⟩:=hr a {c with heap:=c.heap.push {cls:=.type "slice",data:=.fields #[d,f,.none]}} σ g x v d f l u c.heap.objs.size Q E m (Heap.IsSliceOf.new ..) y C D;show wpAny (model X.prog X.w) X.A (subscriptTail e (.Slice lo hi none p2) v (.ref c.heap.objs.size)) (EP X a σ Q) X.xe {c with heap:=c.heap.push {cls:=.type "slice",data:=.fields #[d,f,.none]}};exact tail_any (ops:=[.ref c.heap.objs.size,v]) G F J (by with_unfolding_all rfl)
noncomputable def Na(xs:List V)(lo hi:Option Int):List V:=(xs.drop (HT.sIx xs.length 0 lo)).take (HT.sIx xs.length xs.length hi-HT.sIx xs.length 0 lo)
def UK(xs:List V)(lo hi:Option Int):(Na xs lo hi).length<=xs.length:=by
 unfold Na;rw[zzS,List.length_drop];omega
def rW(K:zzA):V->Option Int->Option Int->Hp->VK->Prop:=λx lo hi H Q=>∃a xs,x = .ref a/\VQ K H a xs/\
 ¬(HT.sIx xs.length 0 lo=0/\HT.sIx xs.length xs.length hi=xs.length)/\∀p,H p=none->Q (.ref p) (upd H p (.tup (Na xs lo hi)))
def Dg:uw X (rW X.K):=by
 intro i s σ H x v w y e f z Q I l m n p h;obtain⟨a,d,rfl,t,u,q⟩:=h;cases l;obtain⟨g,r,j,k⟩:=I.tuple t;have c:g.toArray.size=d.length:=by rw[zzH];exact r.length.symm
 refine⟨"tuple",_,PyProof.Rows.slot_tuple_getitem.lookup,j.typeIs, ?_⟩;refine HT.Vy j m n p (by rw[c];exact u) ?_ (by rw[c];exact k);rw[c];refine⟨.ref s.heap.objs.size,_,I.laid (t':=s.toks) (o:=.tup (Na d e f)) (λb ob q=>zxI _ q) (zzN _) ?_,rfl,q _ (I.hok.fresh (zzN _))⟩;exact⟨zzO (UK d e f) k,_,(r.drop (HT.sIx d.length 0 e)).take (HT.sIx d.length d.length f-HT.sIx d.length 0 e),IsTup.new _ _⟩
def uR(K:zzA):R2:=λx y H Q=>∃a b xs ys,x = .ref a/\y = .ref b/\VQ K H a xs/\VQ K H b ys/\xs≠[]/\xs.length+ys.length<=sizeLine/\
 (ys=[]->Q (.ref a) H)/\(ys≠[]->∀p,H p=none->Q (.ref p) (upd H p (.tup (xs++ys))))
def z_.nil_iff(r:z_ xs us):us=[] ↔ xs=[]:=by
 cases r with
 |nil=>simp
 |cons _ _=>simp
def CZ:QF X (binaryOp .Add) (uR X.K):=by
 intro e s σ H x y v u Q I i j h;obtain⟨a,b,k,l,rfl,rfl,m,n,p,f,r,t⟩:=h;cases i;cases j;obtain⟨A,d,B,_⟩:=I.tuple m;obtain⟨g,c,C,_⟩:=I.tuple n;refine HT.Cv B C (λz=>p (d.nil_iff.mp z)) (λz=>⟨.ref a,H,I,rfl,r (c.nil_iff.mp z)⟩) (λz=>?_) (by rw[<-d.length,<-c.length];exact f);refine⟨.ref s.heap.objs.size,_,I.laid (t':=s.toks) (o:=.tup (k++l)) (λb ob q=>zxI _ q) (zzN _) ?_,rfl,t (λw=>z (c.nil_iff.mpr w)) _ (I.hok.fresh (zzN _))⟩;exact⟨by rw[zzJ];exact f,_,d.append c,IsTup.new _ _⟩
end
end L2
namespace L2
open PySem PySem.Spec PyProof.Rows
noncomputable def OP(n:Nat)(i:Int):Option Nat:=if 0<=i then(if i<n then some i.toNat else none)else if -(n:Int)<=i then some (i+n).toNat else none
def La{α:Type}(xs:List α)(i:Int):Option α:=(OP xs.length i).bind λj=>xs[j]?
def Fl(h:OP n i=some j):seqIndex? i n=some j/\j<n /\ -(n:Int)<=i/\i<n:=by
 unfold OP at h
 by_cases b:0<=i
 . rw[if_pos b]at h
   by_cases a:i<n
   . rw[if_pos a]at h;have e:i.toNat=j:=zzZ h;exact⟨by rw[seqIndex_of b a,e],by omega,by omega,a⟩
   . rw[if_neg a]at h;cases h
 . rw[if_neg b]at h
   by_cases a : -(n:Int)<=i
   . rw[if_pos a]at h;have e:(i+n).toNat=j:=zzZ h;exact⟨by rw[seqIndex_neg (by omega) a,e],by omega,a,by omega⟩
   . rw[if_neg a]at h;cases h
def Lz(h:La xs i=some v):∃j,seqIndex? i xs.length=some j/\xs[j]? = some v/\j<xs.length /\ -(xs.length:Int)<=i/\i<xs.length:=by
 unfold La at h;cases e:OP xs.length i with
 |none=>rw[e]at h;cases h
 |some j=>
  rw[e]at h;obtain⟨a,b,c,d⟩:=Fl e;exact⟨j,a,h,b,c,d⟩
def vZ{α:Type}{xs:List α}{j:Nat}{v:α}(h:xs[j]? = some v):La xs (j:Int)=some v:=by
 have a:j<xs.length:=(zzG.mp h).1;have e:OP xs.length (j:Int)=some j:=by
  unfold OP;rw[if_pos (by omega),if_pos (by omega)];simp
 unfold La;rw[e];exact h
def v_(b:Expr):Prop:=∀o i,subscripted b false o i=operate [o,i] (getItem o i)
def u3(X:Cx)(r:R2):Prop:=
 ∀(value slice:Expr) (pins:List (Addr×Obj)) (s:Shared) (σ:St) (H:Hp) (x y:V) (v u:Value) (Q:VK),Inv X pins σ H s->RelV x v->RelV y u->r x y H Q->
  subscripted slice false v u=operate [v,u] (getItem v u)->wpAny (model X.prog X.w) X.A (subscriptTail value slice v u) (EP X pins σ Q) X.xe s
def rz(X:Cx)(id:String)(r:V->List V->Hp->VK->Prop):Prop:=
 ∀(pins:List (Addr×Obj)) (s:Shared) (σ:St) (H:Hp) (x:V) (xs:List V) (v:Value) (us:List Value) (Q:VK),Inv X pins σ H s->RelV x v->z_ xs us->r x xs H Q->
  wpAny (model X.prog X.w) X.A (call (.builtin id) (v::us)) (EP X pins σ Q) X.xe s
section
variable{X:Cx}{a b:Expr}{ta tb:TE}{pos:Pos}
def Gv(hr:u3 X r)(ha:PE X a ta)(hb:PE X b tb)(hs:v_ b):PE X (.Subscript a b pos) (tu r ta tb):=by
 intro c s σ H Q I h;exact Subscript_ (AJ ha hb I h λv u d x y e f g i q=>hr a b c d σ e x y v u Q f g i q (hs _ _))
def qt(K:zzA):R2:=λx y H Q=>∃p xs i v,x = .ref p/\y = .int i/\Z5 K H p xs/\La xs i=some v/\Q v H
def qy(K:zzA):R2:=λx y H Q=>∃p xs i v,x = .ref p/\y = .int i/\VQ K H p xs/\La xs i=some v/\Q v H
def qr:R2:=λx y H Q=>∃z i c,x = .str z/\y = .int i/\z.length<=sizeLine/\La z.cps.toList i=some c/\Q (.str ⟨#[c]⟩) H
def VR:u3 X (qt X.K):=by
 intro d e a s σ H x y v u Q I A B h m;obtain⟨p,M,i,z,rfl,rfl,C,D,q⟩:=h;cases A;obtain⟨t,rfl⟩:=B;obtain⟨f,r,g,N⟩:=I.list C;obtain⟨j,c,E,O,F,G⟩:=Lz D;obtain⟨w,n,k⟩:=r.get E;have J:=r.length;have P:=WM;have b:EP X a σ Q w s:=⟨z,H,I,k,q⟩
 by_cases o:0<=i
 . have l:i.toNat=j:=by
    rw[seqIndex_of o G]at c;exact zzZ c
   exact item_listR g.isList o (by omega) (by rw[l];simpa using n) b m
 . have l:(i+(f.toArray.size:Int)).toNat=j:=by
    rw[seqIndex_neg (by omega) F]at c;rw[zzH,<-J];exact zzZ c
   exact subscriptTail_builtinR (x:=w) g.isList.typeIs slot_list_getitem.lookup
    (wpAny_getItem_list_neg (Q:=λr L=>r=w/\EP X a σ Q r L) g.isList (by omega) (by rw[zzH]<;>omega) (by omega) (by rw[l];simpa using n) ⟨rfl,b⟩) m
def SU:u3 X (qy X.K):=by
 intro b c a s σ H x y v u Q I g k h l;obtain⟨p,F,i,z,rfl,rfl,m,n,q⟩:=h;cases g;obtain⟨t,rfl⟩:=k;obtain⟨o,r,f,G⟩:=I.tuple m;obtain⟨j,A,B,J,L,M⟩:=Lz n;obtain⟨w,C,d⟩:=r.get B;have D:=r.length;have N:=WM;have e:EP X a σ Q w s:=⟨z,H,I,d,q⟩;exact subscriptTail_builtinR (x:=w) f.typeIs slot_tuple_getitem.lookup
  (getItem_tuple (j:=j) (Q:=λr E=>r=w/\EP X a σ Q r E) f (by omega) (by omega) (by rw[zzH,<-D];exact A) (by simpa using C) ⟨rfl,e⟩) l
def ud:u3 X qr:=by
 intro a b d s σ H x y v u Q I f g h k;obtain⟨z,i,c,rfl,rfl,A,l,q⟩:=h;obtain⟨t,rfl⟩:=f;obtain⟨B,rfl⟩:=g;obtain⟨j,e,m,C,n,o⟩:=Lz l;have p:z.cps.toList.length=z.length:=by simp[Str.length]
 rw[p]at e n o;have D:=WM;exact tail_any (typeIs_str s z t) slot_str_getitem.lookup (getItem_str (c:=c) (by
  have r:decide (i < -(2 ^ 63:Int))=false:=zyG (by omega);have w:decide (i ≥ 2 ^ 63)=false:=zyG (by omega);rw[r,w,Bool.or_false]) (by rw[e];simpa using m) ⟨.str ⟨#[c]⟩,H,I.tok _,⟨_,rfl⟩,q⟩) k
def Ey(its:List Value)(n j:Nat)(u:Value):Obj.mapSeq (·.setIfInBounds j u) {cls:=.type "list",data:=.seq its.toArray n}={cls:=.type "list",data:=.seq (its.set j u).toArray n}:=by
 simp[Obj.mapSeq]
theorem Inv.lst(I:Inv X pins σ H s)(h:H p=some (.lst xs)):
 ∃(its:List Value) (n:Nat),z_ xs its/\s.heap.get? p=some {cls:=.type "list",data:=.seq its.toArray n}/\xs.length<=sizeLine:=by
 obtain⟨z,a,n,r,e⟩:=I.hok p _ h;exact⟨a,n,r,e,z⟩
def Inv.lstUpd{pins:List (Addr×Obj)}{σ:St}{H:Hp}{s:Shared}{p:Addr}{xs ys:List V}{its its':List Value}{n n':Nat}{f:Obj->Obj}(I:Inv X pins σ H s)(h:H p=some (.lst xs))
 (ho:s.heap.get? p=some {cls:=.type "list",data:=.seq its.toArray n}) (hf:f {cls:=.type "list",data:=.seq its.toArray n}={cls:=.type "list",data:=.seq its'.toArray n'}) (r:z_ ys its') (hz:ys.length<=sizeLine) (t:Nat):
 Inv X pins σ (upd H p (.lst ys)) {s with heap:=s.heap.update p f,toks:=t}:=by
 have e:(s.heap.update p f).get? p=some {cls:=.type "list",data:=.seq its'.toArray n'}:=by
  rw[zxO f ho (by rw[hf]<;>rfl),hf]
 refine I.write (x:=p) (e:=p) (by rw[h];trivial) (.inl rfl) (λb u a q=>(Heap.get?_update_other _ _ (Ne.symm a)).trans q) ⟨_,e⟩ ?_;exact⟨hz,its',n',r,e⟩
def tV:V->V->V->Hp->(Hp->Prop)->Prop:=λo i v H Q=>∃p xs k j,o = .ref p/\i = .int k/\H p=some (.lst xs)/\OP xs.length k=some j/\Q (upd H p (.lst (xs.set j v)))
def set_list:uD X tV:=by
 intro a s σ H o i v E F u Q I y z A h;obtain⟨p,B,k,j,rfl,rfl,g,C,q⟩:=h;cases y;obtain⟨t,rfl⟩:=z;obtain⟨b,n,r,d,D⟩:=I.lst g;obtain⟨c,G,l,m⟩:=Fl C;have e:=r.length;have J:=WM;have w:Inv X a σ (upd H p (.lst (B.set j v))) {s with heap:=s.heap.update p (Obj.mapSeq (·.setIfInBounds j u))}:=
  I.lstUpd g d (Ey b n j u) (r.set A j) (by rw[zzU];exact D) s.toks
 by_cases x:0<=k
 . have f:k.toNat=j:=by
    rw[seqIndex_of x m]at c;exact zzZ c
   exact PySem.W.ki_setAt d x (by omega) (by rw[zzH,<-e];exact m) (by rw[f];exact⟨_,w,q⟩)
 . have f:(k+(b.toArray.size:Int)).toNat=j:=by
    rw[seqIndex_neg (by omega) l]at c;rw[zzH,<-e];exact zzZ c
   exact PySem.W.ki_setBack d (by omega) (by rw[zzH,<-e];exact l) (by omega) (by rw[f];exact⟨_,w,q⟩)
def G_(lo hi:Option Int)(n:Nat):(sliceBounds lo hi none n).1=((HT.sIx n 0 lo:Nat):Int)/\(sliceBounds lo hi none n).2.1=((HT.sIx n n hi:Nat):Int)/\(sliceBounds lo hi none n).2.2=1:=by
 refine⟨?_, ?_,rfl⟩
 . cases lo with
   |none=>simp[sliceBounds,HT.sIx]
   |some i=>
    simp only[sliceBounds,HT.sIx,Option.getD_none,show(1:Int) > 0 by decide,if_true]
    by_cases h:i<0
    . simp only[h,if_true]<;>omega
    . simp only[h,if_false]<;>omega
 . cases hi with
   |none=>simp[sliceBounds,HT.sIx]
   |some i=>
    simp only[sliceBounds,HT.sIx,Option.getD_none,show(1:Int) > 0 by decide,if_true]
    by_cases h:i<0
    . simp only[h,if_true]<;>omega
    . simp only[h,if_false]<;>omega
def Gc(its:List Value)(lo hi:Option Int):slicePick its.toArray lo hi none=((its.drop (HT.sIx its.length 0 lo)).take (HT.sIx its.length its.length hi-HT.sIx its.length 0 lo)).toArray:=by
 obtain⟨a,b,c⟩:=G_ lo hi its.toArray.size;unfold slicePick;rw[a,b,c];simp only[sliceRange_one,pick_run,zzH]<;>rfl
def rK(K:zzA):V->Option Int->Option Int->Hp->VK->Prop:=λx lo hi H Q=>∃a xs,x = .ref a/\Z5 K H a xs/\∀p,H p=none->Q (.ref p) (upd H p (.lst (Na xs lo hi)))
def CU:uw X (rK X.K):=by
 intro g s σ H x v u w e f y Q I j k l m h;obtain⟨a,c,rfl,n,q⟩:=h;cases j;obtain⟨p,r,i,t⟩:=I.list n;have d:=r.length;refine⟨"list",_,slot_list_getitem.lookup,i.isList.typeIs, ?_⟩;refine wpAny_getItem_list_slice i.isList k l m .none (by simp) ?_ (by rw[zzH]<;>omega);rw[Gc,<-d];refine⟨.ref s.heap.objs.size,_,I.laid (t':=s.toks) (o:=.lst (Na c e f)) (λb ob q=>zxI _ q) (zzN _) ?_,rfl,q _ (I.hok.fresh (zzN _))⟩;exact⟨zzO (UK c e f) t,_,0,(r.drop (HT.sIx c.length 0 e)).take (HT.sIx c.length c.length f-HT.sIx c.length 0 e),zxK _ rfl⟩
def Z6:Y1 X (.builtin "len") (λxs H Q=>∃p ys,xs=[.ref p]/\(Z5 X.K H p ys\/VQ X.K H p ys)/\Q (.int ys.length) H):=by
 intro f s σ H k l Q I r h;obtain⟨p,g,rfl,b,q⟩:=h;obtain⟨u,rfl,i⟩:=vals1 r;cases i;have m:=WM
 rcases b with b|b
 . obtain⟨c,d,e,j⟩:=I.list b;have a:=d.length;exact Calls.call_len_list e.isList (by simp only[zzH]<;>omega) ⟨.int g.length,H,I.tok _,⟨s.toks+1,by rw[zzH,a]⟩,q⟩
 . obtain⟨c,d,e,j⟩:=I.tuple b;have a:=d.length;exact len_tuple e (by simp only[zzH]<;>omega) ⟨.int g.length,H,I.tok _,⟨s.toks+1,by rw[zzH,a]⟩,q⟩
def Kd:Y1 X (.builtin "len") (λxs H Q=>∃z,xs=[.str z]/\z.length<=sizeLine/\Q (.int z.length) H):=by
 intro a s σ H b c Q I r h;obtain⟨z,rfl,d,q⟩:=h;obtain⟨u,rfl,t,rfl⟩:=vals1 r;have e:=WM;exact len_str (by omega) ⟨.int z.length,H,I.tok _,⟨_,rfl⟩,q⟩
def V4:Y1 X (.type "list") (λxs H Q=>∃p ys,xs=[.ref p]/\(Z5 X.K H p ys\/VQ X.K H p ys)/\∀l,H l=none->Q (.ref l) (upd H l (.lst ys))):=by
 intro g s σ H D E Q I r h;obtain⟨p,v,rfl,i,q⟩:=h;obtain⟨u,rfl,C⟩:=vals1 r;cases C;have j:∀(a:List Value),z_ v a->v.length<=sizeLine->∀(c:Heap) (d:Nat),(∀b B,s.heap.get? b=some B->c.get? b=some B)->
  c.get? s.heap.objs.size=some {cls:=.type "list",dict:=none,data:=.seq a.toArray d,slots:=#[]}->EP X g σ Q (.ref s.heap.objs.size) {s with heap:=c}:=λa f k c d m e=>
  ⟨.ref s.heap.objs.size,_,I.laid (t':=s.toks) m (zzN _) (show xi X.prog X.w _ c _ (.lst v)from⟨k,a,d,f,e⟩),rfl,q _ (I.hok.fresh (zzN _))⟩
 rcases i with i|i
 . obtain⟨a,f,x,k⟩:=I.list i;have t:=f.length;obtain⟨o,y,z,n,A⟩:=x.isList;exact call_list_seq p (.inl rfl) y z A (λc d m e=>j a f k c d m e) (by simp only[zzH]<;>omega)
 . obtain⟨a,f,x,k⟩:=I.tuple i;have t:=f.length;obtain⟨o,y,z,n,A⟩:=x;exact call_list_seq p (.inr rfl) y z A (λc d m e=>j a f k c d m e) (by simp only[zzH]<;>omega)
def X9:Y1 X (.type "tuple") (λxs H Q=>∃p ys,xs=[.ref p]/\((Z5 X.K H p ys/\∀l,H l=none->Q (.ref l) (upd H l (.tup ys)))\/(VQ X.K H p ys/\Q (.ref p) H))):=by
 intro a s σ H y z Q I r h;obtain⟨p,j,rfl,h⟩:=h;obtain⟨u,rfl,t⟩:=vals1 r;cases t
 rcases h with⟨f,q⟩|⟨f,q⟩
 . obtain⟨c,g,i,k⟩:=I.list f;have m:=g.length;refine call_tuple_list i.isList (λd v=>?_) (by simp only[zzH]<;>omega);have n:Inv X a σ H {s with heap:=d}:=I.kept (t':=s.toks) v;have x:Inv X a σ (upd H d.objs.size (.tup j)) {s with heap:=d.push {cls:=.type "tuple",data:=.seq c.toArray}}:=
    n.laid (t':=s.toks) (λb o e=>zxI _ e) (zzN _) (show xi X.prog X.w _ _ _ (.tup j)from⟨k,c,g,IsTup.new _ _⟩)
   exact⟨.ref d.objs.size,_,x,rfl,q _ (n.hok.fresh (zzN _))⟩
 . obtain⟨c,g,i,k⟩:=I.tuple f;exact call_tuple_same i ⟨.ref p,H,I,rfl,q⟩
def pB(K:zzA)(T:String)(x:V)(H:Hp):Prop:=match x with
 | .str _=>T="str"
 | .int _=>T="int"
 | .ref p=>(T="list"/\∃xs,Z5 K H p xs)\/(T="tuple"/\∃o,K.lookup p=some o/\o.cls = .type "tuple"/\o.dict=none) \/
  (T="dict"/\((∃kvs,H p=some (.dK kvs))\/∃kvs,H p=some (.dT kvs)))\/(T="set"/\∃S n,H p=some (.set S n))
 |_=>False
def DQ(I:Inv X pins σ H s)(r:RelV x v)(ty:pB X.K T x H):
 s.TypeIs v T/\∀a,v = .ref a->∃ob,s.heap.get? a=some ob/\ob.dict=none:=by
 cases x with
 |str z=>
  obtain⟨t,rfl⟩:=r;cases(show T="str" from ty);exact⟨typeIs_str s z t,λ_ e=>nomatch e⟩
 |int i=>
  obtain⟨t,rfl⟩:=r;cases(show T="int" from ty);exact⟨typeIs_int s i t,λ_ e=>nomatch e⟩
 |ref p=>
  cases r
  rcases ty with⟨rfl,xs,hq⟩|⟨rfl,o,hk,hc,hd⟩|⟨rfl,hk⟩|⟨rfl,S,n,hk⟩
  . obtain⟨its,_,pl,_⟩:=I.list hq;refine⟨pl.isList.typeIs,λa e=>?_⟩;cases e;obtain⟨o,n,e,c,hd,_⟩:=pl;exact⟨o,e,hd⟩
  . refine⟨⟨o,I.kIn p o hk,hc⟩,λa e=>?_⟩;cases e;exact⟨o,I.kIn _ o hk,hd⟩
  . have z:∃o,s.heap.get? p=some o/\o.ExactDict:=by
     rcases hk with⟨kvs,hk⟩|⟨kvs,hk⟩
     . obtain⟨_,_,_,_,o,_,_,e,ex,_⟩:=I.hok p _ hk;exact⟨o,e,ex⟩
     . obtain⟨_,_,_,_,o,_,_,e,ex,_⟩:=I.hok p _ hk;exact⟨o,e,ex⟩
    obtain⟨o,e,ex⟩:=z;refine⟨⟨o,e,ex.1⟩,λa e2=>?_⟩;cases e2;exact⟨o,e,ex.2.1⟩
  . obtain⟨o,_,_,_,e,ex,_⟩:=I.hok p _ hk;refine⟨⟨o,e,ex.1⟩,λa e2=>?_⟩;cases e2;exact⟨o,e,ex.2.1⟩
 |_=>exact False.elim ty
def pI(K:zzA)(T:String)(r:V->List V->Hp->VK->Prop)(to:TE)(t:TA):TE:=λσ H Q=>to σ H λx H1=>pB K T x H1/\t σ H1 λxs H2=>r x xs H2 Q
variable{o e:Expr}{es:List Expr}{to:TE}{t:TA}{name:Str}{apos cpos:Pos}{T id:String}{r:V->List V->Hp->VK->Prop}
def Jx(pa:PlainAttrs T)(slot:Slot T name id)(hty:typeOf (.builtin id)=pure (.type "method_descriptor"))(hm:rz X id r)(ho:PE X o to)(ha:PA X (e::es) t)
 (hbase:attributeBase o name X.env (eval o X.env)=eval o X.env:=by rfl)
 (hfew:((backTo cpos (starEach (e::es) X.env)).all (λx=>!x.1)&&(backToKw cpos (keywordEach [] X.env)).all (λx=>x.1.isSome)
  && decide ((e::es).length+([]:List Keyword).length+(if([]:List Keyword).isEmpty then 0 else 1)<30))=true:=by rfl)
 (hline:(apos.endLine==cpos.line)=true:=by rfl) (hs:starEach (e::es) X.env=(false,eval e X.env)::starEach es X.env:=by rfl) (hplain:(backTo cpos (starEach es X.env)).any (·.1)=false:=by rfl):
 PE X (.Call (.Attribute o name apos) (e::es) [] cpos) (pI X.K T r to t):=by
 intro a s σ H Q I h;refine wpAny_Call_method_late hbase hfew hline rfl (thn (ho a s σ H _ I h) λv f ⟨x,g,b,c,i,j⟩=>?_);obtain⟨k,l⟩:=DQ b c i;refine⟨T,id,pa,slot,hty,k,l, ?_⟩;have d:=ha cpos a f σ g _ b j;rw[hs]at d ⊢;refine Calls.callWith_builtin (by show(false||(backTo cpos (starEach es X.env)).any (·.1))=false;rw[hplain]<;>rfl) (Calls.evalArgs_plain ?_);exact thn d λm n ⟨p,q,u,w,y⟩=>hm a n σ q x p v m Q u c w y
end
end L2
namespace L2
open PySem PySem.Spec PyProof.Rows
def tB(X:Cx)(id:String)(r:V->List V->Hp->VK->Prop):Prop:=
 ∀(pins:List (Addr×Obj)) (s:Shared) (σ:St) (H:Hp) (x:V) (xs:List V) (v:Value) (us:List Value) (Q:VK),Inv X pins σ H s->RelV x v->z_ xs us->r x xs H Q->
  wpAny (model X.prog X.w) X.A (call (.builtin id) (v::us)) (EP X pins σ Q) X.xe s
def z_.one:∀{x:V}{us:List Value},z_ [x] us->∃u,us=[u]/\RelV x u
 |_,_,.cons r .nil=>⟨_,rfl,r⟩
def z_.two:∀{x y:V}{us:List Value},z_ [x,y] us->∃u v,us=[u,v]/\RelV x u/\RelV y v
 |_,_,_,.cons r (.cons q .nil)=>⟨_,_,rfl,r,q⟩
theorem z_.eraseIdx:∀{xs:List V}{us:List Value}(i:Nat),z_ xs us->z_ (xs.eraseIdx i) (us.eraseIdx i)
 |_,_,_,.nil=>.nil
 |_,_,0,.cons _ t=>t
 |_,_,i+1,.cons r t=>.cons r (z_.eraseIdx i t)
theorem z_.rep(h:z_ xs us):∀k:Nat,z_ (List.replicate k xs).flatten (List.replicate k us).flatten
 |0=>.nil
 |k+1=>by
  rw[List.replicate_succ,List.replicate_succ,List.flatten_cons,List.flatten_cons];exact z_.append h (z_.rep h k)
theorem Gj:∀(l:List α) (i:Nat),(l.eraseIdx i).length<=l.length
 | [],_=>zzN _
 |_::_,0=>zyX _
 |_::r,i+1=>Nat.succ_le_succ (Gj r i)
theorem foldl_rep(its:List Value):∀(k:Nat) (acc:List Value),
 List.foldl (λx1 x2=>x1++x2) acc.toArray (List.replicate k its.toArray)=(acc++(List.replicate k its).flatten).toArray
 |0,a=>by simp
 |k+1,a=>by
  have e:a.toArray++its.toArray=(a++its).toArray:=by simp
  have b:(a++its)++(List.replicate k its).flatten=a++(List.replicate (k+1) its).flatten:=by
   rw[List.replicate_succ,List.flatten_cons,zxD]
  rw[<-b,<-foldl_rep its k (a++its),<-e,List.replicate_succ,List.foldl_cons]
section
variable{X:Cx}{pins:List (Addr×Obj)}{σ:St}{H:Hp}{s:Shared}{l b:Addr}{xs ys zs:List V}
def Inv.lset{its its':List Value}{n:Nat}{f:Array Value->Array Value}{t':Nat}(I:Inv X pins σ H s)(hH:H l=some (.lst xs))
 (e:s.heap.get? l=some {cls:=.type "list",data:=.seq its.toArray n}) (hf:f its.toArray=its'.toArray) (hv:z_ ys its') (hz:ys.length<=sizeLine):
 Inv X pins σ (upd H l (.lst ys)) {s with heap:=s.heap.update l (Obj.mapSeq f),toks:=t'}:=by
 have q:=PySem.IsL.update e f;rw[hf]at q;refine I.write (x:=l) (e:=l) (by rw[hH];exact trivial) (.inl rfl) (λc u a b=>(Heap.get?_update_other s.heap (Obj.mapSeq f) (Ne.symm a)).trans b) ⟨_,q⟩ ?_;exact⟨hz,its',_,hv,q⟩
def Inv.lnew(I:Inv X pins σ H s)(hv:z_ ys its)(hz:ys.length<=sizeLine):
 Inv X pins σ (upd H s.heap.objs.size (.lst ys)) {s with heap:=s.heap.push {cls:=.type "list",data:=.seq its.toArray},toks:=t'}:=
 I.laid (λ_ _ q=>zxI _ q) (zzN _) ⟨hz,its,0,hv,zxK _ rfl⟩
theorem Inv.fresh(I:Inv X pins σ H s):H s.heap.objs.size=none:=I.hok.fresh (zzN _)
def Inv.lstM(I:Inv X pins σ H s)(hH:H l=some (.lst xs)):xs.length<=sizeLine/\∃(its:List Value) (n:Nat),z_ xs its/\xs.length=its.length/\s.heap.get? l=some {cls:=.type "list",data:=.seq its.toArray n}:=by
 obtain⟨z,a,n,r,e⟩:=I.hok l _ hH;exact⟨z,a,n,r,r.length,e⟩
def Nh(h:n<=sizeLine):Builtin.List.listTooLong n=false:=by
 unfold Builtin.List.listTooLong;exact zyG (by omega)
end
section
variable{X:Cx}
def Fv:V->List V->Hp->VK->Prop:=λx vs H Q=>∃l xs y,x = .ref l/\vs=[y]/\H l=some (.lst xs)/\xs.length<sizeLine/\Q .non (upd H l (.lst (xs++[y])))
def Bj:tB X "list.append" Fv:=by
 intro b s σ H x i v j Q I d f h;obtain⟨l,k,y,rfl,rfl,c,m,q⟩:=h;cases d;obtain⟨u,rfl,g⟩:=f.one;obtain⟨z,a,n,r,o,e⟩:=I.lstM c;refine call_meets F.slot_list_append ⟨_,e,rfl⟩ F.entry_list_append (F.args_list_append_2 _ _) (PySem.list_append l a.toArray n u (by rw[zzH];omega)) ⟨e, ?_⟩;refine⟨.non,_,I.lset (its':=a++[u]) c e (by simp) (r.append (.cons g .nil)) ?_,rfl,q⟩;rw[zzJ,List.length_singleton];omega
def EW:V->List V->Hp->VK->Prop:=λx vs H Q=>∃l b xs zs,x = .ref l/\vs=[.ref b]/\H l=some (.lst xs)/\H b=some (.lst zs)/\xs.length+zs.length<=sizeLine/\Q .non (upd H l (.lst (xs++zs)))
def BS:tB X "list.extend" EW:=by
 intro g s σ H x A v B Q I j k h;obtain⟨l,b,C,D,rfl,rfl,i,m,E,q⟩:=h;cases j;obtain⟨u,rfl,o⟩:=k.one;cases o;obtain⟨z,c,n,r,G,e⟩:=I.lstM i;obtain⟨J,a,p,t,w,y⟩:=I.lstM m;have f:c.toArray.size+a.toArray.size<=sizeLine:=by rw[zzH,zzH];omega
 have d:¬(!c.toArray.isEmpty&&Builtin.List.listTooLong (c.toArray.size+a.toArray.size))=true:=by
  rw[Nh f,Bool.and_false];exact zyW
 refine call_meets F.slot_list_extend ⟨_,e,rfl⟩ F.entry_list_extend (F.args_list_extend_2 _ _)
  (AutoSeq1.list_extend_list_list_0 l c.toArray n b a.toArray p d (by rw[zzH];omega) (by omega)) ⟨e,y, ?_⟩
 refine⟨.non,_,I.lset (its':=c++a) i e (by simp) (r.append t) ?_,rfl,q⟩;rw[zzJ];omega
def HA:V->List V->Hp->VK->Prop:=λx vs H Q=>∃l xs i k y,x = .ref l/\vs=[.int i]/\H l=some (.lst xs) /\ -(2 ^ 63)<=i/\i<2 ^ 63/\seqIndex? i xs.length=some k/\xs[k]? = some y/\Q y (upd H l (.lst (xs.eraseIdx k)))
def S9:tB X "list.pop" HA:=by
 intro c s σ H x E v G Q I f g h;obtain⟨l,j,i,k,y,rfl,rfl,d,m,o,p,A,q⟩:=h;cases f;obtain⟨u,rfl,B⟩:=g.one;obtain⟨t,rfl⟩:=B;obtain⟨z,a,n,r,C,e⟩:=I.lstM d;obtain⟨w,D,b⟩:=r.get A;refine call_meets F.slot_list_pop ⟨_,e,rfl⟩ F.entry_list_pop (F.args_list_pop_2 _ _)
  (MeetsSeq.list_pop_at l a.toArray n i t k w (fitsIndex_both m o) (by rw[zzH,<-C];exact p) (by rw[<-Array.getElem?_toList];exact D) (by rw[zzH];omega)) ⟨e, ?_⟩
 refine⟨y,_,I.lset (its':=a.eraseIdx k) d e ?_ (r.eraseIdx k) ?_,b,q⟩
 . show a.toArray.eraseIdxIfInBounds k=(a.eraseIdx k).toArray;rw[List.eraseIdxIfInBounds_toArray]
 . have:=Gj j k;omega
def len_rep(xs:List α)(k:Nat):(List.replicate k xs).flatten.length=k*xs.length:=by
 induction k with
 |zero=>simp
 |succ k a=>rw[List.replicate_succ,List.flatten_cons,zzJ,a,Nat.succ_mul,Nat.add_comm]
end
end L2
namespace Att
open PySem PySem.W PySem.Calls PyProof.Rows
def UQ:∀(ns:List Int) (vs:List Value),WellAll P h vs (ns.map WData.int)->IntsAre vs ns:=by
 intro c
 induction c with
 |nil=>
  intro d w;rw[List.map_nil]at w;cases w;exact .nil
 |cons n c e=>
  intro d w;rw[zyS]at w;cases w with
  |cons a b=>
   cases a;exact .cons _ _ (e _ b)
def BW{l:OpenLaw}{n:Nat}(hn:l.most=some n){P:Params}{h:Heap}{args:List WData}{vals:List Value}
 (hpre:l.row.toRowW.claim.pre args=true) (hwl:WellAll P h vals args):
 ∃a vs ns,vals=[Value.ref a]/\args=[WData.list (ns.map WData.int)]/\h.get? a=some {cls:=.type "list",data:=.seq vs.toArray}/\IntsAre vs ns/\ns.length<=n:=by
 have hsh:WShape.hasAll [] args [.list .int]=true:=(pre_splitW hpre).1;have hc:l.pre.holds [] {args:=args}=true:=(pre_splitW hpre).2;obtain⟨d,r,rfl,h1,h2⟩:=hasAllW_cons hsh;obtain rfl:=hasAllW_nil h2;obtain⟨xs,rfl,h3⟩:=hasW_list h1;obtain⟨ns,rfl⟩:=items_int h3;have hlen:ns.length<=n:=by
  unfold OpenLaw.pre at hc;have h4:(WTm.not (.lt (.lit (.int (n:Int))) (.len (.arg 0)))).holds [] {args:=[.list (ns.map .int)]}=true:=by
   have h4:=(holds_andW hc).1;rw[hn]at h4;exact h4
  have h5:=condW_of h4 (w_not (w_lt w_lit (w_len_list (w_arg rfl))));rw[zzB]at h5;refine Nat.le_of_not_lt λq=>?_;have q':(n:Int)<((ns.length:Nat):Int):=by omega
  first
   |(rw[zyO q']at h5;exact absurd h5 (by decide))
   |(simp at h5;omega)
 cases hwl with
 |cons w1 w2=>
  cases w2;cases w1 with
  |list ho hall=>exact⟨_,_,ns,rfl,rfl,ho,UQ ns _ hall,hlen⟩
def FY(l:OpenLaw)(args:List WData):l.row.toRowW.claim.post args (.bool true) args=true:=
 postW_of (r:=l.row.toRowW) (X:=(true==true))
  (show WShape.has [] (.bool true) .bool=true by first|rfl|decide|simp[WShape.has,WShape.arms,WShape.armsAll])
  (show(WTm.eq .res (.lit (.bool true))).value [] {args:=args,res:=some (.bool true),after:=args}=some (.bool (true==true))from w_eq_bool (w_res rfl) w_lit) rfl
def Mg{l:OpenLaw}{n:Nat}{q:Program}{loose:List Str}{XP:(Str->Option Value)->Heap->Prop}{YP:World->Heap->Prop}{d:DefRec}
 (hn:l.most=some n) (hdf:d.params.defaults=[])
 (call:∀(w:World) (s₀ s₁:Shared) (mg mb:Str->Option Value) (fa:Addr) (o:Obj) (pm cd doc:Value) (a:Addr) (vs:List Value) (ns:List Int),
  Ground q loose [] XP w s₀ mg mb s₁.heap->YP w s₁.heap->
  s₁.heap.get? fa=some o->o.data = .func (docDef d.name d.params d.body d.scope pm cd doc)->s₁.heap.CodeRec cd d.name->mg d.name=some (.ref fa)->
  s₁.heap.get? a=some {cls:=.type "list",data:=.seq vs.toArray}->IntsAre vs ns->ns.length<=n->s₁.gens = #[]->
  codeAny (model l.prog w) callerA (.call (.ref fa) ⟨[.ref a],[]⟩) (λr s'=>r = .ok (.ret (.bool true))/\OldK s₁.heap s'.heap/\s'.os=s₁.os/\AllBare s'.gens) s₁):
 WalkO q loose XP YP l.row.toRowW d [] (λf vs=>PySem.call f vs):=by
 intro w u v x y G Y z o A B h C kV D E i m j F p s as c t H k I;obtain rfl:C = .none:=Dflts.none m hdf;obtain rfl:kV = .none:=Dflts.noKw m;obtain⟨a,J,K,rfl,rfl,e,b,g⟩:=BW hn c k;refine enter_call (codeAny_mono (call w u v x y z o A B h a J K G Y D (fd_plain E) i j e b g F) λr Q L=>?_);obtain⟨rfl,M,N,O⟩:=L;exact⟨.inl ⟨.bool true,.bool true,[],rfl,λ_=>rfl,.bool true,FY l _,λ_=>⟨List.Pairwise.nil,λ_ P=>(nomatch P)⟩⟩,M,N,O⟩
end Att
namespace L2
open PySem PySem.Spec PyProof.Rows
theorem Zy:∀{vs:List Value}{ns:List Int},IntsAre vs ns->z_ (ns.map V.int) vs
 |_,_,.nil=>.nil
 |_,_,.cons n t h=>.cons ⟨t,rfl⟩ (Zy h)
def D9(H:Hp):Prop:=∀b,H b=none\/∃o xs,H b=some (.frz o (.lst xs))
def HD{P:Program}{w:World}{K:zzA}{mg mb:Str->Option Value}{CX:B2}{k:Nat}{fa a:Addr}{fd:FuncData}{x:Str}{sp:Sp}{s₁:Shared}{vs:List Value}{ns:List Int}
 (KX:K.In s₁.heap) (hns:s₁.heap.Ns mainGlobals mg) (hb:s₁.heap.Ns builtinsNs mb) (hbb:∀x:Str,x≠"__name__"->mb x=bootBuiltins x) (hlim:s₁.heap.NoLimit) (hg:s₁.gens = #[])
 (ha:s₁.heap.get? a=some {cls:=.type "list",data:=.seq vs.toArray}) (hi:IntsAre vs ns) (hl:ns.length<=sizeLine) (hr:Room k callerA)
 (F:∀base:Heap,K.In base->base.Ns mainGlobals mg->FnOk P w K mg base CX k fa fd [x] sp) (hbind:∀(s:Shared) (u:Value),BindsTo s fd ⟨[u],[]⟩ [(x,u)])
 (hsp:∀H:Hp,D9 H->SY K H a (ns.map V.int)->sp [.ref a] H (λv _=>v = .bl true) λ_ _ _=>False)
 (hCX:∀H e s',CX [] H s₁ (λ_ _ _=>False) e s'->False):
 codeAny (model P w) callerA (.call (.ref fa) ⟨[.ref a],[]⟩) (λr s'=>r = .ok (.ret (.bool true))/\OldK s₁.heap s'.heap/\s'.os=s₁.os/\AllBare s'.gens) s₁:=by
 have rv:=Zy hi;have lenV:=hi.length;have core:∀H:Hp,D9 H->SY K H a (ns.map V.int)->VF P w H s₁.heap->(∀b,H b≠none->b=a)->(H a≠none->K.lookup a=none)->
  codeAny (model P w) callerA (.call (.ref fa) ⟨[.ref a],[]⟩) (λr s'=>r = .ok (.ret (.bool true))/\OldK s₁.heap s'.heap/\s'.os=s₁.os/\AllBare s'.gens) s₁:=by
  intro H hO hS hok hA hK;have base_of:∀{b:Addr}{o:Obj},s₁.heap.get? b=some o->H b=none->(Lx s₁.heap H).get? b=some o:=λe n=>HJ e n;have noA:∀{b:Addr}{o:Obj}{es:Array DictEntry}{ep:Nat},s₁.heap.get? b=some o->o.data = .dict es ep->H b=none:=λ{b o es ep} e d=>by
   cases q:H b with
   |none=>rfl
   |some u=>
    have e':b=a:=hA b (by rw[q];simp);subst e';rw[ha]at e;cases e;have d':Data.seq vs.toArray _=Data.dict es ep:=d;cases d'
  have nsK:∀{b:Addr}{m:Str->Option Value},s₁.heap.Ns b m->(Lx s₁.heap H).Ns b m:=λ{b m} ⟨o,es,ep,e,d,r⟩=>⟨o,es,ep,base_of e (noA e d),d,r⟩;have hKb:K.In (Lx s₁.heap H):=λb o e=>base_of (KX b o e) (by
   cases q:H b with
   |none=>rfl
   |some u=>
    have e':b=a:=hA b (by rw[q];simp);subst e';rw[hK (by rw[q];simp)]at e;cases e)
  have hM:Mod K mg (Lx s₁.heap H):=⟨hKb,nsK hns,⟨mb,nsK hb,hbb⟩,let⟨mc,h1,h2⟩:=hlim;⟨mc,nsK h1,h2⟩⟩;have e0:Env0 P w K mg (Lx s₁.heap H) callerA [] s₁ H:=⟨rfl,hM,λb o e=>Iu e,Nat.le_of_eq (FS _ _),trivial,λb hb=>absurd (show b ∈ ([]:List Addr)from hb) (by simp),hok,.of_eq hg⟩;refine codeAny_mono ((F _ hKb (nsK hns)).run callerA [] s₁ H ⟨[.ref a],[]⟩ [.ref a] [.ref a] _ _ hr e0 (hbind s₁ (.ref a)) (.cons rfl .nil) (hsp H hO hS)) λr s' h=>?_;cases r with
  |error e=>exact(hCX H e s' h).elim
  |ok fl=>
   cases fl with
   |next=>exact False.elim h
   |brk=>exact False.elim h
   |cont=>exact False.elim h
   |ret u=>
    obtain⟨v,H',os,bare,un,hok',r',q⟩:=h;have q':v = .bl true:=q;subst q';obtain rfl:u=Value.bool true:=r';refine⟨rfl,OldK.of_keep λb o e=>?_,os,bare⟩;cases q:H b with
    |none=>exact un.keep b o e q (by intro z;exact absurd (show b ∈ ([]:List Addr)from z) (by simp)) (by simp)
    |some u=>
     rcases hO b with z|⟨ob,xs,z⟩
     . rw[q]at z;cases z
     . have z2:=un.frzs b ob _ z;obtain⟨e1,_⟩:=hok b _ z;obtain⟨e2,_⟩:=hok' b _ z2;rw[e]at e1;cases e1;exact e2
 cases hk:K.lookup a with
 |some o=>
  have e:=KX a o hk;rw[ha]at e;cases e;refine core (λ_=>none) (λ_=>.inl rfl) (.inr ⟨vs.toArray,_,hk,by rw[zzH,lenV];exact hl,by simpa using rv⟩) (λb u z=>by have z':(none:Option HO)=some u:=z;cases z') (λb z=>absurd rfl z) λz=>absurd rfl z
 |none=>
  refine core (λb=>if b=a then some (.frz {cls:=.type "list",data:=.seq vs.toArray} (.lst (ns.map V.int)))else none) (λb=>?_) (.inl (.inr ⟨{cls:=.type "list",data:=.seq vs.toArray},if_pos rfl⟩)) (λb u z=>?_) (λb z=>?_) λ_=>hk
  . by_cases hb:b=a
    . exact .inr ⟨_,_,if_pos hb⟩
    . exact .inl (if_neg hb)
  . by_cases hb:b=a
    . have z':=(if_pos hb).symm.trans z;cases z';subst hb;exact⟨ha,by rw[zzB];exact hl,vs,_,rv,ha⟩
    . have z':=(if_neg hb).symm.trans z;cases z'
  . by_cases hb:b=a
    . exact hb
    . exact absurd (if_neg hb) z
end L2
namespace L2
open PySem PySem.Spec PyProof.Rows
def walk_of{l:PySem.W.OpenLaw}{n k:Nat}{q:Program}{loose:List Str}{XP:(Str->Option Value)->Heap->Prop}{YP:World->Heap->Prop}{d:DefRec}{K:Params->zzA}{CX:World->B2}{sp:World->Sp}{x:Str}
 (hn:l.most=some n) (hn2:n<=sizeLine) (hdf:d.params.defaults=[]) (hr:Room k callerA)
 (hY:∀(w:World) (h:Heap),YP w h->(K w.params).In h)
 (F:∀(w:World) (mg:Str->Option Value) (fa:Addr) (h:Heap),(K w.params).In h->h.Ns mainGlobals mg->mg d.name=some (.ref fa)->
  ∃fd:FuncData,(∀(s:Shared) (u:Value),BindsTo s fd ⟨[u],[]⟩ [(x,u)])/\
   ∀base:Heap,(K w.params).In base->base.Ns mainGlobals mg->FnOk l.prog w (K w.params) mg base (CX w) k fa fd [x] (sp w))
 (hsp:∀(w:World) (H:Hp) (a:Addr) (ns:List Int),ns.length<=n->D9 H->SY (K w.params) H a (ns.map V.int)->sp w [.ref a] H (λv _=>v = .bl true) λ_ _ _=>False)
 (hCX:∀(w:World) (H:Hp) (s:Shared) (e:Value) (s':Shared),CX w [] H s (λ_ _ _=>False) e s'->False):
 PySem.W.WalkO q loose XP YP l.row.toRowW d [] (λf vs=>PySem.call f vs):=by
 refine Att.Mg hn hdf λw M r t N y o O P z a Q A G Y R S B m j i c C=>?_;have p:=hY w _ Y;obtain⟨fd,D,E⟩:=F w t y _ p G.T.g m;exact HD p G.T.g G.T.b G.T.builtins G.T.nolimit C j i (zzO c hn2) hr E D (λH I J=>hsp w H a A c I J) λH e L=>hCX w H r e L
end L2
namespace L2
open PySem PySem.Spec PyProof.Rows
def Rb(s:Stmt):Arguments:=match s with
 | .FunctionDef _ a _ _ _ _ _ _ _ _=>a
 |_=>{posonlyargs:=[],args:=[],vararg:=none,kwonlyargs:=[],kw_defaults:=[],kwarg:=none,defaults:=[]}
def Yg(s:Stmt):List Stmt:=match s with
 | .FunctionDef _ _ b _ _ _ _ _ _ _=>b
 |_=>[]
def zr(s:Stmt):Scope:=match s with
 | .FunctionDef _ _ _ _ _ _ sc _ _ _=>sc
 |_=>{kind:=.function,names:=[],isGenerator:=false,isCoroutine:=false}
abbrev B4:B2:=λ_ _ _ _ _ _=>False
abbrev E0:XK:=λ_ _ _=>False
def su:Ls B4 X E0:=λ_ _ _ _ _ _ _ h=>h.elim
structure Fun(K:zzA)(x qual:Str)(st:Stmt)(f:Addr)(fd:FuncData):Prop where
 ex:∃(oc:Value) (od:Option Addr) (kV doc pm:Value) (an:Option Addr) (cdv ct:Value) (osl:Array (Option Value)),
  fd=PySem.W.fnOf x qual (Rb st) (Yg st) (zr st) .none kV doc pm an cdv ct/\K.lookup f=some ⟨oc,od,.func fd,osl⟩/\PySem.W.codeIn K cdv qual=true
 kp:PySem.W.keepIn K (.ref f)=true
section
variable{P:Program}{w:World}{K:zzA}{mg:Str->Option Value}{base:Heap}
def Fun.ok{x qual:Str}{st:Stmt}{f:Addr}{fd:FuncData}{N ps:List Str}{k:Nat}{sp:Sp}(F:Fun K x qual st f fd)(S:FnScope N ps (zr st))(len:∀vs H Q E,sp vs H Q E->vs.length=ps.length)
 (hbody:∀(cdv:Value) (A:Around) (outer:List Env) (s:Shared) (H:Hp) (vs:List V) (Q:VK) (E:XK),Room k (A.deeper (envOfC qual (zr st) s.heap.objs.size f cdv))->sp vs H Q E->
  ∃t,Mo (NP B4 P w K mg base N qual (zr st) f cdv A outer s H E).nox (Yg st) t/\t {nx:=λ_ H'=>Q .non H',rt:=Q} (start N vs) H):FnOk P w K mg base B4 (k+1) f fd ps sp:=by
 obtain⟨m,n,kV,e,o,p,b,r,g,rfl,i,c⟩:=F.ex;refine uG i c S len λA a s H j Q E l d=>?_;obtain⟨t,h,q⟩:=hbody b A a s H j Q E l d;exact⟨t,h.nox,q⟩
def Fun.binds{x qual:Str}{st:Stmt}{f:Addr}{fd:FuncData}{ps:List Str}(F:Fun K x qual st f fd)
 (h:∀(kV doc pm:Value) (an:Option Addr) (cdv ct:Value) (us:List Value),us.length=ps.length->bindArgs (PySem.W.fnOf x qual (Rb st) (Yg st) (zr st) .none kV doc pm an cdv ct) ⟨us,[]⟩=pure (ps.zip us)):Binds K fd ps []:=by
 obtain⟨j,k,kV,a,c,d,b,e,g,rfl,l,i⟩:=F.ex;exact .all (h kV a c d b e)
end
def Fu(hr:Room k A):A.units+1<cLine:=Nat.lt_of_le_of_lt (Nat.add_le_add_left (by decide:1<=64) _) hr.units
def xF(h:n<=1000):n<sizeLine:=Nat.lt_of_le_of_lt h (by decide)
section
variable{X:Cx}
def pv(i:Nat)(hN:X.N[i]? = some x:=by rfl)(hv:uX X.env.scope x:=by first|exact Or.inl rfl|exact Or.inr (Or.inl rfl)|exact Or.inr (Or.inr rfl))(hd:(x==("__debug__":Str))=false:=by decide)
 (hcd:(x==("__classdict__":Str))=false:=by decide):PE X (.Name x pos) (WZ i):=B7 hN hv hd hcd
end
end L2
end
section
namespace G57
open PySem PySem.W PyProof.Rows L2
def top(i:Nat):Stmt:=PySem.Challenge.pw_stretchdeeds_k57_least_of_least.main.body.getD i (.Pass ⟨0,0,0,0⟩)
abbrev Z_:Stmt:=top 4
abbrev Zi:Stmt:=top 6
abbrev Qc:Stmt:=top 7
abbrev xU:Stmt:=top 8
abbrev xY:Stmt:=top 9
abbrev wU:Stmt:=top 10
abbrev vA:Stmt:=top 11
abbrev vH:Stmt:=top 12
abbrev wA:Stmt:=top 13
abbrev Zb:Stmt:=top 15
abbrev wz:Stmt:=top 16
abbrev vC:Stmt:=top 17
abbrev ZO:Stmt:=top 19
abbrev ZL:Stmt:=top 20
abbrev xX:Stmt:=top 21
abbrev xZ:Stmt:=top 22
abbrev Yi:Stmt:=top 23
abbrev Z4:Stmt:=top 24
abbrev vK:Stmt:=top 25
abbrev vG:Stmt:=top 26
abbrev vE:Stmt:=top 27
abbrev vz:Stmt:=top 28
abbrev w9:Stmt:=top 30
abbrev Y5:Stmt:=top 31
abbrev vt:Stmt:=top 32
abbrev Zj:Stmt:=top 33
abbrev wW:Stmt:=top 34
abbrev Z8:Stmt:=top 35
abbrev vv:Stmt:=top 36
abbrev Z2:Stmt:=top 37
abbrev Zl:Stmt:=top 38
abbrev Z9:Stmt:=top 39
abbrev Zd:Stmt:=top 40
abbrev vF:Stmt:=top 41
abbrev ZM:Stmt:=top 42
abbrev v9:Stmt:=top 43
abbrev vY:Stmt:=top 44
abbrev wY:Stmt:=top 45
abbrev wO:Stmt:=top 46
abbrev vL:Stmt:=top 47
abbrev x5:Stmt:=top 48
abbrev XD:Stmt:=top 49
abbrev wR:Stmt:=top 50
abbrev Zh:Stmt:=top 51
abbrev Zk:Stmt:=top 52
abbrev ZZ:Stmt:=top 53
abbrev XF:Stmt:=top 54
abbrev wX:Stmt:=top 55
abbrev FD:Stmt:=top 56
abbrev kF(n q:Str)(s:Stmt)(pm cd:Value):Obj:=⟨.type "function",none,.func (fnOf n q (Rb s) (Yg s) (zr s) .none .none .none pm none cd .none),#[]⟩
abbrev kC(n:Str)(a:Nat)(q:Str)(b c:Nat)(i3 i4 i5 i6 i7:Int)(r8:Addr)(b9:Bool)(i10:Int)(r11 r13 r14 r15:Addr)(i16 i17:Int)(d:Nat):Obj:=⟨.type "code",none,.fields #[.str n a,.str q b,.str "/claim/cut.py" c,.int i3 0,.int i4 0,.int i5 0,.int i6 0,.int i7 0,.ref r8,.bool b9,.int i10 0,.ref r11,.none,.ref r13,.ref r14,.ref r15,.int i16 0,.int i17 0,.str "/claim/cut.py" d],#[]⟩
abbrev kD(es:List DictEntry)(n:Nat):Obj:=⟨.type "dict",none,.dict es.toArray n,#[]⟩
abbrev kE(P:Params)(x:Str)(t:Nat)(v:Value):DictEntry:=⟨PyData.keyHash P x,.str x t,v⟩
abbrev kR(P:Params)(x:Str)(t:Nat)(a:Addr):DictEntry:=kE P x t (.ref a)
noncomputable def K(P:Params):Frag:=
 (nat_lit 3,kD [kE P "__name__" 165 (.str "law_stretchdeeds_k57_least_of_least" 429),kE P "__doc__" 166 .none,kE P "__package__" 167 .none,kE P "__loader__" 168 (.builtin "__main__.__loader__#opaque"),kE P "__spec__" 169 .none,kR P "__annotations__" 170 6,kR P "__builtins__" 171 4,kE P "__file__" 173 (.str "/claim/cut.py" 172),kE P "__cached__" 174 .none,kR P "StretchError" 206 24,kR P "NotLetBy" 231 44,kR P "is_whole" 240 53,kR P "is_within" 251 60,kR P "is_row" 257 65,kR P "nothing_fails" 267 72,kR P "parting_fails" 279 79,kR P "doing_fails" 295 86,kR P "deeds_fail" 306 93,kR P "what_fails" 314 100,kR P "check_let_by" 322 107,kR P "all_steps" 330 112,kR P "telling_sign" 341 119,kR P "told_apart" 359 126,kR P "numbered" 367 131,kR P "signs_of" 373 136,kR P "class_numbers" 379 141,kR P "least_algebra" 385 146,kR P "names_of" 391 151,kR P "are_akin" 399 158,kR P "keeps_join" 410 165,kR P "keeps_rows" 416 170,kR P "keeps_sign" 422 175,kR P "is_picture" 428 180,kR P "_law_cell_at" 438 187,kR P "_law_whole" 445 194,kR P "_law_stream" 456 201,kR P "_law_names" 462 206,kR P "_law_divisor" 470 213,kR P "_law_sums" 476 218,kR P "_law_rising" 482 223,kR P "_law_kept" 488 228,kR P "_law_joins" 494 233,kR P "_law_rows" 500 238,kR P "_law_plain" 506 243,kR P "_law_beside" 512 248,kR P "_law_made" 526 255,kR P "_law_order" 537 262,kR P "_law_signs" 543 267,kR P "_law_algebra" 549 272,kR P "_law_bent" 555 277,kR P "_law_digits" 566 284,kR P "_law_by_digits" 572 289,kR P "_law_any" 581 296,kR P "_law_parting" 593 303,kR P "_law_doing" 611 310,kR P "_law_fails" 627 317,kR P "_law_good" 635 324,kR P "_law_few" 641 329,kR P "_law_renamed" 647 334,kR P "law" 653 339] 60) ::
 (nat_lit 52,kC "is_whole" 234 "is_whole" 235 236 10 1 0 0 3 47 true 181 48 49 50 51 238 10 239) ::
 (nat_lit 53,kF "is_whole" "is_whole" Z_ (.str "stretchdeeds.terms" 232) (.ref 52)) ::
 (nat_lit 59,kC "is_within" 243 "is_within" 244 245 13 3 0 0 3 54 true 181 55 56 57 58 249 13 250) ::
 (nat_lit 60,kF "is_within" "is_within" Zi (.str "stretchdeeds.algebras" 241) (.ref 59)) ::
 (nat_lit 64,⟨.type "code",none,.fields #[(.str "is_row" 252),(.str "is_row" 253),(.str "/claim/cut.py" 254),(.int (15) 0),(.int (2) 0),(.int (0) 0),(.int (0) 0),(.int (3) 0),(.ref 61),(.bool true),(.int (181) 0),(.ref 62),.none,.none,.none,(.ref 63),(.int (255) 0),(.int (15) 0),(.str "/claim/cut.py" 256)],#[]⟩) ::
 (nat_lit 65,kF "is_row" "is_row" Qc (.str "stretchdeeds.algebras" 241) (.ref 64)) ::
 (nat_lit 71,kC "nothing_fails" 258 "nothing_fails" 259 260 17 1 0 0 3 66 true 181 67 68 69 70 265 17 266) ::
 (nat_lit 72,kF "nothing_fails" "nothing_fails" xU (.str "stretchdeeds.algebras" 241) (.ref 71)) ::
 (nat_lit 78,kC "parting_fails" 268 "parting_fails" 269 270 24 1 0 0 3 73 true 181 74 75 76 77 277 24 278) ::
 (nat_lit 79,kF "parting_fails" "parting_fails" xY (.str "stretchdeeds.algebras" 241) (.ref 78)) ::
 (nat_lit 85,kC "doing_fails" 280 "doing_fails" 281 282 33 3 0 0 3 80 true 181 81 82 83 84 293 33 294) ::
 (nat_lit 86,kF "doing_fails" "doing_fails" wU (.str "stretchdeeds.algebras" 241) (.ref 85)) ::
 (nat_lit 92,kC "deeds_fail" 296 "deeds_fail" 297 298 44 1 0 0 3 87 true 181 88 89 90 91 304 44 305) ::
 (nat_lit 93,kF "deeds_fail" "deeds_fail" vA (.str "stretchdeeds.algebras" 241) (.ref 92)) ::
 (nat_lit 99,kC "what_fails" 307 "what_fails" 308 309 53 1 0 0 3 94 true 181 95 96 97 98 312 53 313) ::
 (nat_lit 100,kF "what_fails" "what_fails" vH (.str "stretchdeeds.algebras" 241) (.ref 99)) ::
 (nat_lit 106,kC "check_let_by" 315 "check_let_by" 316 317 60 1 0 0 3 101 true 181 102 103 104 105 320 60 321) ::
 (nat_lit 107,kF "check_let_by" "check_let_by" wA (.str "stretchdeeds.algebras" 241) (.ref 106)) ::
 (nat_lit 111,⟨.type "code",none,.fields #[(.str "all_steps" 325),(.str "all_steps" 326),(.str "/claim/cut.py" 327),(.int (65) 0),(.int (1) 0),(.int (0) 0),(.int (0) 0),(.int (3) 0),(.ref 108),(.bool true),(.int (181) 0),(.ref 109),.none,.none,.none,(.ref 110),(.int (328) 0),(.int (65) 0),(.str "/claim/cut.py" 329)],#[]⟩) ::
 (nat_lit 112,kF "all_steps" "all_steps" Zb (.str "stretchdeeds.alikes" 323) (.ref 111)) ::
 (nat_lit 118,kC "telling_sign" 331 "telling_sign" 332 333 72 3 0 0 3 113 true 181 114 115 116 117 339 72 340) ::
 (nat_lit 119,kF "telling_sign" "telling_sign" wz (.str "stretchdeeds.alikes" 323) (.ref 118)) ::
 (nat_lit 125,kC "told_apart" 342 "told_apart" 343 344 77 3 0 0 3 120 true 181 121 122 123 124 357 77 358) ::
 (nat_lit 126,kF "told_apart" "told_apart" vC (.str "stretchdeeds.alikes" 323) (.ref 125)) ::
 (nat_lit 130,⟨.type "code",none,.fields #[(.str "numbered" 362),(.str "numbered" 363),(.str "/claim/cut.py" 364),(.int (95) 0),(.int (1) 0),(.int (0) 0),(.int (0) 0),(.int (3) 0),(.ref 127),(.bool true),(.int (181) 0),(.ref 128),.none,.none,.none,(.ref 129),(.int (365) 0),(.int (95) 0),(.str "/claim/cut.py" 366)],#[]⟩) ::
 (nat_lit 131,kF "numbered" "numbered" ZO (.str "stretchdeeds.leasts" 360) (.ref 130)) ::
 (nat_lit 135,⟨.type "code",none,.fields #[(.str "signs_of" 368),(.str "signs_of" 369),(.str "/claim/cut.py" 370),(.int (100) 0),(.int (2) 0),(.int (0) 0),(.int (0) 0),(.int (3) 0),(.ref 132),(.bool true),(.int (181) 0),(.ref 133),.none,.none,.none,(.ref 134),(.int (371) 0),(.int (100) 0),(.str "/claim/cut.py" 372)],#[]⟩) ::
 (nat_lit 136,kF "signs_of" "signs_of" ZL (.str "stretchdeeds.leasts" 360) (.ref 135)) ::
 (nat_lit 140,⟨.type "code",none,.fields #[(.str "class_numbers" 374),(.str "class_numbers" 375),(.str "/claim/cut.py" 376),(.int (102) 0),(.int (1) 0),(.int (0) 0),(.int (0) 0),(.int (3) 0),(.ref 137),(.bool true),(.int (181) 0),(.ref 138),.none,.none,.none,(.ref 139),(.int (377) 0),(.int (102) 0),(.str "/claim/cut.py" 378)],#[]⟩) ::
 (nat_lit 141,kF "class_numbers" "class_numbers" xX (.str "stretchdeeds.leasts" 360) (.ref 140)) ::
 (nat_lit 145,⟨.type "code",none,.fields #[(.str "least_algebra" 380),(.str "least_algebra" 381),(.str "/claim/cut.py" 382),(.int (111) 0),(.int (1) 0),(.int (0) 0),(.int (0) 0),(.int (3) 0),(.ref 142),(.bool true),(.int (181) 0),(.ref 143),.none,.none,.none,(.ref 144),(.int (383) 0),(.int (111) 0),(.str "/claim/cut.py" 384)],#[]⟩) ::
 (nat_lit 146,kF "least_algebra" "least_algebra" xZ (.str "stretchdeeds.leasts" 360) (.ref 145)) ::
 (nat_lit 150,⟨.type "code",none,.fields #[(.str "names_of" 386),(.str "names_of" 387),(.str "/claim/cut.py" 388),(.int (119) 0),(.int (1) 0),(.int (0) 0),(.int (0) 0),(.int (3) 0),(.ref 147),(.bool true),(.int (181) 0),(.ref 148),.none,.none,.none,(.ref 149),(.int (389) 0),(.int (119) 0),(.str "/claim/cut.py" 390)],#[]⟩) ::
 (nat_lit 151,kF "names_of" "names_of" Yi (.str "stretchdeeds.leasts" 360) (.ref 150)) ::
 (nat_lit 157,kC "are_akin" 392 "are_akin" 393 394 121 2 0 0 3 152 true 181 153 154 155 156 397 121 398) ::
 (nat_lit 158,kF "are_akin" "are_akin" Z4 (.str "stretchdeeds.leasts" 360) (.ref 157)) ::
 (nat_lit 164,kC "keeps_join" 400 "keeps_join" 401 402 125 3 0 0 3 159 true 181 160 161 162 163 408 125 409) ::
 (nat_lit 165,kF "keeps_join" "keeps_join" vK (.str "stretchdeeds.leasts" 360) (.ref 164)) ::
 (nat_lit 169,⟨.type "code",none,.fields #[(.str "keeps_rows" 411),(.str "keeps_rows" 412),(.str "/claim/cut.py" 413),(.int (131) 0),(.int (3) 0),(.int (0) 0),(.int (0) 0),(.int (3) 0),(.ref 166),(.bool true),(.int (181) 0),(.ref 167),.none,.none,.none,(.ref 168),(.int (414) 0),(.int (131) 0),(.str "/claim/cut.py" 415)],#[]⟩) ::
 (nat_lit 170,kF "keeps_rows" "keeps_rows" vG (.str "stretchdeeds.leasts" 360) (.ref 169)) ::
 (nat_lit 174,⟨.type "code",none,.fields #[(.str "keeps_sign" 417),(.str "keeps_sign" 418),(.str "/claim/cut.py" 419),(.int (136) 0),(.int (3) 0),(.int (0) 0),(.int (0) 0),(.int (3) 0),(.ref 171),(.bool true),(.int (181) 0),(.ref 172),.none,.none,.none,(.ref 173),(.int (420) 0),(.int (136) 0),(.str "/claim/cut.py" 421)],#[]⟩) ::
 (nat_lit 175,kF "keeps_sign" "keeps_sign" vE (.str "stretchdeeds.leasts" 360) (.ref 174)) ::
 (nat_lit 179,⟨.type "code",none,.fields #[(.str "is_picture" 423),(.str "is_picture" 424),(.str "/claim/cut.py" 425),(.int (138) 0),(.int (3) 0),(.int (0) 0),(.int (0) 0),(.int (3) 0),(.ref 176),(.bool true),(.int (181) 0),(.ref 177),.none,.none,.none,(.ref 178),(.int (426) 0),(.int (138) 0),(.str "/claim/cut.py" 427)],#[]⟩) ::
 (nat_lit 180,kF "is_picture" "is_picture" vz (.str "stretchdeeds.leasts" 360) (.ref 179)) ::
 (nat_lit 186,kC "_law_cell_at" 431 "_law_cell_at" 432 433 147 2 0 0 3 181 true 181 182 183 184 185 436 147 437) ::
 (nat_lit 187,kF "_law_cell_at" "_law_cell_at" w9 (.str "law_stretchdeeds_k57_least_of_least" 429) (.ref 186)) ::
 (nat_lit 193,kC "_law_whole" 439 "_law_whole" 440 441 151 1 0 0 3 188 true 181 189 190 191 192 443 151 444) ::
 (nat_lit 194,kF "_law_whole" "_law_whole" Y5 (.str "law_stretchdeeds_k57_least_of_least" 429) (.ref 193)) ::
 (nat_lit 200,kC "_law_stream" 446 "_law_stream" 447 448 153 2 0 0 3 195 true 181 196 197 198 199 454 153 455) ::
 (nat_lit 201,kF "_law_stream" "_law_stream" vt (.str "law_stretchdeeds_k57_least_of_least" 429) (.ref 200)) ::
 (nat_lit 205,⟨.type "code",none,.fields #[(.str "_law_names" 457),(.str "_law_names" 458),(.str "/claim/cut.py" 459),(.int (160) 0),(.int (2) 0),(.int (0) 0),(.int (0) 0),(.int (3) 0),(.ref 202),(.bool true),(.int (181) 0),(.ref 203),.none,.none,.none,(.ref 204),(.int (460) 0),(.int (160) 0),(.str "/claim/cut.py" 461)],#[]⟩) ::
 (nat_lit 206,kF "_law_names" "_law_names" Zj (.str "law_stretchdeeds_k57_least_of_least" 429) (.ref 205)) ::
 (nat_lit 212,kC "_law_divisor" 463 "_law_divisor" 464 465 169 2 0 0 3 207 true 181 208 209 210 211 468 169 469) ::
 (nat_lit 213,kF "_law_divisor" "_law_divisor" wW (.str "law_stretchdeeds_k57_least_of_least" 429) (.ref 212)) ::
 (nat_lit 217,⟨.type "code",none,.fields #[(.str "_law_sums" 471),(.str "_law_sums" 472),(.str "/claim/cut.py" 473),(.int (173) 0),(.int (3) 0),(.int (0) 0),(.int (0) 0),(.int (3) 0),(.ref 214),(.bool true),(.int (181) 0),(.ref 215),.none,.none,.none,(.ref 216),(.int (474) 0),(.int (173) 0),(.str "/claim/cut.py" 475)],#[]⟩) ::
 (nat_lit 218,kF "_law_sums" "_law_sums" Z8 (.str "law_stretchdeeds_k57_least_of_least" 429) (.ref 217)) ::
 (nat_lit 222,⟨.type "code",none,.fields #[(.str "_law_rising" 477),(.str "_law_rising" 478),(.str "/claim/cut.py" 479),(.int (179) 0),(.int (3) 0),(.int (0) 0),(.int (0) 0),(.int (3) 0),(.ref 219),(.bool true),(.int (181) 0),(.ref 220),.none,.none,.none,(.ref 221),(.int (480) 0),(.int (179) 0),(.str "/claim/cut.py" 481)],#[]⟩) ::
 (nat_lit 223,kF "_law_rising" "_law_rising" vv (.str "law_stretchdeeds_k57_least_of_least" 429) (.ref 222)) ::
 (nat_lit 227,⟨.type "code",none,.fields #[(.str "_law_kept" 483),(.str "_law_kept" 484),(.str "/claim/cut.py" 485),(.int (183) 0),(.int (3) 0),(.int (0) 0),(.int (0) 0),(.int (3) 0),(.ref 224),(.bool true),(.int (181) 0),(.ref 225),.none,.none,.none,(.ref 226),(.int (486) 0),(.int (183) 0),(.str "/claim/cut.py" 487)],#[]⟩) ::
 (nat_lit 228,kF "_law_kept" "_law_kept" Z2 (.str "law_stretchdeeds_k57_least_of_least" 429) (.ref 227)) ::
 (nat_lit 232,⟨.type "code",none,.fields #[(.str "_law_joins" 489),(.str "_law_joins" 490),(.str "/claim/cut.py" 491),(.int (186) 0),(.int (2) 0),(.int (0) 0),(.int (0) 0),(.int (3) 0),(.ref 229),(.bool true),(.int (181) 0),(.ref 230),.none,.none,.none,(.ref 231),(.int (492) 0),(.int (186) 0),(.str "/claim/cut.py" 493)],#[]⟩) ::
 (nat_lit 233,kF "_law_joins" "_law_joins" Zl (.str "law_stretchdeeds_k57_least_of_least" 429) (.ref 232)) ::
 (nat_lit 237,⟨.type "code",none,.fields #[(.str "_law_rows" 495),(.str "_law_rows" 496),(.str "/claim/cut.py" 497),(.int (197) 0),(.int (4) 0),(.int (0) 0),(.int (0) 0),(.int (3) 0),(.ref 234),(.bool true),(.int (181) 0),(.ref 235),.none,.none,.none,(.ref 236),(.int (498) 0),(.int (197) 0),(.str "/claim/cut.py" 499)],#[]⟩) ::
 (nat_lit 238,kF "_law_rows" "_law_rows" Z9 (.str "law_stretchdeeds_k57_least_of_least" 429) (.ref 237)) ::
 (nat_lit 242,⟨.type "code",none,.fields #[(.str "_law_plain" 501),(.str "_law_plain" 502),(.str "/claim/cut.py" 503),(.int (205) 0),(.int (5) 0),(.int (0) 0),(.int (0) 0),(.int (3) 0),(.ref 239),(.bool true),(.int (181) 0),(.ref 240),.none,.none,.none,(.ref 241),(.int (504) 0),(.int (205) 0),(.str "/claim/cut.py" 505)],#[]⟩) ::
 (nat_lit 243,kF "_law_plain" "_law_plain" Zd (.str "law_stretchdeeds_k57_least_of_least" 429) (.ref 242)) ::
 (nat_lit 247,⟨.type "code",none,.fields #[(.str "_law_beside" 507),(.str "_law_beside" 508),(.str "/claim/cut.py" 509),(.int (208) 0),(.int (3) 0),(.int (0) 0),(.int (0) 0),(.int (3) 0),(.ref 244),(.bool true),(.int (181) 0),(.ref 245),.none,.none,.none,(.ref 246),(.int (510) 0),(.int (208) 0),(.str "/claim/cut.py" 511)],#[]⟩) ::
 (nat_lit 248,kF "_law_beside" "_law_beside" vF (.str "law_stretchdeeds_k57_least_of_least" 429) (.ref 247)) ::
 (nat_lit 254,kC "_law_made" 513 "_law_made" 514 515 227 3 0 0 3 249 true 181 250 251 252 253 524 227 525) ::
 (nat_lit 255,kF "_law_made" "_law_made" ZM (.str "law_stretchdeeds_k57_least_of_least" 429) (.ref 254)) ::
 (nat_lit 261,kC "_law_order" 527 "_law_order" 528 529 240 2 0 0 3 256 true 181 257 258 259 260 535 240 536) ::
 (nat_lit 262,kF "_law_order" "_law_order" v9 (.str "law_stretchdeeds_k57_least_of_least" 429) (.ref 261)) ::
 (nat_lit 266,⟨.type "code",none,.fields #[(.str "_law_signs" 538),(.str "_law_signs" 539),(.str "/claim/cut.py" 540),(.int (246) 0),(.int (3) 0),(.int (0) 0),(.int (0) 0),(.int (3) 0),(.ref 263),(.bool true),(.int (181) 0),(.ref 264),.none,.none,.none,(.ref 265),(.int (541) 0),(.int (246) 0),(.str "/claim/cut.py" 542)],#[]⟩) ::
 (nat_lit 267,kF "_law_signs" "_law_signs" vY (.str "law_stretchdeeds_k57_least_of_least" 429) (.ref 266)) ::
 (nat_lit 271,⟨.type "code",none,.fields #[(.str "_law_algebra" 544),(.str "_law_algebra" 545),(.str "/claim/cut.py" 546),(.int (251) 0),(.int (2) 0),(.int (0) 0),(.int (0) 0),(.int (3) 0),(.ref 268),(.bool true),(.int (181) 0),(.ref 269),.none,.none,.none,(.ref 270),(.int (547) 0),(.int (251) 0),(.str "/claim/cut.py" 548)],#[]⟩) ::
 (nat_lit 272,kF "_law_algebra" "_law_algebra" wY (.str "law_stretchdeeds_k57_least_of_least" 429) (.ref 271)) ::
 (nat_lit 276,⟨.type "code",none,.fields #[(.str "_law_bent" 550),(.str "_law_bent" 551),(.str "/claim/cut.py" 552),(.int (269) 0),(.int (2) 0),(.int (0) 0),(.int (0) 0),(.int (3) 0),(.ref 273),(.bool true),(.int (181) 0),(.ref 274),.none,.none,.none,(.ref 275),(.int (553) 0),(.int (269) 0),(.str "/claim/cut.py" 554)],#[]⟩) ::
 (nat_lit 277,kF "_law_bent" "_law_bent" wO (.str "law_stretchdeeds_k57_least_of_least" 429) (.ref 276)) ::
 (nat_lit 283,kC "_law_digits" 556 "_law_digits" 557 558 283 3 0 0 3 278 true 181 279 280 281 282 564 283 565) ::
 (nat_lit 284,kF "_law_digits" "_law_digits" vL (.str "law_stretchdeeds_k57_least_of_least" 429) (.ref 283)) ::
 (nat_lit 288,⟨.type "code",none,.fields #[(.str "_law_by_digits" 567),(.str "_law_by_digits" 568),(.str "/claim/cut.py" 569),(.int (289) 0),(.int (2) 0),(.int (0) 0),(.int (0) 0),(.int (3) 0),(.ref 285),(.bool true),(.int (181) 0),(.ref 286),.none,.none,.none,(.ref 287),(.int (570) 0),(.int (289) 0),(.str "/claim/cut.py" 571)],#[]⟩) ::
 (nat_lit 289,kF "_law_by_digits" "_law_by_digits" x5 (.str "law_stretchdeeds_k57_least_of_least" 429) (.ref 288)) ::
 (nat_lit 295,kC "_law_any" 573 "_law_any" 574 575 298 1 0 0 3 290 true 181 291 292 293 294 579 298 580) ::
 (nat_lit 296,kF "_law_any" "_law_any" XD (.str "law_stretchdeeds_k57_least_of_least" 429) (.ref 295)) ::
 (nat_lit 302,kC "_law_parting" 582 "_law_parting" 583 584 304 3 0 0 3 297 true 181 298 299 300 301 591 304 592) ::
 (nat_lit 303,kF "_law_parting" "_law_parting" wR (.str "law_stretchdeeds_k57_least_of_least" 429) (.ref 302)) ::
 (nat_lit 309,kC "_law_doing" 594 "_law_doing" 595 596 314 5 0 0 3 304 true 181 305 306 307 308 609 314 610) ::
 (nat_lit 310,kF "_law_doing" "_law_doing" Zh (.str "law_stretchdeeds_k57_least_of_least" 429) (.ref 309)) ::
 (nat_lit 316,kC "_law_fails" 612 "_law_fails" 613 614 323 1 0 0 3 311 true 181 312 313 314 315 625 323 626) ::
 (nat_lit 317,kF "_law_fails" "_law_fails" Zk (.str "law_stretchdeeds_k57_least_of_least" 429) (.ref 316)) ::
 (nat_lit 323,kC "_law_good" 628 "_law_good" 629 630 332 1 0 0 3 318 true 181 319 320 321 322 633 332 634) ::
 (nat_lit 324,kF "_law_good" "_law_good" ZZ (.str "law_stretchdeeds_k57_least_of_least" 429) (.ref 323)) ::
 (nat_lit 328,⟨.type "code",none,.fields #[(.str "_law_few" 636),(.str "_law_few" 637),(.str "/claim/cut.py" 638),(.int (337) 0),(.int (2) 0),(.int (0) 0),(.int (0) 0),(.int (3) 0),(.ref 325),(.bool true),(.int (181) 0),(.ref 326),.none,.none,.none,(.ref 327),(.int (639) 0),(.int (337) 0),(.str "/claim/cut.py" 640)],#[]⟩) ::
 (nat_lit 329,kF "_law_few" "_law_few" XF (.str "law_stretchdeeds_k57_least_of_least" 429) (.ref 328)) ::
 (nat_lit 333,⟨.type "code",none,.fields #[(.str "_law_renamed" 642),(.str "_law_renamed" 643),(.str "/claim/cut.py" 644),(.int (344) 0),(.int (2) 0),(.int (0) 0),(.int (0) 0),(.int (3) 0),(.ref 330),(.bool true),(.int (181) 0),(.ref 331),.none,.none,.none,(.ref 332),(.int (645) 0),(.int (344) 0),(.str "/claim/cut.py" 646)],#[]⟩) ::
 (nat_lit 334,kF "_law_renamed" "_law_renamed" wX (.str "law_stretchdeeds_k57_least_of_least" 429) (.ref 333)) ::
 (nat_lit 338,⟨.type "code",none,.fields #[(.str "law" 648),(.str "law" 649),(.str "/claim/cut.py" 650),(.int (351) 0),(.int (1) 0),(.int (0) 0),(.int (0) 0),(.int (3) 0),(.ref 335),(.bool true),(.int (181) 0),(.ref 336),.none,.none,.none,(.ref 337),(.int (651) 0),(.int (351) 0),(.str "/claim/cut.py" 652)],#[]⟩) ::
 (nat_lit 339,kF "law" "law" FD (.str "law_stretchdeeds_k57_least_of_least" 429) (.ref 338)) ::
 []
def kA:List Addr:=[3,52,53,59,60,64,65,71,72,78,79,85,86,92,93,99,100,106,107,111,112,118,119,125,126,130,131,135,136,140,141,145,146,150,151,157,158,164,165,169,170,174,175,179,180,186,187,193,194,200,201,205,206,212,213,217,218,222,223,227,228,232,233,237,238,242,243,247,248,254,255,261,262,266,267,271,272,276,277,283,284,288,289,295,296,302,303,309,310,316,317,323,324,328,329,333,334,338,339]
noncomputable def qv:Program:={PySem.Challenge.pw_stretchdeeds_k57_least_of_least with main:={PySem.Challenge.pw_stretchdeeds_k57_least_of_least.main with body:=[1,2,4,6,7,8,9,10,11,12,13,15,16,17,19,20,21,22,23,24,25,26,27,28,30,31,32,33,34,35,36,37,38,39,40,41,42,43,44,45,46,47,48,49,50,51,52,53,54,55,56].map top}}
theorem kAe(P:Params):kA=(K P).map (·.1):=by kernel_rfl
set_option maxRecDepth 100000
theorem ws:PySem.Challenge.rw_stretchdeeds_k57_least_of_least.wellSaid=true:=by kernel_rfl
abbrev Xt(s:Shared):Bool:=xlAt qv [] s&&recOk (RowW.records (OpenRow.toRowW PySem.Challenge.rw_stretchdeeds_k57_least_of_least.row)) s
abbrev hk:Hook:=kHook K kA kAe
theorem hl:LeftO PySem.Challenge.pw_stretchdeeds_k57_least_of_least qv [] Xt hk.obs hk.val 6000:=λw=>by kernel_rfl
end G57
end
section
namespace PF
open PySem PySem.Spec PyProof.Rows L2
abbrev St:=L2.St
structure KD where
 d:Addr->List (Key×V)->Prop
 c:Str->Addr
instance:CoeFun KD (λ_=>Addr->List (Key×V)->Prop):=⟨KD.d⟩
inductive D where
 |non|bl (b:Bool)|int (i:Int)|str (x:Str)|tup (ds:List D)|lst (ds:List D)|dct (kvs:List (Key×D))|cl (c:Str)|ob (c:Str) (ns:List Str) (ds:List D)|dt (ks:List (List Key)) (ds:List D)
mutual
inductive Rp(K:zzA)(kd:KD)(O:Addr->Prop)(H:Hp):V->D->Prop
 |non:Rp K kd O H .non .non
 |bl (b:Bool):Rp K kd O H (.bl b) (.bl b)
 |int (i:Int):Rp K kd O H (.int i) (.int i)
 |str (x:Str):Rp K kd O H (.str x) (.str x)
 |tup {a:Addr}{vs:List V}{ds:List D}:¬O a->H a=some (.tup vs)->RpL K kd O H vs ds->Rp K kd O H (.ref a) (.tup ds)
 |lst {a:Addr}{vs:List V}{ds:List D}:¬O a->Rd H a (.lst vs)->RpL K kd O H vs ds->Rp K kd O H (.ref a) (.lst ds)
 |lstK {a:Addr}{its:Array Value}{n:Nat}{vs:List V}{ds:List D}:K.lookup a=some {cls:=.type "list",data:=.seq its n}->its.size<=sizeLine->z_ vs its.toList->RpL K kd O H vs ds->Rp K kd O H (.ref a) (.lst ds)
 |dct {a:Addr}{kvs:List (Key×V)}{ds:List (Key×D)}:¬O a->Rd H a (.dK kvs)->RpM K kd O H kvs ds->Rp K kd O H (.ref a) (.dct ds)
 |dctK {a:Addr}{kvs:List (Key×V)}{ds:List (Key×D)}:kd a kvs->RpM K kd O H kvs ds->Rp K kd O H (.ref a) (.dct ds)
 |cl (c:Str):Rp K kd O H (.ref (kd.c c)) (.cl c)
 |ob {a dx:Addr}{c:Str}{ns:List Str}{vs:List V}{ds:List D}:¬O a->H a=some (.ins (kd.c c) dx (ns.zip vs))->ns.length=vs.length->RpL K kd O H vs ds->Rp K kd O H (.ref a) (.ob c ns ds)
 |dt {a:Addr}{ks:List (List Key)}{vs:List V}{ds:List D}:¬O a->H a=some (.dT (ks.zip vs))->ks.length=vs.length->RpL K kd O H vs ds->Rp K kd O H (.ref a) (.dt ks ds)
inductive RpL(K:zzA)(kd:KD)(O:Addr->Prop)(H:Hp):List V->List D->Prop
 |nil:RpL K kd O H [] []
 |cons {v:V}{d:D}{vs:List V}{ds:List D}:Rp K kd O H v d->RpL K kd O H vs ds->RpL K kd O H (v::vs) (d::ds)
inductive RpM(K:zzA)(kd:KD)(O:Addr->Prop)(H:Hp):List (Key×V)->List (Key×D)->Prop
 |nil:RpM K kd O H [] []
 |cons {k:Key}{v:V}{d:D}{vs:List (Key×V)}{ds:List (Key×D)}:Rp K kd O H v d->RpM K kd O H vs ds->RpM K kd O H ((k,v)::vs) ((k,d)::ds)
end
structure Grow(W:Addr->Prop)(H:Hp)(W':Addr->Prop)(H':Hp):Prop where
 keep:∀b o,H b=some o->¬W b->H' b=some o
 own:∀b,W' b->W b\/H b=none
def Grow.refl:Grow W H W H:=⟨λ_ _ h _=>h,λ_ h=>.inl h⟩
def Grow.trans(a:Grow W H W1 H1)(b:Grow W1 H1 W2 H2):Grow W H W2 H2 where
 keep:=λx o h n=>b.keep x o (a.keep x o h n) λq=>(a.own x q).elim n λz=>by rw[z]at h;cases h
 own:=λx q=>by
  rcases b.own x q with h|h
  . exact a.own x h
  . cases e:H x with
    |none=>exact .inr rfl
    |some o=>
     refine .inl (Classical.byContradiction λn=>?_);rw[a.keep x o e n]at h;cases h
def Grow.less(h:∀a,W' a->W a):Grow W H W' H:=⟨λ_ _ q _=>q,λb q=>.inl (h b q)⟩
def Grow.wr(h:W p):Grow W H W (upd H p o):=
 ⟨λb u q n=>by rw[zK (λe=>n (by rw[e];exact h))];exact q,λ_ q=>.inl q⟩
abbrev WU(F W:Addr->Prop):Addr->Prop:=λa=>F a\/W a
section
variable{K:zzA}{kd:KD}{F W W':Addr->Prop}{H H':Hp}
def Qa(g:Grow W H W' H')(n:¬W a)(h:Rd H a u):Rd H' a u:=by
 rcases h with h|⟨o,h⟩
 . exact .inl (g.keep _ _ h n)
 . exact .inr ⟨o,g.keep _ _ h n⟩
def IX(h:Rd H a u):H a≠none:=by
 rcases h with h|⟨o,h⟩<;>(rw[h];simp)
def Xp(g:Grow W H W' H')(n:¬WU F W a)(h:Rd H a u):¬WU F W' a:=λq=>
 q.elim (λz=>n (.inl z)) λz=>(g.own a z).elim (λy=>n (.inr y)) λy=>IX h y
def Rp.grow(g:Grow W H W' H')(h:Rp K kd (WU F W) H v d):Rp K kd (WU F W') H' v d:=
 Rp.rec (motive_1:=λv d _=>Rp K kd (WU F W') H' v d) (motive_2:=λb c _=>RpL K kd (WU F W') H' b c) (motive_3:=λb c _=>RpM K kd (WU F W') H' b c) .non .bl .int .str (λn h _ r=>.tup (Xp g n (.inl h)) (g.keep _ _ h λz=>n (.inr z)) r) (λn h _ r=>.lst (Xp g n h) (Qa g (λz=>n (.inr z)) h) r) (λa e f _ r=>.lstK a e f r) (λn h _ r=>.dct (Xp g n h) (Qa g (λz=>n (.inr z)) h) r) (λh _ r=>.dctK h r) .cl (λn h l _ r=>.ob (Xp g n (.inl h)) (g.keep _ _ h λz=>n (.inr z)) l r) (λn h l _ r=>.dt (Xp g n (.inl h)) (g.keep _ _ h λz=>n (.inr z)) l r) .nil (λ_ _ h r=>.cons h r) .nil (λ_ _ h r=>.cons h r) h
def RpL.ind{O:Addr->Prop}{P:List V->List D->Prop}(h0:P [] [])(h1:∀{v d vs ds},Rp K kd O H v d->RpL K kd O H vs ds->P vs ds->P (v::vs) (d::ds)){vs:List V}{ds:List D}(h:RpL K kd O H vs ds):P vs ds:=
 RpL.rec (motive_1:=λ_ _ _=>True) (motive_2:=λb c _=>P b c) (motive_3:=λ_ _ _=>True) ⟨⟩ (λ_=>⟨⟩) (λ_=>⟨⟩) (λ_=>⟨⟩) (λ_ _ _ _=>⟨⟩) (λ_ _ _ _=>⟨⟩) (λ_ _ _ _ _=>⟨⟩) (λ_ _ _ _=>⟨⟩) (λ_ _ _=>⟨⟩) (λ_=>⟨⟩) (λ_ _ _ _ _=>⟨⟩) (λ_ _ _ _ _=>⟨⟩) h0 (λa r _ e=>h1 a r e) ⟨⟩ (λ_ _ _ _=>⟨⟩) h
def RpM.ind{O:Addr->Prop}{P:List (Key×V)->List (Key×D)->Prop}(h0:P [] [])(h1:∀{k v d vs ds},Rp K kd O H v d->RpM K kd O H vs ds->P vs ds->P ((k,v)::vs) ((k,d)::ds)){vs:List (Key×V)}{ds:List (Key×D)}(h:RpM K kd O H vs ds):P vs ds:=
 RpM.rec (motive_1:=λ_ _ _=>True) (motive_2:=λ_ _ _=>True) (motive_3:=λb c _=>P b c) ⟨⟩ (λ_=>⟨⟩) (λ_=>⟨⟩) (λ_=>⟨⟩) (λ_ _ _ _=>⟨⟩) (λ_ _ _ _=>⟨⟩) (λ_ _ _ _ _=>⟨⟩) (λ_ _ _ _=>⟨⟩) (λ_ _ _=>⟨⟩) (λ_=>⟨⟩) (λ_ _ _ _ _=>⟨⟩) (λ_ _ _ _ _=>⟨⟩) ⟨⟩ (λ_ _ _ _=>⟨⟩) h0 (λa r _ e=>h1 a r e) h
theorem RpL.grow(g:Grow W H W' H'){vs:List V}{ds:List D}(h:RpL K kd (WU F W) H vs ds):RpL K kd (WU F W') H' vs ds:=RpL.ind .nil (λa _ r=>.cons (Rp.grow g a) r) h
def Rp.less(g:∀a,O' a->O a)(h:Rp K kd O H v d):Rp K kd O' H v d:=
 Rp.rec (motive_1:=λv d _=>Rp K kd O' H v d) (motive_2:=λb c _=>RpL K kd O' H b c) (motive_3:=λb c _=>RpM K kd O' H b c) .non .bl .int .str (λn h _ r=>.tup (λz=>n (g _ z)) h r) (λn h _ r=>.lst (λz=>n (g _ z)) h r) (λa e f _ r=>.lstK a e f r) (λn h _ r=>.dct (λz=>n (g _ z)) h r) (λh _ r=>.dctK h r) .cl (λn h l _ r=>.ob (λz=>n (g _ z)) h l r) (λn h l _ r=>.dt (λz=>n (g _ z)) h l r) .nil (λ_ _ h r=>.cons h r) .nil (λ_ _ h r=>.cons h r) h
theorem RpL.less{O O':Addr->Prop}(g:∀a,O' a->O a){vs:List V}{ds:List D}(h:RpL K kd O H vs ds):RpL K kd O' H vs ds:=RpL.ind .nil (λa _ r=>.cons (Rp.less g a) r) h
theorem RpM.less{O O':Addr->Prop}(g:∀a,O' a->O a){vs:List (Key×V)}{ds:List (Key×D)}(h:RpM K kd O H vs ds):RpM K kd O' H vs ds:=RpM.ind .nil (λa _ r=>.cons (Rp.less g a) r) h
theorem RpL.length{O:Addr->Prop}{vs:List V}{ds:List D}(h:RpL K kd O H vs ds):vs.length=ds.length:=RpL.ind (P:=λa b=>a.length=b.length) rfl (λ_ _ r=>congrArg (· + 1) r) h
theorem RpM.length{O:Addr->Prop}{vs:List (Key×V)}{ds:List (Key×D)}(h:RpM K kd O H vs ds):vs.length=ds.length:=RpM.ind (P:=λa b=>a.length=b.length) rfl (λ_ _ r=>congrArg (· + 1) r) h
def RpL.get{O:Addr->Prop}{vs:List V}{ds:List D}{i:Nat}{d:D}(h:RpL K kd O H vs ds)(e:ds[i]? = some d):∃v,vs[i]? = some v/\Rp K kd O H v d:=
 RpL.ind (P:=λb c=>∀i,c[i]? = some d->∃v,b[i]? = some v/\Rp K kd O H v d) (λi e=>by rw[List.getElem?_nil]at e;cases e) (λa _ f i e=>by
  cases i with
  |zero=>cases e;exact⟨_,rfl,a⟩
  |succ i=>exact f i e) h i e
def RpL.append{O:Addr->Prop}{vs ws:List V}{ds es:List D}(h:RpL K kd O H vs ds)(r:RpL K kd O H ws es):RpL K kd O H (vs++ws) (ds++es):=RpL.ind (P:=λb c=>RpL K kd O H (b++ws) (c++es)) r (λa _ t=>.cons a t) h
theorem RpL.take{O:Addr->Prop}{vs:List V}{ds:List D}(n:Nat)(h:RpL K kd O H vs ds):RpL K kd O H (vs.take n) (ds.take n):=
 RpL.ind (P:=λb c=>∀n,RpL K kd O H (b.take n) (c.take n)) (λn=>by rw[List.take_nil,List.take_nil];exact .nil) (λa _ d n=>by
  cases n with
  |zero=>exact .nil
  |succ n=>exact .cons a (d n)) h n
theorem RpL.drop{O:Addr->Prop}{vs:List V}{ds:List D}(n:Nat)(h:RpL K kd O H vs ds):RpL K kd O H (vs.drop n) (ds.drop n):=
 RpL.ind (P:=λc d=>∀n,RpL K kd O H (c.drop n) (d.drop n)) (λn=>by rw[List.drop_nil,List.drop_nil];exact .nil) (λa b e n=>by
  cases n with
  |zero=>exact .cons a b
  |succ n=>exact e n) h n
theorem RpL.rep(h:RpL K kd O H vs ds):∀k:Nat,RpL K kd O H (List.replicate k vs).flatten (List.replicate k ds).flatten
 |0=>.nil
 |k+1=>by
  rw[List.replicate_succ,List.replicate_succ,List.flatten_cons,List.flatten_cons];exact h.append (RpL.rep h k)
end
inductive Vw(K:zzA)(kd:KD)(O:Addr->Prop)(H:Hp):V->D->Prop
 |non:Vw K kd O H .non .non
 |bl (b:Bool):Vw K kd O H (.bl b) (.bl b)
 |int (i:Int):Vw K kd O H (.int i) (.int i)
 |str (x:Str):Vw K kd O H (.str x) (.str x)
 |tup {a:Addr}{vs:List V}{ds:List D}:Rp K kd O H (.ref a) (.tup ds)->VQ K H a vs->RpL K kd O H vs ds->Vw K kd O H (.ref a) (.tup ds)
 |lst {a:Addr}{vs:List V}{ds:List D}:SY K H a vs->RpL K kd O H vs ds->Vw K kd O H (.ref a) (.lst ds)
 |dct {a:Addr}{kvs:List (Key×V)}{ds:List (Key×D)}:(Rd H a (.dK kvs)\/kd a kvs)->RpM K kd O H kvs ds->Vw K kd O H (.ref a) (.dct ds)
 |cl (c:Str):Vw K kd O H (.ref (kd.c c)) (.cl c)
 |ob {a dx:Addr}{c:Str}{ns:List Str}{vs:List V}{ds:List D}:H a=some (.ins (kd.c c) dx (ns.zip vs))->ns.length=vs.length->RpL K kd O H vs ds->Vw K kd O H (.ref a) (.ob c ns ds)
 |dt {a:Addr}{ks:List (List Key)}{vs:List V}{ds:List D}:H a=some (.dT (ks.zip vs))->ks.length=vs.length->RpL K kd O H vs ds->Vw K kd O H (.ref a) (.dt ks ds)
def Rp.vw{K:zzA}{kd:KD}{O:Addr->Prop}{H:Hp}{v:V}{d:D}(h:Rp K kd O H v d):Vw K kd O H v d:=by
 cases h with
 |non=>exact .non
 |bl b=>exact .bl b
 |int i=>exact .int i
 |str x=>exact .str x
 |tup n h r=>exact .tup (.tup n h r) (.inl (.inl h)) r
 |lst n h r=>exact .lst (.inl h) r
 |lstK a e f r=>exact .lst (.inr ⟨_,_,a,e,f⟩) r
 |dct n h r=>exact .dct (.inl h) r
 |dctK h r=>exact .dct (.inr h) r
 |cl c=>exact .cl c
 |ob n h l r=>exact .ob h l r
 |dt n h l r=>exact .dt h l r
def _root_.L2.SY.sq{K:zzA}{H:Hp}{a:Addr}{xs:List V}(h:SY K H a xs):Z5 K H a xs:=by
 rcases h with h|⟨b,n,k,z,r⟩
 . exact .inl h
 . exact .inr ⟨_,b,n,k,rfl,rfl,rfl,z,r⟩
def MF(I:Inv X pins σ H s)(h:SY X.K H a xs):
 xs.length<=sizeLine/\∃(its:List Value) (n:Nat),z_ xs its/\s.heap.get? a=some {cls:=.type "list",data:=.seq its.toArray n}:=by
 rcases h with h|⟨b,n,k,z,r⟩
 . exact h.ok I.hok
 . refine⟨by rw[r.length];simpa using z,b.toList,n,r,by simpa using I.kIn _ _ k⟩
def Rp.cl_eq{K:zzA}{kd:KD}{O:Addr->Prop}{H:Hp}{C:Addr}{c:Str}(h:Rp K kd O H (.ref C) (.cl c)):C=kd.c c:=by
 cases h;rfl
def zN:D->Bool
 | .non=>true | .bl _=>true | .int _=>true | .str _=>true|_=>false
def Rp.flat{K:zzA}{kd:KD}{O O':Addr->Prop}{H H':Hp}{v:V}{d:D}(h:Rp K kd O H v d)(e:zN d=true):Rp K kd O' H' v d:=by
 cases h with
 |non=>exact .non
 |bl b=>exact .bl b
 |int i=>exact .int i
 |str x=>exact .str x
 |_=>cases e
inductive Kind where
 |ls|tp|dc (ks:List Key)|ob (c:Str) (ns:List Str)|dt (ks:List (List Key))
inductive O where
 |lf (st:Bool) (d:D)|nd (k:Kind) (os:List O)
abbrev K8(st:Bool)(d:D):O:=.lf (zN d||st) d
mutual
inductive Ro(L:Bool->V->D->Prop)(N:Addr->Prop)(H:Hp):V->O->List Addr->Prop
 |lf {st:Bool}{v:V}{d:D}:L st v d->Ro L N H v (.lf st d) []
 |ls {a:Addr}{vs:List V}{os:List O}{fp:List Addr}:H a=some (.lst vs)->RoL L N H vs os fp->Ro L N H (.ref a) (.nd .ls os) (a::fp)
 |dc {a:Addr}{ks:List Key}{vs:List V}{os:List O}{fp:List Addr}:H a=some (.dK (ks.zip vs))->ks.length=vs.length->RoL L N H vs os fp->Ro L N H (.ref a) (.nd (.dc ks) os) (a::fp)
 |ob {a dx C:Addr}{c:Str}{ns:List Str}{vs:List V}{os:List O}{fp:List Addr}:L true (.ref C) (.cl c)->H a=some (.ins C dx (ns.zip vs))->ns.length=vs.length->RoL L N H vs os fp->Ro L N H (.ref a) (.nd (.ob c ns) os) (a::fp)
 |dt {a:Addr}{ks:List (List Key)}{vs:List V}{os:List O}{fp:List Addr}:H a=some (.dT (ks.zip vs))->ks.length=vs.length->RoL L N H vs os fp->Ro L N H (.ref a) (.nd (.dt ks) os) (a::fp)
 |tp {a:Addr}{vs:List V}{os:List O}{fp:List Addr}:N a->H a=some (.tup vs)->RoL L N H vs os fp->Ro L N H (.ref a) (.nd .tp os) fp
inductive RoL(L:Bool->V->D->Prop)(N:Addr->Prop)(H:Hp):List V->List O->List Addr->Prop
 |nil:RoL L N H [] [] []
 |cons {v:V}{o:O}{vs:List V}{os:List O}{fp fq:List Addr}:Ro L N H v o fp->RoL L N H vs os fq->RoL L N H (v::vs) (o::os) (fp++fq)
end
mutual
noncomputable def O.toD:O->D
 | .lf _ d=>d
 | .nd .ls os=>.lst (O.toDs os)
 | .nd .tp os=>.tup (O.toDs os)
 | .nd (.dc ks) os=>.dct (ks.zip (O.toDs os))
 | .nd (.ob c ns) os=>.ob c ns (O.toDs os)
 | .nd (.dt ks) os=>.dt ks (O.toDs os)
noncomputable def O.toDs:List O->List D
 | []=>[]
 |o::r=>o.toD::O.toDs r
end
mutual
def O.str:O->Bool
 | .lf st _=>st
 | .nd _ os=>O.strs os
def O.strs:List O->Bool
 | []=>true
 |o::r=>o.str&&O.strs r
end
section
variable{L L':Bool->V->D->Prop}{N N':Addr->Prop}{H H':Hp}{K:zzA}{kd:KD}{Ob:Addr->Prop}
def Ro.mono(hL:∀st v d,L st v d->L' st v d)(hN:∀a vs,N a->H a=some (.tup vs)->N' a/\H' a=some (.tup vs))(k:∀a ∈ fp,∀u,H a=some u->H' a=some u)(h:Ro L N H v o fp):Ro L' N' H' v o fp:=
 Ro.rec (motive_1:=λv o b _=>(∀a ∈ b,∀u,H a=some u->H' a=some u)->Ro L' N' H' v o b) (motive_2:=λe f b _=>(∀a ∈ b,∀u,H a=some u->H' a=some u)->RoL L' N' H' e f b)
  (λh _=>.lf (hL _ _ _ h)) (λh _ r k=>.ls (k _ zzF _ h) (r λa m=>k a (zzD _ m))) (λh l _ r k=>.dc (k _ zzF _ h) l (r λa m=>k a (zzD _ m))) (λc h l _ r k=>.ob (hL _ _ _ c) (k _ zzF _ h) l (r λa m=>k a (zzD _ m))) (λh l _ r k=>.dt (k _ zzF _ h) l (r λa m=>k a (zzD _ m))) (λn h _ r k=>.tp (hN _ _ n h).1 (hN _ _ n h).2 (r k))
  (λ_=>.nil) (λ_ _ h r k=>.cons (h λa m=>k a (zzP _ m)) (r λa m=>k a (zzL _ m))) h k
def RoL.ind{P:List V->List O->List Addr->Prop}(h0:P [] [] [])(h1:∀{v o vs os fp fq},Ro L N H v o fp->RoL L N H vs os fq->P vs os fq->P (v::vs) (o::os) (fp++fq)){vs:List V}{os:List O}{fp:List Addr}(h:RoL L N H vs os fp):P vs os fp:=
 RoL.rec (motive_1:=λ_ _ _ _=>True) (motive_2:=λb c d _=>P b c d) (λ_=>⟨⟩) (λ_ _ _=>⟨⟩) (λ_ _ _ _=>⟨⟩) (λ_ _ _ _ _=>⟨⟩) (λ_ _ _ _=>⟨⟩) (λ_ _ _ _=>⟨⟩) h0 (λa r _ e=>h1 a r e) h
theorem RoL.mono(hL:∀st v d,L st v d->L' st v d)(hN:∀a vs,N a->H a=some (.tup vs)->N' a/\H' a=some (.tup vs)){vs:List V}{os:List O}{fp:List Addr}(k:∀a ∈ fp,∀u,H a=some u->H' a=some u)(h:RoL L N H vs os fp):RoL L' N' H' vs os fp:=
 RoL.ind (P:=λc e b=>(∀a ∈ b,∀u,H a=some u->H' a=some u)->RoL L' N' H' c e b) (λ_=>.nil) (λh _ r k=>.cons (Ro.mono hL hN (λa m=>k a (zzP _ m)) h) (r λa m=>k a (zzL _ m))) h k
theorem U1:∀{ks:List Key}{vs:List V}{ds:List D},RpL K kd Ob H vs ds->ks.length=vs.length->RpM K kd Ob H (ks.zip vs) (ks.zip ds)
 | [],_,_,_,_=>.nil
 |_::_,_,_,.nil,e=>by simp at e
 |_::_,_,_,.cons h r,e=>.cons h (U1 r (by simpa using e))
def Ro.rp(b:Bool)(hL:∀st v d,(b=true->st=true)->L st v d->Rp K kd Ob H v d)(hN:∀a,N a->¬Ob a){v:V}{o:O}{fp:List Addr}(s:b=true->o.str=true)(k:∀a ∈ fp,¬Ob a)(h:Ro L N H v o fp):Rp K kd Ob H v o.toD:=
 Ro.rec (motive_1:=λv o f _=>(b=true->o.str=true)->(∀a ∈ f,¬Ob a)->Rp K kd Ob H v o.toD) (motive_2:=λi g f _=>(b=true->O.strs g=true)->(∀a ∈ f,¬Ob a)->RpL K kd Ob H i (O.toDs g))
  (λh s _=>hL _ _ _ s h) (λh _ r s k=>.lst (k _ zzF) (.inl h) (r s λa m=>k a (zzD _ m))) (λh l _ r s k=>.dct (k _ zzF) (.inl h) (U1 (r s λa m=>k a (zzD _ m)) l)) (λc h l _ r s k=>by
   have e:=(hL _ _ _ (λ_=>rfl) c).cl_eq;subst e;exact .ob (k _ zzF) h l (r s λa m=>k a (zzD _ m))) (λh l _ r s k=>.dt (k _ zzF) h l (r s λa m=>k a (zzD _ m))) (λn h _ r s k=>.tup (hN _ n) h (r s k))
  (λ_ _=>.nil) (λ_ _ h r s k=>.cons (h (λz=>((zyC _ _).mp (s z)).1) λa m=>k a (zzP _ m)) (r (λz=>((zyC _ _).mp (s z)).2) λa m=>k a (zzL _ m))) h s k
theorem RoL.rp(b:Bool)(hL:∀st v d,(b=true->st=true)->L st v d->Rp K kd Ob H v d)(hN:∀a,N a->¬Ob a){vs:List V}{os:List O}{fp:List Addr}(s:b=true->O.strs os=true)(k:∀a ∈ fp,¬Ob a)(h:RoL L N H vs os fp):RpL K kd Ob H vs (O.toDs os):=
 RoL.ind (P:=λe c f=>(b=true->O.strs c=true)->(∀a ∈ f,¬Ob a)->RpL K kd Ob H e (O.toDs c)) (λ_ _=>.nil) (λh _ r s k=>.cons (Ro.rp b hL hN (λz=>((zyC _ _).mp (s z)).1) (λa m=>k a (zzP _ m)) h) (r (λz=>((zyC _ _).mp (s z)).2) λa m=>k a (zzL _ m))) h s k
theorem RoL.length{vs:List V}{os:List O}{fp:List Addr}(h:RoL L N H vs os fp):vs.length=os.length:=RoL.ind (P:=λa b _=>a.length=b.length) rfl (λ_ _ r=>congrArg (· + 1) r) h
theorem Xd:∀os:List O,(O.toDs os).length=os.length
 | []=>rfl
 |_::r=>congrArg (· + 1) (Xd r)
def RoL.append{vs ws:List V}{os ps:List O}{f g:List Addr}(h:RoL L N H vs os f)(r:RoL L N H ws ps g):RoL L N H (vs++ws) (os++ps) (f++g):=RoL.ind (P:=λa b f=>RoL L N H (a++ws) (b++ps) (f++g)) r (λh _ t=>by rw[zxD];exact .cons h t) h
def RoL.one(h:Ro L N H v o f):RoL L N H [v] [o] f:=by
 have:=RoL.cons h (RoL.nil (L:=L) (N:=N) (H:=H));rw[zyE]at this;exact this
def RoL.at_:∀{vs:List V}{os:List O}{fp:List Addr},RoL L N H vs os fp->os[k]? = some o->∃v f fo g,vs[k]? = some v/\fp=f++(fo++g)/\Ro L N H v o fo/\RoL L N H (vs.take k) (os.take k) f/\RoL L N H (vs.drop (k+1)) (os.drop (k+1)) g:=by
 induction k with
 |zero=>
  intro a b c h e;cases h with
  |nil=>cases e
  |cons h r=>
   rw[List.getElem?_cons_zero]at e;cases e;exact⟨_,[],_,_,rfl,rfl,h,.nil,r⟩
 |succ k d=>
  intro a b c h e;cases h with
  |nil=>cases e
  |cons h r=>
   rw[List.getElem?_cons_succ]at e;obtain⟨v,f,i,g,j,l,m,n,p⟩:=d r e;subst l;exact⟨v,_,i,g,by rw[List.getElem?_cons_succ];exact j,(zxD _ _ _).symm,m,.cons h n,p⟩
def UI(l:List α)(k:Nat):l.eraseIdx k=l.take k++l.drop (k+1):=List.eraseIdx_eq_take_drop_succ l k
end
abbrev AS:=List (Option O)
abbrev Ad:=Nat->List Addr
def Gw(T:List Addr)(ad:Ad):Addr->Prop:=λa=>a ∈ T\/∃i,a ∈ ad i
abbrev Lv(F B G:Addr->Prop)(st:Bool):Addr->Prop:=WU (λa=>(st=true/\F a)\/B a) G
abbrev Lf(K:zzA)(kd:KD)(F B G:Addr->Prop)(H:Hp):Bool->V->D->Prop:=λst v d=>Rp K kd (Lv F B G st) H v d
abbrev Nf(F B G:Addr->Prop):Addr->Prop:=λa=>¬Lv F B G true a
abbrev w5(K:zzA)(kd:KD)(F B G:Addr->Prop)(H:Hp):V->O->List Addr->Prop:=Ro (Lf K kd F B G H) (Nf F B G) H
abbrev x9(K:zzA)(kd:KD)(F B G:Addr->Prop)(H:Hp):List V->List O->List Addr->Prop:=RoL (Lf K kd F B G H) (Nf F B G) H
def Pb(K:zzA)(kd:KD)(F B G:Addr->Prop)(H:Hp):Option O->Option (Option V)->List Addr->Prop
 |none,_,fp=>fp=[]
 |some o,s,fp=>∃v,s=some (some v)/\w5 K kd F B G H v o fp
structure Rel(K:zzA)(kd:KD)(F B:Addr->Prop)(T:List Addr)(ad:Ad)(as:AS)(σ:St)(H:Hp):Prop where
 len:as.length=σ.length
 out:∀i,as.length<=i->ad i=[]
 nd:∀i,(ad i).Nodup
 inj:∀i j a,a ∈ ad i->a ∈ ad j->i=j
 tnd:T.Nodup
 dis:∀i a,a ∈ ad i->a ∉ T
 ftr:∀a,F a->H a≠none
 btr:∀a,B a->H a≠none/\¬F a/\¬Gw T ad a
 gtr:∀a,Gw T ad a->H a≠none/\¬F a
 sl:∀i s,as[i]? = some s->Pb K kd F B (Gw T ad) H s σ[i]? (ad i)
inductive RV where
 |ow (o:O)|bo (i:Nat)
def xq(K:zzA)(kd:KD)(F B:Addr->Prop)(T:List Addr)(ad:Ad)(σ:St)(H:Hp)(v:V):RV->Prop
 | .ow o=>w5 K kd F B (Gw T ad) H v o T
 | .bo i=>T=[]/\σ[i]? = some (some v)
def O.frz(o:O):O:=.lf o.str o.toD
noncomputable def RV.frz:RV->RV
 | .ow o=>.ow o.frz
 | .bo i=>.bo i
def O.isLf:O->Bool
 | .lf _ _=>true
 |_=>false
noncomputable def O.kl:O->Option Bool
 | .lf st _=>some st
 | .nd _ os=>if os.all O.isLf=true then some (O.strs os)else none
noncomputable def RV.view(as:AS):RV->Option (D×Option Bool)
 | .ow o=>some (o.toD,some o.str)
 | .bo i=>match as[i]? with
  |some (some o)=>some (o.toD,o.kl)
  |_=>none
def Qn(F B G:Addr->Prop):Option Bool->Addr->Prop
 |some st=>Lv F B G st
 |none=>λ_=>False
section
variable{K:zzA}{kd:KD}{F B F' B':Addr->Prop}{G G':Addr->Prop}{T T':List Addr}{ad ad1:Ad}{as as1:AS}{σ:St}{H H1 H':Hp}{v:V}{r:RV}{o:O}{fp:List Addr}{vs:List V}{os:List O}
theorem w5.grow(g:Grow G H G' H')(k:∀a ∈ fp,∀u,H a=some u->H' a=some u)(h:w5 K kd F B G H v o fp):w5 K kd F B G' H' v o fp:=
 Ro.mono (λb v d r=>Rp.grow g r) (λa c n e=>⟨λz=>z.elim (λy=>n (.inl y)) λy=>(g.own a y).elim (λw=>n (.inr w)) λw=>(by rw[w]at e;cases e),g.keep a _ e (λw=>n (.inr w))⟩) k h
theorem x9.grow(g:Grow G H G' H')(k:∀a ∈ fp,∀u,H a=some u->H' a=some u)(h:x9 K kd F B G H vs os fp):x9 K kd F B G' H' vs os fp:=
 RoL.mono (λb v d r=>Rp.grow g r) (λa c n e=>⟨λz=>z.elim (λy=>n (.inl y)) λy=>(g.own a y).elim (λw=>n (.inr w)) λw=>(by rw[w]at e;cases e),g.keep a _ e (λw=>n (.inr w))⟩) k h
def w5.lv(g:∀st a,Lv F' B' G' st a->Lv F B G st a)(h:w5 K kd F B G H v o fp):w5 K kd F' B' G' H v o fp:=
 Ro.mono (λb v d r=>r.less (g b)) (λa c n e=>⟨λz=>n (g true a z),e⟩) (λ_ _ _ e=>e) h
def x9.lv(g:∀st a,Lv F' B' G' st a->Lv F B G st a)(h:x9 K kd F B G H vs os fp):x9 K kd F' B' G' H vs os fp:=
 RoL.mono (λb v d r=>r.less (g b)) (λa c n e=>⟨λz=>n (g true a z),e⟩) (λ_ _ _ e=>e) h
def w5.less(g:∀a,G' a->G a)(h:w5 K kd F B G H v o fp):w5 K kd F B G' H v o fp:=w5.lv (λ_ a z=>z.elim .inl λy=>.inr (g a y)) h
def Gw.drop:∀a,Gw [] ad a->Gw T ad a:=λ_ h=>h.elim (λz=>nomatch z) .inr
def Rel.trk(R:Rel K kd F B T ad as σ H)(st:Bool):∀a,Lv F B (Gw T ad) st a->H a≠none:=λa h=>by
 rcases h with(h|h)|h
 . exact R.ftr a h.2
 . exact(R.btr a h).1
 . exact(R.gtr a h).1
def Rel.tr(R:Rel K kd F B T ad as σ H)(lv:Option Bool):∀a,Qn F B (Gw T ad) lv a->H a≠none:=λa h=>by
 cases lv with
 |none=>exact h.elim
 |some b=>exact R.trk b a h
theorem Pb.lv(g:∀st a,Lv F' B' G' st a->Lv F B G st a)(h:Pb K kd F B G H s x fp):Pb K kd F' B' G' H s x fp:=by
 cases s with
 |none=>exact h
 |some o=>obtain⟨v,e,r⟩:=h;exact⟨v,e,w5.lv g r⟩
def Pb.less(g:∀a,G' a->G a)(h:Pb K kd F B G H s x fp):Pb K kd F B G' H s x fp:=h.lv (λ_ a z=>z.elim .inl λy=>.inr (g a y))
theorem Pb.grow(g:Grow G H G' H')(k:∀a ∈ fp,∀u,H a=some u->H' a=some u)(h:Pb K kd F B G H s x fp):Pb K kd F B G' H' s x fp:=by
 cases s with
 |none=>exact h
 |some o=>obtain⟨v,e,r⟩:=h;exact⟨v,e,w5.grow g k r⟩
theorem Rel.drop(R:Rel K kd F B T ad as σ H):Rel K kd F B [] ad as σ H where
 len:=R.len
 out:=R.out
 nd:=R.nd
 inj:=R.inj
 tnd:=zyJ
 dis:=λ_ _ _ z=>nomatch z
 ftr:=R.ftr
 btr:=λa h=>let⟨h1,h2,h3⟩:=R.btr a h;⟨h1,h2,λz=>h3 (Gw.drop a z)⟩
 gtr:=λa h=>R.gtr a (Gw.drop a h)
 sl:=λi s e=>(R.sl i s e).less Gw.drop
def Eu(R:Rel K kd F B T ad as σ H)(h:w5 K kd F B (Gw T ad) H v o T):Rp K kd (Lv F B (Gw [] ad) o.str) H v o.toD:=
 Ro.rp o.str (λc v d b r=>r.less λa z=>z.elim (λy=>.inl (y.elim (λx=>.inl ⟨b x.1,x.2⟩) .inr)) λy=>.inr (Gw.drop a y))
  (λa n z=>n (z.elim (λy=>.inl (y.elim (λx=>.inl ⟨rfl,x.2⟩) .inr)) λy=>.inr (Gw.drop a y))) id
  (λa m z=>by
   rcases z with(z|z)|z|⟨i,z⟩
   . exact(R.gtr a (.inl m)).2 z.2
   . exact(R.btr a z).2.2 (.inl m)
   . cases z
   . exact R.dis i a z m) h
def xq.drop(R:Rel K kd F B T ad as σ H)(h:xq K kd F B T ad σ H v r):xq K kd F B [] ad σ H v r.frz:=by
 cases r with
 |ow o=>exact .lf (Eu R h)
 |bo i=>exact⟨rfl,h.2⟩
theorem xq.grow(g:Grow (Gw [] ad) H (Gw [] ad1) H1)(h:xq K kd F B [] ad σ H v r):xq K kd F B [] ad1 σ H1 v r:=by
 cases r with
 |ow o=>exact w5.grow g (λ_ m=>nomatch m) h
 |bo i=>exact h
def Hr(h:x9 K kd F B G H vs os fp):os.all O.isLf=true->fp=[]:=
 RoL.ind (P:=λ_ a b=>a.all O.isLf=true->b=[]) (λ_=>rfl) (λh _ c e=>by
  rw[List.all_cons,zyC]at e;rw[c e.2,zyE];cases h with
  |lf=>rfl
  |ls=>cases e.1
  |dc=>cases e.1
  |ob=>cases e.1
  |dt=>cases e.1
  |tp=>cases e.1) h
def RZ{st:Bool}{b:Bool}(hs:b=true->st=true):∀a,Lv F B G b a->Lv F B G st a:=λa z=>z.elim (λy=>.inl (y.elim (λx=>.inl ⟨hs x.1,x.2⟩) .inr)) .inr
def Qs(h:x9 K kd F B G H vs os fp)(e:os.all O.isLf=true):RpL K kd (Lv F B G (O.strs os)) H vs (O.toDs os):=by
 have:=Hr h e;subst this;exact RoL.rp (O.strs os) (λc v d b r=>r.less (RZ b)) (λa n z=>n (RZ (λ_=>rfl) a z)) id (by intro a m;cases m) h
def Xx(h:x9 K kd F B G H vs os fp):RpL K kd (λ_=>False) H vs (O.toDs os):=RoL.rp false (λa v d _ r=>r.less λ_ z=>z.elim) (λ_ _ z=>z) (λz=>Bool.noConfusion z) (λ_ _ z=>z) h
def G9(h:w5 K kd F B G H v o fp):Rp K kd (λ_=>False) H v o.toD:=Ro.rp false (λa v d _ r=>r.less λ_ z=>z.elim) (λ_ _ z=>z) (λz=>Bool.noConfusion z) (λ_ _ z=>z) h
def Tg(h:w5 K kd F B G H v o []):Rp K kd (Lv F B G o.str) H v o.toD:=
 Ro.rp o.str (λc v d b r=>r.less (RZ b)) (λa n z=>n (RZ (λ_=>rfl) a z)) id (by intro a m;cases m) h
theorem w5.vw(h:w5 K kd F B G H v o fp):Vw K kd (Qn F B G o.kl) H v o.toD:=by
 cases h with
 |lf h=>exact h.vw
 |ls d r=>
  rename_i a f b g;show Vw K kd (Qn F B G (if b.all O.isLf=true then some (O.strs b)else none)) H _ (.lst (O.toDs b))
  by_cases e:b.all O.isLf=true
  . rw[if_pos e];exact .lst (.inl (.inl d)) (Qs r e)
  . rw[if_neg e];exact .lst (.inl (.inl d)) (Xx r)
 |dc d l r=>
  rename_i a i f b g;show Vw K kd (Qn F B G (if b.all O.isLf=true then some (O.strs b)else none)) H _ (.dct (i.zip (O.toDs b)))
  by_cases e:b.all O.isLf=true
  . rw[if_pos e];exact .dct (.inl (.inl d)) (U1 (Qs r e) l)
  . rw[if_neg e];exact .dct (.inl (.inl d)) (U1 (Xx r) l)
 |ob k d l r=>
  rename_i a p C c m f b g;have ec:C=kd.c c:=k.cl_eq;subst ec;show Vw K kd (Qn F B G (if b.all O.isLf=true then some (O.strs b)else none)) H _ (.ob c m (O.toDs b))
  by_cases e:b.all O.isLf=true
  . rw[if_pos e];exact .ob d l (Qs r e)
  . rw[if_neg e];exact .ob d l (Xx r)
 |dt d l r=>
  rename_i a i f b g;show Vw K kd (Qn F B G (if b.all O.isLf=true then some (O.strs b)else none)) H _ (.dt i (O.toDs b))
  by_cases e:b.all O.isLf=true
  . rw[if_pos e];exact .dt d l (Qs r e)
  . rw[if_neg e];exact .dt d l (Xx r)
 |tp n d r=>
  rename_i a f b;show Vw K kd (Qn F B G (if b.all O.isLf=true then some (O.strs b)else none)) H _ (.tup (O.toDs b))
  by_cases e:b.all O.isLf=true
  . rw[if_pos e];have j:=Qs r e;exact .tup (.tup (λz=>n (RZ (λ_=>rfl) _ z)) d j) (.inl (.inl d)) j
  . rw[if_neg e];exact .tup (.tup (λz=>z) d (Xx r)) (.inl (.inl d)) (Xx r)
theorem xq.vw(R:Rel K kd F B [] ad as σ H)(h:xq K kd F B [] ad σ H v r)(e:r.view as=some (d,lv)):Vw K kd (Qn F B (Gw [] ad) lv) H v d:=by
 cases r with
 |ow o=>
  cases e;exact(Tg h).vw
 |bo i=>
  have e:(match as[i]? with|some (some o)=>some (o.toD,o.kl)|_=>none)=some (d,lv):=e;cases k:as[i]? with
  |none=>rw[k]at e;cases e
  |some s=>
   cases s with
   |none=>rw[k]at e;cases e
   |some o=>
    rw[k]at e;cases e;obtain⟨w,a,b⟩:=R.sl i _ k;rw[h.2]at a;cases a;exact b.vw
def Rel.add(R:Rel K kd F B T ad as σ H)(hn:N.Nodup)(hl:∀a ∈ N,H a=none)(k:∀b u,H b=some u->H' b=some u)(h1:∀a ∈ N,H' a≠none):Rel K kd F B (N++T) ad as σ H'/\Grow (Gw T ad) H (Gw (N++T) ad) H':=by
 have g:Grow (Gw T ad) H (Gw (N++T) ad) H':=⟨λb u h _=>k b u h,λb h=>by
  rcases h with h|h
  . rcases zzM.mp h with h|h
    . exact .inr (hl b h)
    . exact .inl (.inl h)
  . exact .inl (.inr h)⟩
 have c:∀a,H a≠none->H' a≠none:=λa z=>by
  cases e:H a with
  |none=>exact absurd e z
  |some u=>rw[k a u e];simp
 refine⟨⟨R.len,R.out,R.nd,R.inj, ?_,λi a m z=>?_,λa z=>c a (R.ftr a z),λa z=>?_,λa z=>?_,λi s e=>(R.sl i s e).grow g λa _ u h=>k a u h⟩,g⟩
 . refine zxF.mpr ⟨hn,R.tnd,λa m b l e=>?_⟩;subst e;exact(R.gtr a (.inl l)).1 (hl a m)
 . rcases zzM.mp z with z|z
   . exact(R.gtr a (.inr ⟨i,m⟩)).1 (hl a z)
   . exact R.dis i a m z
 . obtain⟨d,n,j⟩:=R.btr a z;refine⟨c a d,n,λy=>?_⟩
   rcases y with y|y
   . rcases zzM.mp y with y|y
     . exact d (hl a y)
     . exact j (.inl y)
   . exact j (.inr y)
 . rcases z with z|z
   . rcases zzM.mp z with z|z
     . exact⟨h1 a z,λf=>R.ftr a f (hl a z)⟩
     . exact⟨c a (R.gtr a (.inl z)).1,(R.gtr a (.inl z)).2⟩
   . exact⟨c a (R.gtr a (.inr z)).1,(R.gtr a (.inr z)).2⟩
def Rel.more(R:Rel K kd F B T ad as σ H)(k:∀b u,H b=some u->H' b=some u):Rel K kd F B T ad as σ H'/\Grow (Gw T ad) H (Gw T ad) H':=
 R.add (N:=[]) zyJ (λ_ m=>nomatch m) k (λ_ m=>nomatch m)
def Rel.news(R:Rel K kd F B [] ad as σ H)(hn:T'.Nodup)(hl:∀a ∈ T',H a=none)(k:∀b u,H b=some u->H' b=some u)(h1:∀a ∈ T',H' a≠none):Rel K kd F B T' ad as σ H'/\Grow (Gw [] ad) H (Gw T' ad) H':=by
 have:=R.add hn hl k h1;rw[zyE]at this;exact this
end
inductive R0 where
 |im (d:D)|fl (ds:List D)|fd (kvs:List (Key×D))
def RQ(K:zzA)(kd:KD)(O:Addr->Prop)(H:Hp)(Q:VK):R0->Prop
 | .im d=>∀v H',(∀b o,H b=some o->H' b=some o)->Rp K kd O H' v d->Q v H'
 | .fl ds=>∀l vs H',H l=none->(∀b o,H b=some o->H' b=some o)->H' l=some (.lst vs)->RpL K kd (WU O (· = l)) H' vs ds->Q (.ref l) H'
 | .fd ds=>∀l vs H',H l=none->(∀b o,H b=some o->H' b=some o)->H' l=some (.dK vs)->RpM K kd (WU O (· = l)) H' vs ds->Q (.ref l) H'
noncomputable def wrap(lv:Option Bool):R0->Option RV
 | .im d=>if(zN d||lv.isSome)=true then some (.ow (K8 (lv.getD false) d))else none
 | .fl ds=>if(ds.all zN||lv.isSome)=true then some (.ow (.nd .ls (ds.map (K8 (lv.getD false)))))else none
 | .fd kvs=>if((kvs.map (·.2)).all zN||lv.isSome)=true then some (.ow (.nd (.dc (kvs.map (·.1))) ((kvs.map (·.2)).map (K8 (lv.getD false)))))else none
def bS_(h:o.bind f=some b):∃a,o=some a/\f a=some b:=by
 cases o with
 |none=>cases h
 |some a=>exact⟨a,rfl,h⟩
def ite_some'[Decidable c](h:(if c then a else none)=some b):c/\a=some b:=by
 by_cases d:c
 . rw[if_pos d]at h;exact⟨d,h⟩
 . rw[if_neg d]at h;cases h
def zM[Decidable c](h:(if c then some a else none)=some b):c/\a=b:=by
 by_cases d:c
 . rw[if_pos d]at h;cases h;exact⟨d,rfl⟩
 . rw[if_neg d]at h;cases h
section
variable{K:zzA}{kd:KD}{F B:Addr->Prop}{G:Addr->Prop}{ad:Ad}{as:AS}{σ:St}{H H':Hp}{v:V}{r:R0}{rv:RV}{Q:VK}{lv:Option Bool}
def JA(h:zN d=true\/lv.isSome=true)(hO:∀st,lv=some st->∀a,Lv F B G st a->Ob a)(rp:Rp K kd Ob H v d):Lf K kd F B G H (zN d||lv.getD false) v d:=by
 cases e:zN d with
 |true=>exact rp.flat e
 |false=>
  rw[e]at h;cases lv with
  |none=>rcases h with h|h<;>cases h
  |some b=>exact rp.less (hO b rfl)
def Sq(hO:∀st,lv=some st->∀a,Lv F B G st a->Ob a)(e:(ds.all zN||lv.isSome)=true)(h:RpL K kd Ob H vs ds):RoL (Lf K kd F B G H) N H vs (ds.map (K8 (lv.getD false))) []:=
 RpL.ind (P:=λc b=>(b.all zN||lv.isSome)=true->RoL (Lf K kd F B G H) N H c (b.map (K8 (lv.getD false))) []) (λ_=>.nil) (λ{v d c b} h _ f e=>by
  rw[List.all_cons]at e;have g:zN d=true\/lv.isSome=true:=by
   cases h1:lv.isSome<;>cases h2:zN d<;>simp[h1,h2]at e ⊢
  have i:(b.all zN||lv.isSome)=true:=by
   cases h1:lv.isSome with
   |true=>simp
   |false=>
    rw[h1,Bool.or_false,zyC]at e;rw[Bool.or_false];exact e.2
  exact RoL.cons (.lf (JA g hO h)) (f i)) h e
def Bn{O:Addr->Prop}{vs:List (Key×V)}{ds:List (Key×D)}(h:RpM K kd O H vs ds):vs=(ds.map (·.1)).zip (vs.map (·.2))/\RpL K kd O H (vs.map (·.2)) (ds.map (·.2)):=
 RpM.ind (P:=λa b=>a=(b.map (·.1)).zip (a.map (·.2))/\RpL K kd O H (a.map (·.2)) (b.map (·.2))) ⟨rfl,.nil⟩ (λh _ c=>by
  obtain⟨d,e⟩:=c;refine⟨?_,.cons h e⟩
  conv=>lhs;rw[d]
  rfl) h
def Za(R:Rel K kd F B [] ad as σ H)(e:wrap lv r=some rv)(q:∀v T' H',Rel K kd F B T' ad as σ H'->xq K kd F B T' ad σ H' v rv->Grow (Gw [] ad) H (Gw T' ad) H'->Q v H'):RQ K kd (Qn F B (Gw [] ad) lv) H Q r:=by
 have n:∀(l:List Addr) f,lv=some f->∀a,Lv F B (Gw l ad) f a->WU (Qn F B (Gw [] ad) lv) (· ∈ l) a:=by
  intro l f e a z;subst e
  rcases z with z|z|z
  . exact .inl (.inl z)
  . exact .inr z
  . exact .inl (.inr (.inr z))
 cases r with
 |im d=>
  obtain⟨c,rfl⟩:=zM e;intro v i k h;obtain⟨j,g⟩:=R.more k;refine q v [] i j (.lf (JA ((Bool.or_eq_true _ _).mp c) (λf e a z=>?_) h)) g;exact(n [] f e a z).elim id λm=>nomatch m
 |fl s=>
  obtain⟨c,rfl⟩:=zM e;intro l p i o k b h;obtain⟨j,g⟩:=R.news (T':=[l]) (by simp) (λa m=>by rw[zzR.mp m];exact o) k (λa m=>by rw[zzR.mp m,b];simp);exact q _ [l] i j (.ls b (Sq (λf e a z=>(n [l] f e a z).elim .inl λm=>.inr (zzR.mp m)) c h)) g
 |fd s=>
  obtain⟨c,rfl⟩:=zM e;intro l p i o k b h;obtain⟨j,g⟩:=R.news (T':=[l]) (by simp) (λa m=>by rw[zzR.mp m];exact o) k (λa m=>by rw[zzR.mp m,b];simp);obtain⟨t,u⟩:=Bn h;refine q _ [l] i j (.dc (vs:=p.map (·.2)) (by rw[b,<-t]) (by rw[zzB,zzB,h.length]) (Sq (λf e a z=>(n [l] f e a z).elim .inl λm=>.inr (zzR.mp m)) c u)) g
end
abbrev EF:=AS->Option (RV×AS)
def al(K:zzA)(kd:KD)(f:EF):TE:=λσ H Q=>∃F B ad as r as',Rel K kd F B [] ad as σ H/\f as=some (r,as')/\
 ∀v T' ad' H',Rel K kd F B T' ad' as' σ H'->xq K kd F B T' ad' σ H' v r->Grow (Gw [] ad) H (Gw T' ad') H'->Q v H'
@[irreducible] def AE(X:Cx)(kd:KD)(e:Expr)(f:EF):Prop:=PE X e (al X.K kd f)
def yE(h:PE X e t)(k:∀σ H Q,t' σ H Q->t σ H Q):PE X e t':=λa s σ H Q I q=>h a s σ H Q I (k σ H Q q)
section
variable{K:zzA}{kd:KD}{F B:Addr->Prop}{ad:Ad}{as as1:AS}{σ:St}{H:Hp}{r:RV}{f:EF}{P:VK}
def wH(R:Rel K kd F B [] ad as σ H)(e:f as=some (r,as1))(k:∀v ad1 H1,Rel K kd F B [] ad1 as1 σ H1->xq K kd F B [] ad1 σ H1 v r.frz->Grow (Gw [] ad) H (Gw [] ad1) H1->P v H1):al K kd f σ H P:=
 ⟨F,B,ad,as,r,as1,R,e,λv h a c b d g=>k v a c b.drop (xq.drop b d) (g.trans (Grow.less Gw.drop))⟩
end
def J3(X:Cx)(kd:KD)(f:Value->Value->Sem Value)(g:D->D->Option R0):Prop:=
 QF X f (λx y H Q=>∃O d e r,(∀a,O a->H a≠none)/\Vw X.K kd O H x d/\Vw X.K kd O H y e/\g d e=some r/\RQ X.K kd O H Q r)
inductive VwL(K:zzA)(kd:KD)(O:Addr->Prop)(H:Hp):List V->List D->Prop
 |nil:VwL K kd O H [] []
 |cons {v:V}{d:D}{vs:List V}{ds:List D}:Vw K kd O H v d->VwL K kd O H vs ds->VwL K kd O H (v::vs) (d::ds)
def YJ(X:Cx)(kd:KD)(f:Value)(g:List D->Option R0):Prop:=
 Y1 X f (λxs H Q=>∃O ds r,(∀a,O a->H a≠none)/\VwL X.K kd O H xs ds/\g ds=some r/\RQ X.K kd O H Q r)
def rj(X:Cx)(kd:KD)(g:D->D->Option R0):Prop:=
 u3 X (λx y H Q=>∃O d e r,(∀a,O a->H a≠none)/\Vw X.K kd O H x d/\Vw X.K kd O H y e/\g d e=some r/\RQ X.K kd O H Q r)
noncomputable def meet:Option Bool->Option Bool->Option Bool
 |some a,some b=>some (a&&b)
 |_,_=>none
def Qn.meet1:∀x,Qn F B G (meet a b) x->Qn F B G a x:=λx h=>by
 cases a with
 |none=>cases b<;>exact h.elim
 |some p=>
  cases b with
  |none=>exact h.elim
  |some q=>exact RZ (λz=>((zyC _ _).mp z).1) x h
def Qn.meet2:∀x,Qn F B G (meet a b) x->Qn F B G b x:=λx h=>by
 cases a with
 |none=>cases b<;>exact h.elim
 |some p=>
  cases b with
  |none=>exact h.elim
  |some q=>exact RZ (λz=>((zyC _ _).mp z).2) x h
theorem Vw.less{K:zzA}{kd:KD}{O O':Addr->Prop}{H:Hp}{v:V}{d:D}(g:∀a,O' a->O a)(h:Vw K kd O H v d):Vw K kd O' H v d:=by
 cases h with
 |non=>exact .non
 |bl b=>exact .bl b
 |int i=>exact .int i
 |str x=>exact .str x
 |tup r s l=>exact .tup (r.less g) s (l.less g)
 |lst h l=>exact .lst h (l.less g)
 |dct h l=>exact .dct h (l.less g)
 |cl c=>exact .cl c
 |ob h k l=>exact .ob h k (l.less g)
 |dt h k l=>exact .dt h k (l.less g)
noncomputable def f2(fa fb:EF)(g:D->D->Option R0):EF:=λas=>(fa as).bind λp=>(fb p.2).bind λq=>(p.1.frz.view q.2).bind λx=>(q.1.frz.view q.2).bind λy=>(g x.1 y.1).bind λr=>(wrap (meet x.2 y.2) r).bind λz=>some (z,q.2)
def Ff(h:f2 fa fb g as=some (rv,as')):
 ∃p as1 q x y lx ly r,fa as=some (p,as1)/\fb as1=some (q,as')/\p.frz.view as'=some (x,lx)/\q.frz.view as'=some (y,ly)/\g x y=some r/\wrap (meet lx ly) r=some rv:=by
 unfold f2 at h;obtain⟨⟨p,a⟩,b,h⟩:=bS_ h;obtain⟨⟨q,c⟩,d,h⟩:=bS_ h;obtain⟨⟨x,e⟩,f,h⟩:=bS_ h;obtain⟨⟨y,i⟩,j,h⟩:=bS_ h;obtain⟨r,k,h⟩:=bS_ h;obtain⟨z,l,h⟩:=bS_ h;cases h;exact⟨p,a,q,x,y,e,i,r,b,d,f,j,k,l⟩
section
variable{X:Cx}{kd:KD}{a b c:Expr}{fa fb fc:EF}{pos:Pos}
def rf(hr:∀x y H Q,(∃O d e r,(∀a,O a->H a≠none)/\Vw X.K kd O H x d/\Vw X.K kd O H y e/\g d e=some r/\RQ X.K kd O H Q r)->R2' x y H Q)
 (h:al X.K kd (f2 fa fb g) σ H Q):tu R2' (al X.K kd fa) (al X.K kd fb) σ H Q:=by
 obtain⟨F,B,N,as,r,k,R,e,q⟩:=h;obtain⟨p,l,z,x,y,P,S,m,n,o,s,t,A,C⟩:=Ff e;refine wH R n λv D T E b G=>wH E o λu c U R2 f j=>hr _ _ _ _ ?_;exact⟨_,x,y,m,R2.tr _,(xq.vw R2 (b.grow j) s).less Qn.meet1,(xq.vw R2 f t).less Qn.meet2,A,Za R2 C λw I J L i M=>q w I c J L i ((G.trans j).trans M)⟩
def Aq(ho:J3 X kd (binaryOp op) g)(ha:AE X kd a fa)(hb':AE X kd b fb):AE X kd (.BinOp a op b pos) (f2 fa fb g):=by with_unfolding_all exact(yE (Ji ho ha hb') λσ H Q h=>rf (λ_ _ _ _ z=>z) h)
def Ar(ho:J3 X kd (compareOp op) g)(ha:AE X kd a fa)(hb':AE X kd b fb)(hm:behindInMarks op b=false):AE X kd (.Compare a [op] [b] pos) (f2 fa fb g):=by with_unfolding_all exact(yE (CV ho ha hb' hm) λσ H Q h=>rf (λ_ _ _ _ z=>z) h)
def Jr(ho:rj X kd g)(ha:AE X kd a fa)(hb':AE X kd b fb)(hm:v_ b):AE X kd (.Subscript a b pos) (f2 fa fb g):=by with_unfolding_all exact(yE (Gv ho ha hb' hm) λσ H Q h=>rf (λ_ _ _ _ z=>z) h)
def fC(d:D):EF:=λas=>some (.ow (.lf true d),as)
noncomputable def fV(i:Nat):EF:=λas=>match as[i]? with
 |some (some (.lf st d))=>some (.ow (.lf st d),as)
 |some (some (.nd _ _))=>some (.bo i,as)
 |_=>none
def LB(h:PE X a (tC v))(hr:∀O H,Rp X.K kd O H v d):AE X kd a (fC d):=by with_unfolding_all exact(yE h λσ H Q h=>by
 obtain⟨F,B,b,as,r,c,R,e,q⟩:=h;cases e;exact q v [] b H R (.lf (hr _ _)) Grow.refl)
def J4(h:PE X a (WZ i)):AE X kd a (fV i):=by with_unfolding_all exact(yE h λσ H Q h=>by
 obtain⟨F,B,b,as,r,g,R,e,q⟩:=h;unfold fV at e;cases k:as[i]? with
 |none=>rw[k]at e;cases e
 |some s=>
  rw[k]at e;cases s with
  |none=>cases e
  |some o=>
   obtain⟨v,f,c⟩:=R.sl i _ k;cases o with
   |lf m d=>
    cases e;have j:b i=[]:=by
            generalize l:b i=n at c;cases c;rfl
    rw[j]at c;exact⟨v,f,q v [] b H R c Grow.refl⟩
   |nd p t=>
    cases e;exact⟨_,f,q _ [] b H R ⟨rfl,f⟩ Grow.refl⟩)
end
def Yv(ad:Ad)(i:Nat)(x:List Addr):Ad:=λj=>if j=i then x else ad j
section
variable{K:zzA}{kd:KD}{F B:Addr->Prop}{T T1 T2:List Addr}{ad ad1:Ad}{as as1:AS}{σ:St}{H H1:Hp}{v:V}{r:RV}{o:O}{i:Nat}
def yn:Yv ad i x i=x:=if_pos rfl
def yp(h:j≠i):Yv ad i x j=ad j:=if_neg h
def xG:∀a,Gw T (Yv ad i []) a->Gw T ad a:=λa h=>by
 rcases h with h|⟨j,h⟩
 . exact .inl h
 . by_cases e:j=i
   . subst e;rw[yn]at h;cases h
   . rw[yp e]at h;exact .inr ⟨j,h⟩
def ZT:∀a,Gw [] (Yv ad i T) a->Gw T ad a:=λa h=>by
 rcases h with h|⟨j,h⟩
 . cases h
 . by_cases e:j=i
   . subst e;rw[yn]at h;exact .inl h
   . rw[yp e]at h;exact .inr ⟨j,h⟩
def FI:∀st a,Lv F (λa=>B a\/a ∈ T) (Gw [] ad) st a->Lv F B (Gw T ad) st a:=λb a z=>by
 rcases z with(z|z|z)|z
 . exact .inl (.inl z)
 . exact .inl (.inr z)
 . exact .inr (.inl z)
 . exact .inr (Gw.drop a z)
def Xz:∀st a,Lv F B (Gw (T1++T2) ad) st a->Lv F (λa=>B a\/a ∈ T1) (Gw T2 ad) st a:=λb a z=>by
 rcases z with(z|z)|z|z
 . exact .inl (.inl z)
 . exact .inl (.inr (.inl z))
 . rcases zzM.mp z with z|z
   . exact .inl (.inr (.inr z))
   . exact .inr (.inl z)
 . exact .inr (.inr z)
def Rel.hide(R:Rel K kd F B T ad as σ H):Rel K kd F (λa=>B a\/a ∈ T) [] ad as σ H where
 len:=R.len
 out:=R.out
 nd:=R.nd
 inj:=R.inj
 tnd:=zyJ
 dis:=λ_ _ _ z=>nomatch z
 ftr:=R.ftr
 btr:=λa h=>by
  rcases h with h|h
  . obtain⟨b,c,d⟩:=R.btr a h;exact⟨b,c,λz=>d (Gw.drop a z)⟩
  . exact⟨(R.gtr a (.inl h)).1,(R.gtr a (.inl h)).2,λz=>z.elim (λm=>nomatch m) λ⟨j,y⟩=>R.dis j a y h⟩
 gtr:=λa h=>R.gtr a (Gw.drop a h)
 sl:=λi s e=>(R.sl i s e).lv FI
def Rel.unhide(hn:T1.Nodup)(hb:∀a ∈ T1,¬B a)(R:Rel K kd F (λa=>B a\/a ∈ T1) T2 ad as σ H):Rel K kd F B (T1++T2) ad as σ H where
 len:=R.len
 out:=R.out
 nd:=R.nd
 inj:=R.inj
 tnd:=zxF.mpr ⟨hn,R.tnd,λa m b d e=>by subst e;exact(R.btr a (.inr m)).2.2 (.inl d)⟩
 dis:=λi a m z=>by
  rcases zzM.mp z with z|z
  . exact(R.btr a (.inr z)).2.2 (.inr ⟨i,m⟩)
  . exact R.dis i a m z
 ftr:=R.ftr
 btr:=λa h=>by
  obtain⟨f,g,c⟩:=R.btr a (.inl h);refine⟨f,g,λz=>?_⟩
  rcases z with z|z
  . rcases zzM.mp z with z|z
    . exact hb a z h
    . exact c (.inl z)
  . exact c (.inr z)
 gtr:=λa h=>by
  rcases h with h|h
  . rcases zzM.mp h with h|h
    . exact⟨(R.btr a (.inr h)).1,(R.btr a (.inr h)).2.1⟩
    . exact R.gtr a (.inl h)
  . exact R.gtr a (.inr h)
 sl:=λi s e=>(R.sl i s e).lv Xz
theorem Rel.frz(R:Rel K kd F B T ad as σ H)(h:as[i]? = some (some o)):
 Rel K kd F B T (Yv ad i []) (as.set i (some o.frz)) σ H/\∃v,σ[i]? = some (some v)/\Rp K kd (Lv F B (Gw T (Yv ad i [])) o.str) H v o.toD:=by
 obtain⟨v,f,t⟩:=R.sl i _ h;have g:Rp K kd (Lv F B (Gw T (Yv ad i [])) o.str) H v o.toD:=
  Ro.rp o.str (λE v d u r=>r.less λa z=>z.elim (λy=>.inl (y.elim (λx=>.inl ⟨u x.1,x.2⟩) .inr)) λy=>.inr (xG a y))
   (λa n z=>n (z.elim (λy=>.inl (y.elim (λx=>.inl ⟨rfl,x.2⟩) .inr)) λy=>.inr (xG a y))) id
   (λa m z=>by
    rcases z with(z|z)|z|⟨j,z⟩
    . exact(R.gtr a (.inr ⟨i,m⟩)).2 z.2
    . exact(R.btr a z).2.2 (.inr ⟨i,m⟩)
    . exact R.dis i a m z
    . by_cases e:j=i
      . subst e;rw[yn]at z;cases z
      . rw[yp e]at z;exact e (R.inj j i a z m)) t
 have w:i<as.length:=(zzG.mp h).1;refine⟨⟨by rw[zzU];exact R.len,λj l=>?_,λj=>?_,λj k a b c=>?_,R.tnd,λj a b=>?_,R.ftr,λa b=>?_,λa b=>R.gtr a (xG a b),λj s e=>?_⟩,v,f,g⟩
 . rw[zzU]at l;rw[yp (by omega)];exact R.out j l
 . by_cases e:j=i
   . subst e;rw[yn];exact zyJ
   . rw[yp e];exact R.nd j
 . by_cases e:j=i
   . subst e;rw[yn]at b;cases b
   . by_cases p:k=i
     . subst p;rw[yn]at c;cases c
     . rw[yp e]at b;rw[yp p]at c;exact R.inj j k a b c
 . by_cases e:j=i
   . subst e;rw[yn]at b;cases b
   . rw[yp e]at b;exact R.dis j a b
 . obtain⟨A,C,D⟩:=R.btr a b;exact⟨A,C,λz=>D (xG a z)⟩
 . by_cases q:j=i
   . subst q;rw[zyK w]at e;cases e;rw[yn];exact⟨v,f,.lf g⟩
   . rw[zzY (Ne.symm q)]at e;rw[yp q];exact(R.sl j s e).less xG
def Rel.put(R:Rel K kd F B T ad as σ H)(hi:i<as.length)(h:w5 K kd F B (Gw T ad) H v o T):Rel K kd F B [] (Yv ad i T) (as.set i (some o)) (σ.set i (some v)) H:=by
 have f:i<σ.length:=by rw[<-R.len];exact hi
 refine⟨by rw[zzU,zzU];exact R.len,λj g=>?_,λj=>?_,λj k a b c=>?_,zyJ,(λ_ _ _ z=>nomatch z),R.ftr,λa b=>?_,λa b=>R.gtr a (ZT a b),λj s e=>?_⟩
 . rw[zzU]at g;rw[yp (by omega)];exact R.out j g
 . by_cases e:j=i
   . subst e;rw[yn];exact R.tnd
   . rw[yp e];exact R.nd j
 . by_cases e:j=i
   . subst e;rw[yn]at b
     by_cases d:k=j
     . exact d.symm
     . rw[yp d]at c;exact(R.dis k a c b).elim
   . rw[yp e]at b
     by_cases d:k=i
     . subst d;rw[yn]at c;exact(R.dis j a b c).elim
     . rw[yp d]at c;exact R.inj j k a b c
 . obtain⟨l,m,n⟩:=R.btr a b;exact⟨l,m,λz=>n (ZT a z)⟩
 . by_cases q:j=i
   . subst q;rw[zyK hi]at e;cases e;rw[yn,zyK f];exact⟨v,rfl,h.less ZT⟩
   . rw[zzY (Ne.symm q)]at e;rw[yp q,zzY (Ne.symm q)];exact(R.sl j s e).less ZT
noncomputable def OO(as:AS):RV->Option (O×AS)
 | .ow o=>some (o,as)
 | .bo i=>match as[i]? with
  |some (some o)=>some (o.frz,as.set i (some o.frz))
  |_=>none
def RU(R:Rel K kd F B T ad as σ H)(h:xq K kd F B T ad σ H v r)(e:OO as r=some (o,as')):∃ad',Rel K kd F B T ad' as' σ H/\w5 K kd F B (Gw T ad') H v o T/\∀a,Gw T ad' a->Gw T ad a:=by
 cases r with
 |ow j=>cases e;exact⟨ad,R,h,λ_ z=>z⟩
 |bo i=>
  have e:(match as[i]? with|some (some o)=>some (o.frz,as.set i (some o.frz))|_=>none)=some (o,as'):=e;cases k:as[i]? with
  |none=>rw[k]at e;cases e
  |some s=>
   cases s with
   |none=>rw[k]at e;cases e
   |some l=>
    rw[k]at e;cases e;obtain⟨c,d⟩:=h;subst c;obtain⟨f,w,b,g⟩:=R.frz k;rw[d]at b;cases b;exact⟨_,f,.lf g,xG⟩
end
abbrev TF:=AS->Option (Bool×AS)
def Ci(K:zzA)(kd:KD)(f:TF):TT:=λσ H Q=>∃F B ad as b as',Rel K kd F B [] ad as σ H/\f as=some (b,as')/\
 ∀ad' H',Rel K kd F B [] ad' as' σ H'->Grow (Gw [] ad) H (Gw [] ad') H'->Q b H'
@[irreducible] def AT(X:Cx)(kd:KD)(e:Expr)(f:TF):Prop:=PT X e (Ci X.K kd f)
@[irreducible] def AW(X:Cx)(kd:KD)(e:Expr)(f:TF):Prop:=PW X e (Ci X.K kd f)
noncomputable def truth:D->Option Bool
 | .non=>some false
 | .bl b=>some b
 | .int i=>some (i != 0)
 | .str x=>if x.length<=sizeLine then some ((x.length:Int) != 0)else none
 | .tup ds=>some (!ds.isEmpty)
 | .lst ds=>some (!ds.isEmpty)
 |_=>none
noncomputable def fT(f:EF):TF:=λas=>(f as).bind λp=>(p.1.frz.view p.2).bind λx=>(truth x.1).bind λb=>some (b,p.2)
noncomputable def Wp(f g:TF):TF:=λas=>(f as).bind λp=>if p.1=true then g p.2 else some (false,p.2)
noncomputable def XM(f g:TF):TF:=λas=>(f as).bind λp=>if p.1=true then some (true,p.2)else g p.2
noncomputable def YN(f:TF):TF:=λas=>(f as).bind λp=>some (!p.1,p.2)
noncomputable def QW:D->Option Int
 | .int i=>some i
 |_=>none
noncomputable def qw:D->Option Str
 | .str i=>some i
 |_=>none
noncomputable def ER:D->Option (List D)
 | .lst i=>some i
 |_=>none
noncomputable def qi:D->Option (List D)
 | .tup i=>some i
 |_=>none
def WH(e:ER d=some i):d = .lst i:=by
 cases d with
 |lst j=>cases e;rfl
 |_=>cases e
def Dq(e:qi d=some i):d = .tup i:=by
 cases d with
 |tup j=>cases e;rfl
 |_=>cases e
def Ko(h:QW d=some c):d = .int c:=by
 cases d with
 |int i=>cases h;rfl
 |_=>cases h
def u6:D->Option Bool
 | .bl i=>some i
 |_=>none
def AZ(h:u6 d=some c):d = .bl c:=by
 cases d with
 |bl i=>cases h;rfl
 |_=>cases h
noncomputable def qF:RV->Option D
 | .ow (.lf _ d)=>some d
 |_=>none
def SD(h:qF r=some d):∃st,r = .ow (.lf st d):=by
 cases r with
 |bo i=>cases h
 |ow o=>
  cases o with
  |nd k b=>cases h
  |lf a d=>cases h;exact⟨a,rfl⟩
def qx(r:RV):Option Bool:=(qF r).bind u6
def Sm(h:qx r=some c):∃st,r = .ow (.lf st (.bl c)):=by
 obtain⟨d,a,h⟩:=bS_ h;cases AZ h;exact SD a
def pE(r:RV):Option Int:=(qF r).bind QW
def Dp(h:pE r=some c):∃st,r = .ow (.lf st (.int c)):=by
 obtain⟨d,a,h⟩:=bS_ h;cases Ko h;exact SD a
def C9{α:Type}:List α->Option (α×α)
 | [a,b]=>some (a,b)
 |_=>none
def KG{α:Type}{os:List α}{p:α×α}(h:C9 os=some p):os=[p.1,p.2]:=by
 cases os with
 |nil=>cases h
 |cons x r=>
  cases r with
  |nil=>cases h
  |cons y r=>
   cases r with
   |nil=>cases h;rfl
   |cons _ _=>cases h
noncomputable def rG(r:RV):Option (Bool×List D):=match r with
 | .ow (.lf s d)=>(ER d).bind λl=>some (s,l)
 |_=>none
def HI(h:rG r=some p):r = .ow (.lf p.1 (.lst p.2)):=by
 cases r with
 |bo i=>cases h
 |ow o=>
  cases o with
  |nd k b=>cases h
  |lf c d=>
   obtain⟨l,a,h⟩:=bS_ (show(ER d).bind _=_ from h);cases h;cases WH a;rfl
noncomputable def Nl(f g:EF):EF:=λas=>(f as).bind λp=>(qx p.1).bind λc=>if c=true then g p.2 else some (.ow (.lf true (.bl false)),p.2)
noncomputable def OW(f:EF):EF:=λas=>(f as).bind λp=>(qx p.1).bind λc=>some (.ow (.lf true (.bl (!c))),p.2)
section
variable{X:Cx}{kd:KD}{a b c:Expr}{fa fb:EF}{ta tb:TF}{pos:Pos}{es rest:List Expr}
def MU(h:PT X e t)(k:∀σ H Q,t' σ H Q->t σ H Q):PT X e t':=λa s σ H Q I q=>h a s σ H Q I (k σ H Q q)
def Oz(h:PW X e t)(k:∀σ H Q,t' σ H Q->t σ H Q):PW X e t':=λw a s σ H Q I q=>h w a s σ H Q I (k σ H Q q)
def JT{O:Addr->Prop}{H:Hp}{v:V}{d:D}{k:Bool}(h:Vw X.K kd O H v d)(e:truth d=some k):uu X.K v H k:=by
 cases h with
 |non=>cases e;rfl
 |bl b=>cases e;rfl
 |int i=>cases e;rfl
 |str x=>
  have e:(if x.length<=sizeLine then some ((x.length:Int) != 0)else none)=some k:=e
  by_cases a:x.length<=sizeLine
  . rw[if_pos a]at e;cases e;exact⟨a,rfl⟩
  . rw[if_neg a]at e;cases e
 |tup r c f=>
  cases e;refine .inr (.inl ⟨_,c, ?_⟩);cases f<;>rfl
 |lst c f=>
  cases e;refine .inl ⟨_,c.sq, ?_⟩;cases f<;>rfl
 |dct=>cases e
 |cl=>cases e
 |ob=>cases e
 |dt=>cases e
def DN(ha:AE X kd a fa)(he:∀whole,isTrue a X.env whole=(do let v <-whole;standAt a.pos;holding [v] (truthy v))):AT X kd a (fT fa):=by with_unfolding_all exact(MU (Su ha he) λσ H Q h=>by
 obtain⟨F,B,r,as,s,g,R,e,q⟩:=h;obtain⟨⟨p,i⟩,j,e⟩:=bS_ (show(fa as).bind _=_ from e);obtain⟨⟨d,t⟩,l,e⟩:=bS_ e;obtain⟨k,m,e⟩:=bS_ e;cases e;exact wH R j λv b n f c o=>⟨_,JT (xq.vw f c l) m,q b n f o⟩)
def DY(ho:J3 X kd (compareOp op) g)(hg:∀x y r,g x y=some r->∃k,r = .im (.bl k))(ha:AE X kd a fa)(hb:AE X kd b fb)(hm:behindInMarks op b=false):
 AT X kd (.Compare a [op] [b] pos) (fT (f2 fa fb g)):=by with_unfolding_all exact(MU (CA ho ha hb hm) λσ H Q h=>by
 obtain⟨F,B,m,as,E,n,R,e,q⟩:=h;obtain⟨⟨p,o⟩,f,e⟩:=bS_ (show(f2 fa fb g as).bind _=_ from e);obtain⟨⟨d,G⟩,s,e⟩:=bS_ e;obtain⟨k,t,e⟩:=bS_ e;cases e;obtain⟨_,_,_,x,y,_,_,I,_,_,_,_,u,w⟩:=Ff f;obtain⟨J,rfl⟩:=hg _ _ _ u;cases w;cases s;cases t;refine rf (λ_ _ _ _ z=>z) ⟨F,B,m,as,_,_,R,f,λv A c C i j l=>?_⟩;generalize K:A=L at j i l;cases j with
 |lf D=>
  cases D;exact⟨_,rfl,q c C i l⟩)
def JU(ha:AT X kd a ta):AT X kd (.UnaryOp .Not a pos) (YN ta):=by with_unfolding_all exact(MU (Aw ha) λσ H Q h=>by
 obtain⟨F,B,c,as,l,d,R,e,q⟩:=h;obtain⟨⟨p,f⟩,i,e⟩:=bS_ (show(ta as).bind _=_ from e);cases e;exact⟨F,B,c,as,p,_,R,i,λb j k g=>q b j k g⟩)
def Rm(ha:AT X kd a ta):AW X kd (.BoolOp .And [a] pos) ta:=by with_unfolding_all exact(OU ha)
def Gy(ha:AT X kd a ta):AW X kd (.BoolOp .Or [a] pos) ta:=by with_unfolding_all exact(uh ha)
def Hc(ha:AT X kd a ta)(hb:AW X kd (.BoolOp .And (b::rest) pos) tb):AW X kd (.BoolOp .And (a::b::rest) pos) (Wp ta tb):=by with_unfolding_all exact(Oz (DG ha hb) λσ H Q h=>by
 obtain⟨F,B,k,as,l,f,R,e,q⟩:=h;obtain⟨⟨p,c⟩,m,e⟩:=bS_ (show(ta as).bind _=_ from e);refine⟨F,B,k,as,p,c,R,m,λd n j g=>?_⟩;cases p with
 |true=>exact⟨F,B,d,c,l,f,j,e,λi o R2 r=>q i o R2 (g.trans r)⟩
 |false=>cases e;exact q d n j g)
def Ju(ha:AT X kd a ta)(hb:AW X kd (.BoolOp .Or (b::rest) pos) tb):AW X kd (.BoolOp .Or (a::b::rest) pos) (XM ta tb):=by with_unfolding_all exact(Oz (tL ha hb) λσ H Q h=>by
 obtain⟨F,B,k,as,l,f,R,e,q⟩:=h;obtain⟨⟨p,c⟩,m,e⟩:=bS_ (show(ta as).bind _=_ from e);refine⟨F,B,k,as,p,c,R,m,λd n j g=>?_⟩;cases p with
 |false=>exact⟨F,B,d,c,l,f,j,e,λi o R2 r=>q i o R2 (g.trans r)⟩
 |true=>cases e;exact q d n j g)
def AW.at_(h:AW X kd e ta):AT X kd e ta:=by with_unfolding_all exact(PW.pt h)
def Jt{K:zzA}{F B:Addr->Prop}{T:List Addr}{ad:Ad}{σ:St}{H:Hp}{v:V}{st c:Bool}(h:xq K kd F B T ad σ H v (.ow (.lf st (.bl c)))):T=[]/\v = .bl c:=by
 have h:w5 K kd F B (Gw T ad) H v (.lf st (.bl c)) T:=h;generalize b:Gw T ad=G at h;cases h with
 |lf a=>cases a;exact⟨rfl,rfl⟩
def OL(ha:AE X kd a fa):AE X kd (.BoolOp op [a] pos) fa:=by with_unfolding_all exact(AL ha)
def Om(ha:AE X kd a fa)(hb:AE X kd (.BoolOp .And (b::rest) pos) fb):AE X kd (.BoolOp .And (a::b::rest) pos) (Nl fa fb):=by with_unfolding_all exact(yE (Dl ha hb) λσ H Q h=>by
 obtain⟨F,B,m,as,r,f,R,e,q⟩:=h;obtain⟨⟨p,c⟩,n,e⟩:=bS_ (show(fa as).bind _=_ from e);refine⟨F,B,m,as,p,c,R,n,λv x d o l i g=>?_⟩;obtain⟨k,s,e⟩:=bS_ e;obtain⟨y,rfl⟩:=Sm s;obtain⟨rfl,rfl⟩:=Jt i;cases k with
 |true=>exact⟨true,rfl,⟨F,B,d,c,r,f,l,e,λv t j u R2 i w=>q v t j u R2 i (g.trans w)⟩⟩
 |false=>
  cases e;exact⟨false,rfl,q _ [] d o l (.lf (.bl false)) g⟩)
def Au(ha:AE X kd a fa):AE X kd (.UnaryOp .Not a pos) (OW fa):=by with_unfolding_all exact(yE (AV ha) λσ H Q h=>by
 obtain⟨F,B,d,as,r,f,R,e,q⟩:=h;obtain⟨⟨p,b⟩,i,e⟩:=bS_ (show(fa as).bind _=_ from e);refine⟨F,B,d,as,p,b,R,i,λv o c j l m g=>?_⟩;obtain⟨k,n,e⟩:=bS_ e;obtain⟨s,rfl⟩:=Sm n;obtain⟨rfl,rfl⟩:=Jt m;cases e;exact⟨k,rfl,q _ [] c j l (.lf (.bl _)) g⟩)
end
abbrev AF:=AS->Option (List RV×AS)
inductive RVs(K:zzA)(kd:KD)(F B:Addr->Prop)(ad:Ad)(σ:St)(H:Hp):List V->List RV->Prop
 |nil:RVs K kd F B ad σ H [] []
 |cons {v:V}{r:RV}{vs:List V}{rs:List RV}:xq K kd F B [] ad σ H v r->RVs K kd F B ad σ H vs rs->RVs K kd F B ad σ H (v::vs) (r::rs)
def ux(K:zzA)(kd:KD)(f:AF):TA:=λσ H Q=>∃F B ad as rs as',Rel K kd F B [] ad as σ H/\f as=some (rs,as')/\
 ∀vs ad' H',Rel K kd F B [] ad' as' σ H'->RVs K kd F B ad' σ H' vs rs->Grow (Gw [] ad) H (Gw [] ad') H'->Q vs H'
@[irreducible] def AA(X:Cx)(kd:KD)(es:List Expr)(f:AF):Prop:=PA X es (ux X.K kd f)
def aN:AF:=λas=>some ([],as)
noncomputable def aC(fa:EF)(fr:AF):AF:=λas=>(fa as).bind λp=>(fr p.2).bind λq=>some (p.1.frz::q.1,q.2)
def Kq(h:PA X e t)(k:∀σ H Q,t' σ H Q->t σ H Q):PA X e t':=λb a s σ H Q I q=>h b a s σ H Q I (k σ H Q q)
abbrev DF:=AS->Option (List O×AS)
def pS(K:zzA)(kd:KD)(f:DF):TA:=λσ H Q=>∃F B ad as os as',Rel K kd F B [] ad as σ H/\f as=some (os,as')/\
 ∀vs T' ad' H',Rel K kd F B T' ad' as' σ H'->x9 K kd F B (Gw T' ad') H' vs os T'->Grow (Gw [] ad) H (Gw T' ad') H'->Q vs H'
@[irreducible] def AD(X:Cx)(kd:KD)(es:List Expr)(f:DF):Prop:=PA X es (pS X.K kd f)
def dN:DF:=λas=>some ([],as)
noncomputable def dC(fa:EF)(fr:DF):DF:=λas=>(fa as).bind λp=>(OO p.2 p.1).bind λx=>(fr x.2).bind λq=>some (x.1::q.1,q.2)
noncomputable def views(as:AS):List RV->Option (List D×Option Bool)
 | []=>some ([],some true)
 |r::rs=>(r.view as).bind λx=>(views as rs).bind λy=>some (x.1::y.1,meet x.2 y.2)
noncomputable def fP(fr:AF)(g:List D->Option R0):EF:=λas=>(fr as).bind λp=>(views p.2 p.1).bind λx=>(g x.1).bind λr=>(wrap x.2 r).bind λz=>some (z,p.2)
noncomputable def Os(as:AS):RV->Option (Bool×D)
 | .ow o=>some (zN o.toD||o.str,o.toD)
 | .bo i=>match as[i]? with
  |some (some o)=>some (false,o.toD)
  |_=>none
noncomputable def Z1(as:AS):List RV->Option (List (Bool×D))
 | []=>some []
 |r::rs=>(Os as r).bind λx=>(Z1 as rs).bind λy=>some (x::y)
noncomputable def zp(fr:AF)(g:List (Bool×D)->Option O):EF:=λas=>(fr as).bind λp=>(Z1 p.2 p.1).bind λx=>(g x).bind λo=>some (.ow o,p.2)
def rH(K:zzA)(kd:KD)(F:Addr->Prop)(H:Hp)(Q:VK)(o:O):Prop:=
 ∀v T H',T.Nodup->(∀a ∈ T,H a=none)->(∀b u,H b=some u->H' b=some u)->(∀a ∈ T,H' a≠none)->Ro (λ_ v d=>Rp K kd (WU F (· ∈ T)) H' v d) (λa=>¬WU F (· ∈ T) a) H' v o T->Q v H'
inductive RpA(K:zzA)(kd:KD)(F:Addr->Prop)(H:Hp):List V->List (Bool×D)->Prop
 |nil:RpA K kd F H [] []
 |cons {v:V}{st:Bool}{d:D}{vs:List V}{ds:List (Bool×D)}:Rp K kd (λa=>st=true/\F a) H v d->RpA K kd F H vs ds->RpA K kd F H (v::vs) ((st,d)::ds)
def JQ(K:zzA)(kd:KD)(g:List (Bool×D)->Option O):Sp:=λvs H Q _=>∃F ds o,(∀a,F a->H a≠none)/\RpA K kd F H vs ds/\g ds=some o/\rH K kd F H Q o
def Zw(os:List O):O:=if os.all O.isLf=true then .lf (O.strs os) (.tup (O.toDs os))else .nd .tp os
noncomputable def zY(fr:DF):EF:=λas=>(fr as).bind λp=>if p.1.length<=sizeLine then some (.ow (Zw p.1),p.2)else none
noncomputable def yF(fr:DF):EF:=λas=>(fr as).bind λp=>if p.1.length<=sizeLine then some (.ow (.nd .ls p.1),p.2)else none
section
variable{X:Cx}{kd:KD}{a b c:Expr}{fa fb:EF}{ta tb:TF}{pos:Pos}{es rest:List Expr}{fr:AF}{fd:DF}
theorem RpA.length{K:zzA}{F:Addr->Prop}{H:Hp}{vs:List V}{ds:List (Bool×D)}(h:RpA K kd F H vs ds):vs.length=ds.length:=by
 induction h with
 |nil=>rfl
 |cons _ _ a=>exact congrArg (· + 1) a
def Tc:AA X kd [] aN:=by with_unfolding_all exact(Kq Qu λσ H Q h=>by
 obtain⟨F,B,a,as,c,b,R,e,q⟩:=h;cases e;exact q [] a H R .nil Grow.refl)
def Cy(ha:AE X kd a fa)(hr:AA X kd es fr)(hs:starEach (a::es) X.env=(false,eval a X.env)::starEach es X.env):AA X kd (a::es) (aC fa fr):=by with_unfolding_all exact(Kq (Z3 ha hr hs) λσ H Q h=>by
 obtain⟨F,B,s,as,t,j,R,e,q⟩:=h;obtain⟨⟨p,b⟩,k,e⟩:=bS_ (show(fa as).bind _=_ from e);obtain⟨⟨z,l⟩,m,e⟩:=bS_ e;cases e;refine wH R k λv c u n d o=>⟨F,B,c,b,z,_,n,m,λw f r R2 g i=>?_⟩;exact q _ f r R2 (.cons (d.grow i) g) (o.trans i))
def KB:AD X kd [] dN:=by with_unfolding_all exact(Kq Qu λσ H Q h=>by
 obtain⟨F,B,a,as,c,b,R,e,q⟩:=h;cases e;exact q [] [] a H R .nil Grow.refl)
def Ig(ha:AE X kd a fa)(hr:AD X kd es fd)(hs:starEach (a::es) X.env=(false,eval a X.env)::starEach es X.env):AD X kd (a::es) (dC fa fd):=by with_unfolding_all exact(Kq (Z3 ha hr hs) λσ H Q h=>by
 obtain⟨F,B,ad,as,rs,as',R,e,q⟩:=h;obtain⟨⟨p,as1⟩,h1,e⟩:=bS_ (show(fa as).bind _=_ from e);obtain⟨⟨o,as2⟩,h2,e⟩:=bS_ e;obtain⟨⟨os,as3⟩,h3,e⟩:=bS_ e;cases e;refine⟨F,B,ad,as,p,as1,R,h1,λv T1 ad1 H1 R1 rv1 g1=>?_⟩;obtain⟨ad2,R2,ro2,le2⟩:=RU R1 rv1 h2;refine⟨F,_,ad2,as2,os,_,R2.hide,h3,λvs T3 ad3 H3 R3 ro3 g3=>?_⟩;have kT:∀a ∈ T1,∀u,H1 a=some u->H3 a=some u:=λa m u e=>g3.keep a u e λz=>z.elim (λy=>nomatch y) λ⟨i,y⟩=>R2.dis i a y m;have r1:w5 X.K kd F B (Gw (T1++T3) ad3) H3 v o T1:=w5.lv Xz (w5.grow g3 kT (w5.lv FI ro2));have r3:x9 X.K kd F B (Gw (T1++T3) ad3) H3 vs os T3:=x9.lv Xz ro3;refine q _ (T1++T3) ad3 H3 (R3.unhide R2.tnd λa m z=>(R2.btr a z).2.2 (.inl m)) (.cons r1 r3) ((g1.trans (Grow.less le2)).trans ⟨λb u e n=>g3.keep b u e λz=>n (Gw.drop b z),λb z=>?_⟩)
 rcases z with z|z
 . rcases zzM.mp z with z|z
   . exact .inl (.inl z)
   . exact(g3.own b (.inl z)).elim (λy=>.inl (Gw.drop b y)) .inr
 . exact(g3.own b (.inr z)).elim (λy=>.inl (Gw.drop b y)) .inr)
def Eh(h:AD X kd es fd):AE X kd (.Tuple es x1 pos) (zY fd):=by with_unfolding_all exact(yE (DU h) λσ H Q h=>by
 obtain⟨F,B,x,as,r,y,R,e,q⟩:=h;obtain⟨⟨j,A⟩,C,e⟩:=bS_ (show(fd as).bind _=_ from e);obtain⟨D,e⟩:=zM e;cases e;refine⟨F,B,x,as,j,_,R,C,λE g c m n f G=>⟨by rw[f.length];exact D,λp s=>?_⟩⟩;have k:∀b o,m b=some o->upd m p (.tup E) b=some o:=λb o t=>by rw[zK (yq t s)];exact t
 obtain⟨R2,v⟩:=n.more k;have d:=x9.grow v (λa _ u h=>k a u h) f;have w:∀l,¬Lv F B (Gw g c) l p:=λl z=>n.trk l p z s;refine q _ g c _ R2 ?_ (G.trans v);show w5 X.K kd F B (Gw g c) _ _ (Zw j) g;unfold Zw
 by_cases i:j.all O.isLf=true
 . rw[if_pos i];have:=Hr d i;subst this;exact .lf (.tup (w _) yd (Qs d i))
 . rw[if_neg i];exact .tp (w _) yd d)
def HE(h:AD X kd es fd):AE X kd (.List es pos) (yF fd):=by with_unfolding_all exact(yE (ue h) λσ H Q h=>by
 obtain⟨F,B,l,as,r,n,R,e,q⟩:=h;obtain⟨⟨s,t⟩,v,e⟩:=bS_ (show(fd as).bind _=_ from e);obtain⟨w,e⟩:=zM e;cases e;refine⟨F,B,l,as,s,_,R,v,λx A d f y c z=>⟨by rw[c.length];exact w,λp g=>?_⟩⟩;have k:∀b o,f b=some o->upd f p (.lst x) b=some o:=λb o i=>by rw[zK (yq i g)];exact i
 obtain⟨R2,j⟩:=y.add (N:=[p]) (by simp) (λa m=>by rw[zzR.mp m];exact g) k (λa m=>by rw[zzR.mp m,yd];simp);exact q _ _ d _ R2 (.ls yd (x9.grow j (λa _ u h=>k a u h) c)) (z.trans j))
theorem VwL.less{K:zzA}{O O':Addr->Prop}{H:Hp}(g:∀a,O' a->O a){vs:List V}{ds:List D}(h:VwL K kd O H vs ds):VwL K kd O' H vs ds:=by
 induction h with
 |nil=>exact .nil
 |cons h _ b=>exact .cons (h.less g) b
def XA{K:zzA}{F B:Addr->Prop}{ad:Ad}{as:AS}{σ:St}{H:Hp}(R:Rel K kd F B [] ad as σ H){vs:List V}{rs:List RV}{ds:List D}{lv:Option Bool}(h:RVs K kd F B ad σ H vs rs)(e:views as rs=some (ds,lv)):VwL K kd (Qn F B (Gw [] ad) lv) H vs ds:=by
 induction h generalizing ds lv with
 |nil=>cases e;exact .nil
 |cons h t ih=>
  obtain⟨⟨d,l⟩,h1,e⟩:=bS_ (show(RV.view as _).bind _=_ from e);obtain⟨⟨ds,l2⟩,h2,e⟩:=bS_ e;cases e;exact .cons ((xq.vw R h h1).less Qn.meet1) ((ih h2).less Qn.meet2)
def pG{g:List D->Option R0}{σ:St}{H:Hp}{Q:VK}{R':List V->Hp->VK->Prop}(hr:∀vs H Q,(∃O ds r,(∀a,O a->H a≠none)/\VwL X.K kd O H vs ds/\g ds=some r/\RQ X.K kd O H Q r)->R' vs H Q)
 (h:al X.K kd (fP fr g) σ H Q):ux X.K kd fr σ H λvs H1=>R' vs H1 Q:=by
 obtain⟨F,B,i,as,r,j,R,e,q⟩:=h;obtain⟨⟨p,k⟩,l,e⟩:=bS_ (show(fr as).bind _=_ from e);obtain⟨⟨m,C⟩,n,e⟩:=bS_ e;obtain⟨z,o,e⟩:=bS_ e;obtain⟨y,s,e⟩:=bS_ e;cases e;exact⟨F,B,i,as,p,_,R,l,λE b G c d t=>hr _ _ _ ⟨_,m,z,c.tr _,XA c d n,o,Za c s λw u v x f A=>q w u b v x f (t.trans A)⟩⟩
def IQ{K:zzA}{F B:Addr->Prop}{ad:Ad}{as:AS}{σ:St}{H:Hp}(R:Rel K kd F B [] ad as σ H){vs:List V}{rs:List RV}{ds:List (Bool×D)}(h:RVs K kd F B ad σ H vs rs)(e:Z1 as rs=some ds):RpA K kd (Lv F B (Gw [] ad) true) H vs ds:=by
 induction h generalizing ds with
 |nil=>cases e;exact .nil
 |cons h t ih=>
  rename_i v r vs rs;obtain⟨⟨st,d⟩,h1,e⟩:=bS_ (show(Os as r).bind _=_ from e);obtain⟨ds,h2,e⟩:=bS_ e;cases e;refine .cons ?_ (ih h2);cases r with
  |ow o=>
   cases h1;cases hf:zN o.toD with
   |true=>exact(G9 h).flat hf
   |false=>
    refine(Tg h).less λa z=>?_;have zs:o.str=true:=z.1;rw[zs];exact z.2
  |bo i=>
   have e:(match as[i]? with|some (some o)=>some (false,o.toD)|_=>none)=some (st,d):=h1;cases k:as[i]? with
   |none=>rw[k]at e;cases e
   |some s=>
    cases s with
    |none=>rw[k]at e;cases e
    |some o=>
     rw[k]at e;cases e;obtain⟨w,hw,ro⟩:=R.sl i _ k;rw[h.2]at hw;cases hw;exact(G9 ro).less λa z=>nomatch z.1
def A8{K:zzA}{F B:Addr->Prop}{ad:Ad}{as:AS}{σ:St}{H:Hp}{Q:VK}{o:O}(R:Rel K kd F B [] ad as σ H)(q:∀v T' H',Rel K kd F B T' ad as σ H'->xq K kd F B T' ad σ H' v (.ow o)->Grow (Gw [] ad) H (Gw T' ad) H'->Q v H'):
 rH K kd (Lv F B (Gw [] ad) true) H Q o:=λv T f h i k j l=>by
 obtain⟨m,g⟩:=R.news h i k j;have c:∀b a,Lv F B (Gw T ad) b a->WU (Lv F B (Gw [] ad) true) (· ∈ T) a:=λb a z=>by
  rcases z with(z|z)|z|z
  . exact .inl (.inl (.inl ⟨rfl,z.2⟩))
  . exact .inl (.inl (.inr z))
  . exact .inr z
  . exact .inl (.inr (.inr z))
 exact q v T f m (Ro.mono (λb v d r=>r.less (c b)) (λa p n e=>⟨λz=>n (c true a z),e⟩) (λ_ _ _ e=>e) l) g
def uf(h:al X.K kd (zp fr g) σ H Q):JB (JQ X.K kd g) [] E (ux X.K kd fr) σ H Q:=by
 obtain⟨F,B,f,as,r,i,R,e,q⟩:=h;obtain⟨⟨p,j⟩,k,e⟩:=bS_ (show(fr as).bind _=_ from e);obtain⟨l,m,e⟩:=bS_ e;obtain⟨o,n,e⟩:=bS_ e;cases e;refine⟨F,B,f,as,p,_,R,k,λs a t b c u=>?_⟩;show JQ X.K kd g (s++[]) t Q E;rw[zyE];exact⟨_,l,o,b.trk true,IQ b c m,n,A8 b λw v x y d z=>q w v a x y d (u.trans z)⟩
end
inductive Out where
 |nx (as:AS)|rt (o:O)|bk (as:AS)|ct (as:AS)
abbrev SF:=AS->Option Out
structure RetOk(K:zzA)(kd:KD)(F:Addr->Prop)(T:List Addr)(H:Hp)(v:V)(o:O):Prop where
 nd:T.Nodup
 tr:∀a ∈ T,H a≠none
 ro:Ro (λ_ v d=>Rp K kd (WU F (· ∈ T)) H v d) (λa=>¬WU F (· ∈ T) a) H v o T
def E3(K:zzA)(kd:KD)(F B:Addr->Prop)(ad:Ad)(H:Hp)(D:Ends):Out->Prop
 | .nx as'=>∀σ' ad' H',Rel K kd F B [] ad' as' σ' H'->Grow (Gw [] ad) H (Gw [] ad') H'->D.nx σ' H'
 | .bk as'=>∀σ' ad' H',Rel K kd F B [] ad' as' σ' H'->Grow (Gw [] ad) H (Gw [] ad') H'->D.bk σ' H'
 | .ct as'=>∀σ' ad' H',Rel K kd F B [] ad' as' σ' H'->Grow (Gw [] ad) H (Gw [] ad') H'->D.ct σ' H'
 | .rt o=>∀v T H',RetOk K kd F T H' v o->Grow (Gw [] ad) H (· ∈ T) H'->D.rt v H'
def be(K:zzA)(kd:KD)(f:SF):TS:=λD σ H=>∃F B ad as o,Rel K kd F B [] ad as σ H/\f as=some o/\E3 K kd F B ad H D o
@[irreducible] def Tt(X:Cx)(kd:KD)(st:Stmt)(f:SF):Prop:=PS X st (be X.K kd f)
@[irreducible] def MS(X:Cx)(kd:KD)(st:List Stmt)(f:SF):Prop:=Mo X st (be X.K kd f)
def wo(h:PS X e t)(k:∀D σ H,t' D σ H->t D σ H):PS X e t':=λa s σ H D I q=>h a s σ H D I (k D σ H q)
def Lw(h:Mo X e t)(k:∀D σ H,t' D σ H->t D σ H):Mo X e t':=λa s σ H D I q=>h a s σ H D I (k D σ H q)
def E3.pre{K:zzA}{kd:KD}{F B:Addr->Prop}{ad ad1:Ad}{H H1:Hp}{D:Ends}{o:Out}(g:Grow (Gw [] ad) H (Gw [] ad1) H1)(h:E3 K kd F B ad H D o):E3 K kd F B ad1 H1 D o:=by
 cases o with
 |nx as=>exact λσ' ad' H' R g'=>h σ' ad' H' R (g.trans g')
 |bk as=>exact λσ' ad' H' R g'=>h σ' ad' H' R (g.trans g')
 |ct as=>exact λσ' ad' H' R g'=>h σ' ad' H' R (g.trans g')
 |rt r=>exact λv T H' R g'=>h v T H' R (g.trans g')
noncomputable def xR:SF:=λas=>some (.nx as)
noncomputable def zm(f g:SF):SF:=λas=>(f as).bind λo=>match o with | .nx as'=>g as'|o=>some o
noncomputable def xx(c:TF)(f g:SF):SF:=λas=>(c as).bind λp=>if p.1=true then f p.2 else g p.2
noncomputable def yB(f:EF):SF:=λas=>(f as).bind λp=>some (.nx p.2)
noncomputable def OC(as:AS):RV->Option O
 | .ow o=>if o.str=true then some o else none
 | .bo i=>match as[i]? with
  |some (some o)=>if o.str=true then some o else none
  |_=>none
noncomputable def zT(f:EF):SF:=λas=>(f as).bind λp=>(OC p.2 p.1).bind λo=>some (.rt o)
noncomputable def zz(z:Bool)(i:Nat)(f:EF):SF:=λas=>(f as).bind λp=>(OO p.2 (if z=true then p.1.frz else p.1)).bind λx=>if i<x.2.length then some (.nx (x.2.set i (some x.1)))else none
def Ro.strong(h:Ro L N H v o fp)(e:o.str=true):Ro (λst v d=>st=true/\L st v d) N H v o fp:=
 Ro.rec (motive_1:=λv o b _=>o.str=true->Ro (λa v d=>a=true/\L a v d) N H v o b) (motive_2:=λg f b _=>O.strs f=true->RoL (λa v d=>a=true/\L a v d) N H g f b)
  (λh e=>.lf ⟨e,h⟩) (λh _ r e=>.ls h (r e)) (λh l _ r e=>.dc h l (r e)) (λc h l _ r e=>.ob ⟨rfl,c⟩ h l (r e)) (λh l _ r e=>.dt h l (r e)) (λn h _ r e=>.tp n h (r e)) (λ_=>.nil) (λ_ _ h r e=>.cons (h ((zyC _ _).mp e).1) (r ((zyC _ _).mp e).2)) h e
section
variable{K:zzA}{kd:KD}{F B:Addr->Prop}{T:List Addr}{ad ad1:Ad}{as as1:AS}{σ:St}{H H1:Hp}{v:V}{r:RV}{o:O}
def Ej(R:Rel K kd F B T ad as σ H)(hn:T'.Nodup)(hs:∀a ∈ T',Gw T ad a)(h:w5 K kd F B (Gw T ad) H v o T')(e:o.str=true):RetOk K kd F T' H v o:=by
 have b:∀a,WU F (· ∈ T') a->Lv F B (Gw T ad) true a:=λa z=>z.elim (λy=>.inl (.inl ⟨rfl,y⟩)) λy=>.inr (hs a y);exact⟨hn,λa m=>(R.gtr a (hs a m)).1,Ro.mono (λc v d r=>by obtain⟨rfl,r⟩:=r;exact r.less b) (λa f n e=>⟨λz=>n (b a z),e⟩) (λ_ _ _ e=>e) (Ro.strong h e)⟩
def Rel.ret(R:Rel K kd F B T ad as σ H)(hr:xq K kd F B T ad σ H v r)(e:OC as r=some o):∃T',RetOk K kd F T' H v o/\∀b ∈ T',Gw T ad b:=by
 cases r with
 |ow g=>
  obtain⟨c,rfl⟩:=zM e;exact⟨T,Ej R R.tnd (λa m=>.inl m) hr c,λa m=>.inl m⟩
 |bo i=>
  have e:(match as[i]? with|some (some o)=>if o.str=true then some o else none|_=>none)=some o:=e;cases k:as[i]? with
  |none=>rw[k]at e;cases e
  |some s=>
   cases s with
   |none=>rw[k]at e;cases e
   |some h=>
    rw[k]at e;obtain⟨c,rfl⟩:=zM e;obtain⟨w,d,f⟩:=R.sl i _ k;rw[hr.2]at d;cases d;exact⟨ad i,Ej R (R.nd i) (λa m=>.inr ⟨i,m⟩) f c,λa m=>.inr ⟨i,m⟩⟩
end
section
variable{X:Cx}{kd:KD}{st:Stmt}{sts rest:List Stmt}{a b c e:Expr}{fa fb:EF}{ta:TF}{pos:Pos}{f g:SF}
def U4:MS X kd [] xR:=by with_unfolding_all exact(Lw CD λD σ H h=>by
 obtain⟨F,B,a,as,o,R,e,q⟩:=h;cases e;exact q σ a H R Grow.refl)
def vc(h1:Tt X kd st f)(h2:MS X kd rest g):MS X kd (st::rest) (zm f g):=by with_unfolding_all exact(Lw (Nc h1 h2) λD σ H h=>by
 obtain⟨F,B,ad,as,o,R,e,q⟩:=h;obtain⟨o1,e1,e⟩:=bS_ (show(f as).bind _=_ from e);refine⟨F,B,ad,as,o1,R,e1, ?_⟩;cases o1 with
 |nx as1=>exact λσ' ad' H' R' g'=>⟨F,B,ad',as1,o,R',e,q.pre g'⟩
 |bk as1=>cases e;exact q
 |ct as1=>cases e;exact q
 |rt r=>cases e;exact q)
def VP(h1:Tt X kd st f):MS X kd [st] f:=by with_unfolding_all exact(Fc h1)
def qZ:SF:=λ_=>none
def uS:Tt X kd st qZ:=by with_unfolding_all exact(λa s σ H D I h=>by obtain⟨F,B,b,as,o,R,e,q⟩:=h;cases e)
def Fg(hc:AT X kd c ta)(ha:MS X kd sts f)(hb:MS X kd rest g):Tt X kd (.If c sts rest pos) (xx ta f g):=by with_unfolding_all exact(wo (uO hc ha hb) λD σ H h=>by
 obtain⟨F,B,i,as,o,R,e,q⟩:=h;obtain⟨⟨p,a⟩,j,e⟩:=bS_ (show(ta as).bind _=_ from e);refine⟨F,B,i,as,p,a,R,j,λb k d g=>?_⟩;cases p with
 |true=>exact⟨F,B,b,a,o,d,e,q.pre g⟩
 |false=>exact⟨F,B,b,a,o,d,e,q.pre g⟩)
def CT(he:AE X kd e fa)(hs:swapsWith e none pos.line X.env=pure false):Tt X kd (.Expr e pos) (yB fa):=by with_unfolding_all exact(wo (FH he hs) λD σ H h=>by
 obtain⟨F,B,c,as,o,R,e,q⟩:=h;obtain⟨⟨p,a⟩,d,e⟩:=bS_ (show(fa as).bind _=_ from e);cases e;exact⟨F,B,c,as,p,a,R,d,λv j b f i k g=>q σ b f i.drop (g.trans (Grow.less Gw.drop))⟩)
def MI(he:AE X kd e fa):Tt X kd (.Return (some e) pos) (zT fa):=by with_unfolding_all exact(wo (D7 he) λD σ H h=>by
 obtain⟨F,B,b,as,o,R,e,q⟩:=h;obtain⟨⟨p,a⟩,c,e⟩:=bS_ (show(fa as).bind _=_ from e);obtain⟨r,d,e⟩:=bS_ e;cases e;refine⟨F,B,b,as,p,a,R,c,λv s f i j k g=>?_⟩;obtain⟨l,m,n⟩:=j.ret k d;exact q v l i m (g.trans (Grow.less n)))
def ML{K:zzA}{F B:Addr->Prop}{T:List Addr}{ad:Ad}{as as2:AS}{σ:St}{H:Hp}{v:V}{r:RV}{z:Bool}{o:O}{i:Nat}(R:Rel K kd F B T ad as σ H)(rv:xq K kd F B T ad σ H v r)
 (h2:OO as (if z=true then r.frz else r)=some (o,as2)) (hl:i<as2.length):∃ad',Rel K kd F B [] ad' (as2.set i (some o)) (σ.set i (some v)) H/\∀a,Gw [] ad' a->Gw T ad a:=by
 cases z with
 |true=>
  obtain⟨b,c,d,e⟩:=RU R.drop (xq.drop R rv) h2;exact⟨_,c.put hl d,λa y=>Gw.drop a (e a (ZT a y))⟩
 |false=>
  obtain⟨b,c,d,e⟩:=RU R rv h2;exact⟨_,c.put hl d,λa y=>e a (ZT a y)⟩
def OI(hN:X.N.Nodup)(hi:X.N[i]? = some x)(hx:Loc X.env.scope x)(he:AE X kd e fa)(hs:swapsWith e (some (.Name x pos')) pos.line X.env=pure false)(hf:X.fn x=true\/X.env.scope.names.lookup x=some .local):
 Tt X kd (.Assign [.Name x pos'] e pos) (zz z i fa):=by with_unfolding_all exact(wo (SA hN hi hx he hs hf) λD σ H h=>by
 obtain⟨F,B,c,as,o,R,e,q⟩:=h;obtain⟨⟨p,a⟩,d,e⟩:=bS_ (show(fa as).bind _=_ from e);obtain⟨⟨y,f⟩,j,e⟩:=bS_ e;obtain⟨k,e⟩:=zM e;cases e;refine⟨F,B,c,as,p,a,R,d,λv t l m n r g=>?_⟩;obtain⟨b,R2,s⟩:=ML n r j k;exact q _ b m R2 (g.trans (Grow.less s)))
end
def ZV(n:Nat)(ds:List (Bool×D)):AS:=ds.map (λx=>some (.lf x.1 x.2))++List.replicate (n-ds.length) none
noncomputable def qJ:Out->Option O
 | .nx _=>some (.lf true .non)
 | .rt o=>some o
 |_=>none
noncomputable def wK(n m:Nat)(f:SF)(ds:List (Bool×D)):Option O:=if ds.length=m then(f (ZV n ds)).bind qJ else none
theorem RpA.get{K:zzA}{kd:KD}{F:Addr->Prop}{H:Hp}:∀{vs:List V}{ds:List (Bool×D)}{i:Nat}{x:Bool×D},RpA K kd F H vs ds->ds[i]? = some x->∃v,vs[i]? = some v/\Rp K kd (λa=>x.1=true/\F a) H v x.2
 |_,_,_,_,.nil,e=>by simp at e
 |_,_,0,_,.cons h _,e=>by simp at e;subst e;exact⟨_,rfl,h⟩
 |_,_,i+1,_,.cons _ r,e=>by
  obtain⟨v,b,c⟩:=RpA.get (i:=i) r (by simpa using e);exact⟨v,by simpa using b,c⟩
def FJ{K:zzA}{kd:KD}{F:Addr->Prop}{H:Hp}{N:List Str}{vs:List V}{ds:List (Bool×D)}(ht:∀a,F a->H a≠none)(rp:RpA K kd F H vs ds):
 Rel K kd F (λ_=>False) [] (λ_=>[]) (ZV N.length ds) (L2.start N vs) H:=by
 have c:=rp.length;have f:∀a,¬Gw [] (λ_=>[]) a:=λa z=>z.elim (λy=>nomatch y) λ⟨_,y⟩=>nomatch y;refine⟨by unfold ZV L2.start;simp[c],λ_ _=>rfl,λ_=>zyJ,(λ_ _ _ z=>nomatch z),zyJ,(λ_ _ _ z=>nomatch z),ht,(λ_ z=>z.elim),λa z=>(f a z).elim,λi s e=>?_⟩;unfold ZV at e;unfold L2.start
 by_cases g:i<ds.length
 . rw[zyP (by rw[zzB];exact g),zzI]at e;obtain⟨d,h,b⟩:=zzX.mp e;subst b;obtain⟨v,j,k⟩:=rp.get h;rw[zyP (by rw[zzB,c];exact g),zzI,j];refine⟨v,rfl,.lf (k.less λa z=>?_)⟩
   rcases z with(z|z)|z
   . exact z
   . exact z.elim
   . exact(f a z).elim
 . rw[zyR (by rw[zzB];omega)]at e;have:=zyA e;have b:s=none:=(List.mem_replicate.mp this).2;subst b;rfl
section
variable{P:Program}{w:World}{K:zzA}{mg:Str->Option Value}{base:Heap}
def H0(q:rH K kd F H Q o)(ro:RetOk K kd F T H' v o)(g:Grow (Gw [] λ_=>[]) H (· ∈ T) H'):Q v H':=by
 have c:∀a,¬Gw [] (λ_=>[]) a:=λa z=>z.elim (λy=>nomatch y) λ⟨_,y⟩=>nomatch y;exact q v T H' ro.nd (λa m=>(g.own a m).resolve_left (c a)) (λb u h=>g.keep b u h (c b)) ro.tr ro.ro
def uI{kd:KD}{x qual:Str}{st:Stmt}{f:Addr}{fd:FuncData}{N ps:List Str}{k:Nat}{c:SF}(Fn:Fun K x qual st f fd)(S:FnScope N ps (zr st))
 (hb:∀(cdv:Value) (A:Around) (outer:List Env) (s:Shared) (H:Hp) (E:XK),Room k (A.deeper (envOfC qual (zr st) s.heap.objs.size f cdv))->MS (NP B4 P w K mg base N qual (zr st) f cdv A outer s H E).nox kd (Yg st) c):
 FnOk P w K mg base B4 (k+1) f fd ps (JQ K kd (wK N.length ps.length c)):=by
 with_unfolding_all (
 refine Fn.ok S (λvs H Q E h=>?_) (λcdv A outer s H vs Q E hr h=>⟨_,hb cdv A outer s H E hr, ?_⟩)
 . obtain⟨F,ds,r,_,rp,e,_⟩:=h;unfold wK at e
   by_cases hl:ds.length=ps.length
   . rw[rp.length,hl]
   . rw[if_neg hl]at e;cases e
 . obtain⟨F,ds,r,ht,rp,e,q⟩:=h;unfold wK at e
   by_cases hl:ds.length=ps.length
   . rw[if_pos hl]at e;obtain⟨o,e1,e⟩:=bS_ e;refine⟨F,λ_=>False,λ_=>[],ZV N.length ds,o,FJ ht rp,e1, ?_⟩;cases o with
     |nx as=>cases e;exact λσ' ad' H' R g=>H0 q (T:=[]) ⟨zyJ,(λ_ m=>nomatch m),.lf .non⟩ (g.trans (Grow.less (λ_ z=>nomatch z)))
     |rt o=>cases e;exact λv T H' ro g=>H0 q ro g
     |bk=>cases e
     |ct=>cases e
   . rw[if_neg hl]at e;cases e)
end
abbrev wx:=Bool×D
abbrev GF:=wx->AS->Option AS
abbrev Ja:=List wx->AS->Option AS
def kids(st:Bool)(ds:List D):List wx:=ds.map λd=>(zN d||st,d)
inductive RpI(K:zzA)(kd:KD)(F B G:Addr->Prop)(H:Hp):List V->List wx->Prop
 |nil:RpI K kd F B G H [] []
 |cons {v:V}{x:wx}{vs:List V}{ds:List wx}:Rp K kd (Lv F B G x.1) H v x.2->RpI K kd F B G H vs ds->RpI K kd F B G H (v::vs) (x::ds)
def sV(K:zzA)(kd:KD)(S:List Nat)(g:GF):TG:=λv σ H Q=>∃F B ad as x as',Rel K kd F B [] ad as σ H/\Rp K kd (Lv F B (Gw [] ad) x.1) H v x.2/\g x as=some as'/\
 ∀σ' ad' H',Rel K kd F B [] ad' as' σ' H'->Grow (Gw [] ad) H (Gw [] ad') H'->(∀j,j ∉ S->σ'[j]? = σ[j]?)->Q σ' H'
def rn(K:zzA)(kd:KD)(S:List Nat)(g:Ja):DB:=λvs σ H Q=>∃F B ad as ds as',Rel K kd F B [] ad as σ H/\RpI K kd F B (Gw [] ad) H vs ds/\g ds as=some as'/\
 ∀σ' ad' H',Rel K kd F B [] ad' as' σ' H'->Grow (Gw [] ad) H (Gw [] ad') H'->(∀j,j ∉ S->σ'[j]? = σ[j]?)->Q σ' H'
@[irreducible] def AG(X:Cx)(kd:KD)(tg:Expr)(S:List Nat)(g:GF):Prop:=PG X tg (sV X.K kd S g)
@[irreducible] def JG(X:Cx)(kd:KD)(tg:List Expr)(S:List Nat)(g:Ja):Prop:=JM X tg (rn X.K kd S g)
def D0(h:PG X e t)(k:∀v σ H Q,t' v σ H Q->t v σ H Q):PG X e t':=λa s σ H v u Q I r q=>h a s σ H v u Q I r (k v σ H Q q)
def Fp(h:JM X e t)(k:∀v σ H Q,t' v σ H Q->t v σ H Q):JM X e t':=λa s σ H v u Q I r q=>h a s σ H v u Q I r (k v σ H Q q)
noncomputable def gN(i:Nat):GF:=λx as=>if i<as.length then some (as.set i (some (.lf x.1 x.2)))else none
def xD:Ja:=λds as=>match ds with | []=>some as|_::_=>none
noncomputable def ye(g:GF)(gs:Ja):Ja:=λds as=>match ds with | []=>none|d::r=>(g d as).bind λas1=>gs r as1
noncomputable def gT(n:Nat)(gs:Ja):GF:=λx as=>match x.2 with
 | .tup ds=>if ds.length=n then gs (kids x.1 ds) as else none
 | .lst ds=>if ds.length=n then gs (kids x.1 ds) as else none
 |_=>none
section
variable{K:zzA}{kd:KD}{F B G G':Addr->Prop}{H H':Hp}
theorem RpI.length(h:RpI K kd F B G H vs ds):vs.length=ds.length:=by
 induction h with
 |nil=>rfl
 |cons _ _ a=>exact congrArg (· + 1) a
theorem RpI.grow(g:Grow G H G' H')(h:RpI K kd F B G H vs ds):RpI K kd F B G' H' vs ds:=by
 induction h with
 |nil=>exact .nil
 |cons h _ a=>exact .cons (Rp.grow g h) a
def RpI.get{vs:List V}{ds:List wx}{i:Nat}{x:wx}(h:RpI K kd F B G H vs ds)(e:ds[i]? = some x):∃v,vs[i]? = some v/\Rp K kd (Lv F B G x.1) H v x.2:=by
 induction h generalizing i with
 |nil=>simp at e
 |cons h r a=>
  cases i with
  |zero=>simp at e;subst e;exact⟨_,rfl,h⟩
  |succ i=>
   obtain⟨v,b,c⟩:=a (i:=i) (by simpa using e);exact⟨v,by simpa using b,c⟩
def XE{st:Bool}{vs:List V}{ds:List D}(h:RpL K kd (Lv F B G st) H vs ds):RpI K kd F B G H vs (kids st ds):=
 RpL.ind (P:=λa b=>RpI K kd F B G H a (kids st b)) .nil (λ{v d a b} h _ c=>by
  refine .cons (x:=(zN d||st,d)) ?_ c;cases e:zN d with
  |true=>exact h.flat e
  |false=>exact h) h
end
section
variable{prog:Program}{w:World}{A:Around}{E:Value->Shared->Prop}{s:Shared}
theorem G5(hne:l≠it):∀(n i:Nat) (s:Shared) (Q:List Value->Shared->Prop),s.heap.IsListIter it l i->s.heap.IsList l items->i+n<=items.size->
 (∀h',h'.IsListIter it l (i+n)->Heap.SameBut it s.heap h'->Q ((items.toList.drop i).take n) {s with heap:=h'})->wpAny (model prog w) A (draw (.ref it) n) Q E s
 |0,i,s,Q,a,_,_,f=>by
  show wpAny _ _ (pure []) Q E s;exact zxH (by simpa using f s.heap a (Heap.SameBut.refl ..))
 |n+1,i,s,Q,a,h,j,f=>by
  have b:i<items.size:=by omega
  show wpAny _ _ (pyNext (.ref it) >>= _) Q E s;refine zxG (wpAny_pyNext_list_item a h (x:=items[i]) (by simp[b]) λo c d=>?_);refine zxG (zxM (G5 hne n (i+1) _ _ c (h.extBut d.extBut hne) (by omega) λk e g=>zxH ?_));have m:items.toList.drop i=items[i]::items.toList.drop (i+1):=by simp[zyQ,b]
  have:=f k (by rw[show i+(n+1)=i+1+n by omega];exact e) (d.trans g);rw[m,List.take_succ_cons]at this;exact this
def NX(hh:A.handled=none)(ht:s.heap.IsList l items)
 (hn:targets.length=items.size) (hstar:targets.findIdx? (·.1)=none)
 (h:∀h',Heap.ExtBut s.heap.objs.size s.heap h'->wpAny (model prog w) A (assignInOrder (targets.map (·.2)) items.toList) Q E {s with heap:=h'}):
 wpAny (model prog w) A (unpack (.ref l) targets) Q E s:=by
 unfold unpack;rw[hn,hstar];refine zxG (zxM ?_);have a:l≠s.heap.objs.size:=by obtain⟨o,k,_⟩:=ht;exact zzQ (zxJ k)
 unfold unpackItems;refine zxG ?_;unfold notIterableAtAll;refine zxG (wpAny_specialOf ht.typeIs PySem.F.slot_list_iter.lookup ?_);refine zxH ?_;simp only[Bool.false_eq_true,if_false];refine zxG (zxM (wpAny_pyIter_list ht ?_));refine zxG (zxM (G5 a items.size 0 _ _ ⟨_,zxK _ rfl,rfl,rfl⟩ (ht.push _) (by omega) λm c d=>?_));have f:List.take items.size (List.drop 0 items.toList)=items.toList:=by
  rw[List.drop_zero];exact List.take_of_length_le (by simp)
 rw[f];rw[if_neg (by simp)];have g:m.IsList l items:=(ht.push _).extBut d.extBut a;refine zxG (zxM (wpAny_pyNext_list_end hh c g (by simp) λn i=>?_));simp only[Option.isSome_none,Bool.false_eq_true,if_false];exact zxH (h n λb o j e=>i b o j (d.extBut b o j (zxI _ e)))
end
section
variable{X:Cx}{kd:KD}{a b c e tg iter:Expr}{es:List Expr}{body:List Stmt}{fa fb:EF}{pos:Pos}{g:GF}{gs:Ja}{f:SF}{ta:TF}{S S1 S2:List Nat}
def qA(K:zzA)(n:Nat)(t:DB):TG:=λv σ H Q=>∃a xs,v = .ref a/\Z5 K H a xs/\xs.length=n/\t xs σ H Q
def SB(hc:X.calm=true)(h:JM X es t)(hn:(assignEach es X.env).length=n)(hst:(assignEach es X.env).findIdx? (·.1)=none):PG X (.Tuple es k pos) (qA X.K n t):=by
 intro c s σ H v u Q I r d;obtain⟨a,g,i,j,l,d⟩:=d;subst i;cases r;obtain⟨m,f,p,y⟩:=I.list j;rw[assign_Tuple];refine zxG (wpAny_standAt (NX (I.ok.hd hc) p.isList (by simp[hn,<-l,f.length]) hst λq w=>?_));have x:Inv X c σ H {s with heap:=q}:=I.kept (t':=s.toks) λb o e=>w b o (zzQ (zxJ e)) e;exact h c _ σ H g _ Q x (by simpa using f) d
def E4(hN:X.N.Nodup)(hi:X.N[i]? = some x)(hx:Loc X.env.scope x)(hf:X.fn x=true\/X.env.scope.names.lookup x=some .local):AG X kd (.Name x pos) [i] (gN i):=by with_unfolding_all exact(D0 (Cr hN hi hx hf) λv σ H Q h=>by
 obtain⟨F,B,f,as,y,a,R,b,e,q⟩:=h;obtain⟨c,e⟩:=zM e;cases e;exact q _ _ H (R.put c (o:=.lf y.1 y.2) (.lf b)) (Grow.less ZT) λj d=>zzY (λz=>d (by rw[z];simp)))
def U3:JG X kd [] [] xD:=by with_unfolding_all exact(Fp CB λd σ H Q h=>by
 obtain⟨F,B,a,as,f,b,R,c,e,q⟩:=h;cases c with
 |nil=>cases e;exact⟨rfl,q σ a H R Grow.refl λ_ _=>rfl⟩
 |cons=>cases e)
def xS(h1:AG X kd a S1 g)(h2:JG X kd es S2 gs)(hs:(assignEach (a::es) X.env).map (·.2)=assign a X.env::(assignEach es X.env).map (·.2)):JG X kd (a::es) (S1++S2) (ye g gs):=by with_unfolding_all exact(Fp (Oa h1 h2 hs) λx σ H Q h=>by
 obtain⟨F,B,l,as,y,c,R,m,e,q⟩:=h;cases m with
 |nil=>cases e
 |cons r n=>
  obtain⟨b,o,e⟩:=bS_ (show(g _ as).bind _=_ from e);refine⟨_,_,rfl,F,B,l,as,_,b,R,r,o,λA d C p i s=>?_⟩;exact⟨F,B,d,b,_,c,p,n.grow i,e,λt f u R2 v w=>q t f u R2 (i.trans v) λj k=>(w j λz=>k (zzL _ z)).trans (s j λz=>k (zzP _ z))⟩)
def Kk{k n:Nat}(hc:X.calm=true)(h:JG X kd es S gs)(hn:(assignEach es X.env).length=n)(hst:(assignEach es X.env).findIdx? (·.1)=none):AG X kd (.Tuple es k pos) S (gT n gs):=by
 with_unfolding_all (
 intro pins s σ H v u Q I r hw;obtain⟨F,B,ad,as,⟨st,d⟩,as',R,rp,e,q⟩:=hw;cases d with
 |tup ds=>
  have e:(if ds.length=n then gs (kids st ds) as else none)=some as':=e
  by_cases hl:ds.length=n
  . rw[if_pos hl]at e;have go:∃a xs,v = .ref a/\VQ X.K H a xs/\RpL X.K kd (Lv F B (Gw [] ad) st) H xs ds:=by
     cases rp with
     |tup n h r=>exact⟨_,_,rfl,.inl (.inl h),r⟩
    obtain⟨a,xs,rfl,hs,rl⟩:=go;exact DD hc h hn hst pins s σ H _ u Q I r ⟨a,xs,rfl,hs,by rw[rl.length,hl],F,B,ad,as,_,as',R,XE rl,e,q⟩
  . rw[if_neg hl]at e;cases e
 |lst ds=>
  have e:(if ds.length=n then gs (kids st ds) as else none)=some as':=e
  by_cases hl:ds.length=n
  . rw[if_pos hl]at e;cases rp with
    |lstK a b c r'=>exact SB hc h hn hst pins s σ H _ u Q I r ⟨_,_,rfl,.inr ⟨_,_,_,a,rfl,rfl,rfl,b,c⟩,by rw[r'.length,hl],F,B,ad,as,_,as',R,XE r',e,q⟩
    |lst n h' r'=>exact SB hc h hn hst pins s σ H _ u Q I r ⟨_,_,rfl,.inl h',by rw[r'.length,hl],F,B,ad,as,_,as',R,XE r',e,q⟩
  . rw[if_neg hl]at e;cases e
 |_=>cases e)
noncomputable def YU(as:AS)(r:RV):Option (wx×AS):=(OO as r.frz).bind λx=>match x.1 with | .lf st d=>some ((st,d),x.2)|_=>none
def ZG{K:zzA}{F B:Addr->Prop}{T:List Addr}{ad:Ad}{as as':AS}{σ:St}{H:Hp}{v:V}{r:RV}{x:wx}(R:Rel K kd F B T ad as σ H)(h:xq K kd F B T ad σ H v r)(e:YU as r=some (x,as')):
 ∃ad',Rel K kd F B [] ad' as' σ H/\Rp K kd (Lv F B (Gw [] ad') x.1) H v x.2/\∀a,Gw [] ad' a->Gw T ad a:=by
 obtain⟨⟨o,c⟩,f,e⟩:=bS_ e;obtain⟨b,g,i,j⟩:=RU R.drop (xq.drop R h) f;cases o with
 |lf l d=>
  cases e;refine⟨b,g, ?_,λa y=>Gw.drop a (j a y)⟩;have:=Tg i;exact this
 |nd k m=>cases e
noncomputable def vS(f:EF)(g:GF):SF:=λas=>(f as).bind λp=>(YU p.2 p.1).bind λq=>(g q.1 q.2).bind λas'=>some (.nx as')
def SC(he:AE X kd e fa)(hg:AG X kd tg S g)(hs:swapsWithSole [tg] e pos.line X.env=pure false)(hw:swappedStores [tg] e X.env=pure none)(h1:(assignEach [tg] X.env).map (·.2)=[assign tg X.env]):
 Tt X kd (.Assign [tg] e pos) (vS fa g):=by with_unfolding_all exact(wo (K2 he hg hs hw h1) λD σ H h=>by
 obtain⟨F,B,ad,as,o,R,e,q⟩:=h;obtain⟨⟨p,as1⟩,h1,e⟩:=bS_ (show(fa as).bind _=_ from e);obtain⟨⟨x,as2⟩,h2,e⟩:=bS_ e;obtain⟨as3,h3,e⟩:=bS_ e;cases e;refine⟨F,B,ad,as,p,as1,R,h1,λv T' ad' H' R' rv g1=>?_⟩;obtain⟨ad2,R2,rp,le⟩:=ZG R' rv h2;exact⟨F,B,ad2,as2,_,as3,R2,rp,h3,λσ' ad' H' R' g' _=>q σ' ad' H' R' ((g1.trans (Grow.less le)).trans g')⟩)
structure ItOk(K:zzA)(kd:KD)(F B:Addr->Prop)(ad:Ad)(H:Hp)(J:It)(ds:List wx):Prop where
 all:∀(ad2:Ad) (H2:Hp),Grow (Gw [] ad) H (Gw [] ad2) H2->(∀st a,Lv F B (Gw [] ad2) st a->H2 a≠none)->∀i,(i<ds.length->J.go i H2)/\(ds.length<=i->J.stop i H2)/\
  ∀v H3,J.yld i H2 v H3->(∀b o,H2 b=some o->H3 b=some o)/\∀x,ds[i]? = some x->Rp K kd (Lv F B (Gw [] ad2) x.1) H3 v x.2
abbrev IF:=AS->Option (List wx×AS)
def oO(K:zzA)(kd:KD)(f:IF):TI:=λσ H R=>∃F B ad as ds as',Rel K kd F B [] ad as σ H/\f as=some (ds,as')/\
 ∀J ad' H',Rel K kd F B [] ad' as' σ H'->Grow (Gw [] ad) H (Gw [] ad') H'->ItOk K kd F B ad' H' J ds->R J H'
@[irreducible] def AI(X:Cx)(kd:KD)(tg iter:Expr)(f:IF):Prop:=PI X tg iter (oO X.K kd f)
noncomputable def forL(g:GF)(f:SF):List wx->AS->Option Out
 | [],as=>some (.nx as)
 |d::r,as=>(g d as).bind λas1=>(f as1).bind λo=>match o with
  | .nx as'=>forL g f r as'
  | .ct as'=>forL g f r as'
  | .bk as'=>some (.nx as')
  | .rt r=>some (.rt r)
noncomputable def yM(fi:IF)(g:GF)(f:SF):SF:=λas=>(fi as).bind λp=>forL g f p.1 p.2
def Kb(hp:PassesOwn (model X.prog X.w) X.A X.env X.xe)(hc:X.calm=true)(hi:AI X kd tg iter fi)(hg:AG X kd tg S g)(hb:MS X kd body f)(hs:∀x,foldedSetIterable iter X.env x=pure x):
 Tt X kd (.For tg iter body [] pos) (yM fi g f):=by with_unfolding_all exact(wo (AQ hp hc hi hg hb hs) λD σ H h=>by
 obtain⟨F,B,ad,as,o,R,e,q⟩:=h;obtain⟨⟨ds,as1⟩,h1,e⟩:=bS_ (show(fi as).bind _=_ from e);refine⟨F,B,ad,as,ds,as1,R,h1,λJ ad1 H1 R1 g1 it=>?_⟩;refine⟨λi m σ2 H2=>m+i=ds.length/\∃ad2 as2,Rel X.K kd F B [] ad2 as2 σ2 H2/\Grow (Gw [] ad1) H1 (Gw [] ad2) H2/\forL g f (ds.drop i) as2=some o,⟨ds.length,rfl,ad1,as1,R1,Grow.refl,e⟩, ?_⟩
 rintro i m σ2 H2 ⟨hm,ad2,as2,R2,g2,e2⟩
 obtain⟨k1,k2,k3⟩:=it.all ad2 H2 g2 R2.trk i
 by_cases hi:i<ds.length
 . refine .inr ⟨k1 hi,λσ3 H3=>∃ad3 as3,Rel X.K kd F B [] ad3 as3 σ3 H3/\Grow (Gw [] ad1) H1 (Gw [] ad3) H3/\forL g f (ds.drop (i+1)) as3=some o,λσ3 H3 ⟨ad3,as3,R3,g3,e3⟩=>⟨m-1,by omega,by omega,ad3,as3,R3,g3,e3⟩,λv H3 hy=>?_⟩;obtain⟨kp,rp⟩:=k3 v H3 hy;rw[zyQ hi]at e2;obtain⟨as3,e3,e2⟩:=bS_ (show(g _ as2).bind _=_ from e2);obtain⟨o3,e4,e2⟩:=bS_ e2;obtain⟨R3,g3⟩:=R2.more kp;refine⟨F,B,ad2,as2,_,as3,R3,rp _ (zzE hi),e3,λσ4 ad4 H4 R4 g4 _=>?_⟩;refine⟨F,B,ad4,as3,o3,R4,e4, ?_⟩;have gg:=(g2.trans g3).trans g4;cases o3 with
   |nx as5=>exact λσ5 ad5 H5 R5 g5=>⟨ad5,as5,R5,gg.trans g5,e2⟩
   |ct as5=>exact λσ5 ad5 H5 R5 g5=>⟨ad5,as5,R5,gg.trans g5,e2⟩
   |bk as5=>
    cases e2;exact λσ5 ad5 H5 R5 g5=>q σ5 ad5 H5 R5 (g1.trans (gg.trans g5))
   |rt r=>
    cases e2;exact λv T H5 ro g5=>q v T H5 ro (g1.trans (gg.trans g5))
 . refine .inl ⟨k2 (by omega), ?_⟩;rw[List.drop_eq_nil_of_le (by omega)]at e2;cases e2;exact q σ2 ad2 H2 R2 (g1.trans g2))
noncomputable def Mn(c:TF)(f:SF):Nat->AS->Option Out
 |0,_=>none
 |n+1,as=>(c as).bind λp=>if p.1=true then(f p.2).bind λo=>match o with
  | .nx as'=>Mn c f n as'
  | .ct as'=>Mn c f n as'
  | .bk as'=>some (.nx as')
  | .rt r=>some (.rt r)else some (.nx p.2)
def Sz(hp:PassesOwn (model X.prog X.w) X.A X.env X.xe)(hc:AT X kd c ta)(hb:MS X kd body f):Tt X kd (.While c body [] pos) (Mn ta f n):=by with_unfolding_all exact(wo (Hn hp hc hb) λD σ H h=>by
 obtain⟨F,B,ad,as,o,R,e,q⟩:=h;refine⟨λm σ2 H2=>∃ad2 as2,Rel X.K kd F B [] ad2 as2 σ2 H2/\Grow (Gw [] ad) H (Gw [] ad2) H2/\Mn ta f m as2=some o,⟨n,ad,as,R,Grow.refl,e⟩, ?_⟩
 rintro m σ2 H2 ⟨ad2,as2,R2,g2,e2⟩
 cases m with
 |zero=>cases e2
 |succ m=>
  obtain⟨⟨p,as3⟩,e3,e2⟩:=bS_ (show(ta as2).bind _=_ from e2);refine⟨F,B,ad2,as2,p,as3,R2,e3,λad3 H3 R3 g3=>?_⟩;cases p with
  |true=>
   rw[if_pos rfl]at e2 ⊢;obtain⟨o3,e4,e2⟩:=bS_ e2;refine⟨λσ3 H3=>∃ad3 as3,Rel X.K kd F B [] ad3 as3 σ3 H3/\Grow (Gw [] ad) H (Gw [] ad3) H3/\Mn ta f m as3=some o,λσ3 H3 h=>⟨m,by omega,h⟩,F,B,ad3,as3,o3,R3,e4, ?_⟩;have gg:=g2.trans g3;cases o3 with
   |nx as5=>exact λσ5 ad5 H5 R5 g5=>⟨ad5,as5,R5,gg.trans g5,e2⟩
   |ct as5=>exact λσ5 ad5 H5 R5 g5=>⟨ad5,as5,R5,gg.trans g5,e2⟩
   |bk as5=>
    cases e2;exact λσ5 ad5 H5 R5 g5=>q σ5 ad5 H5 R5 (gg.trans g5)
   |rt r=>
    cases e2;exact λv T H5 ro g5=>q v T H5 ro (gg.trans g5)
  |false=>
   rw[if_neg zyW]at e2 ⊢;cases e2;exact q σ2 ad3 H3 R3 (g2.trans g3))
noncomputable def L5:wx->Option (List wx)
 |(st,.lst ds)=>some (kids st ds)
 |(st,.tup ds)=>some (kids st ds)
 |_=>none
noncomputable def Vd(f:EF):IF:=λas=>(f as).bind λp=>(YU p.2 p.1).bind λq=>(L5 q.1).bind λds=>some (ds,q.2)
def ET{K:zzA}{F B:Addr->Prop}{ad:Ad}{H:Hp}{a:Addr}{vs:List V}{ds:List wx}(hs:∀(ad3:Ad) (H3:Hp),Grow (Gw [] ad) H (Gw [] ad3) H3->Z5 K H3 a vs)(r:RpI K kd F B (Gw [] ad) H vs ds):ItOk K kd F B ad H (rg K a) ds:=⟨λc j h _ i=>by
 have b:=hs c j h;have e:=r.grow h;refine⟨λf=>?_,λf=>⟨_,b,by rw[r.length];exact f⟩,λv o k=>?_⟩
 . obtain⟨u,g,_⟩:=r.get (zzE f);exact⟨_,u,b,g⟩
 . obtain⟨rfl,l⟩:=k;refine⟨λ_ _ z=>z,λd m=>?_⟩;obtain⟨u,g,n⟩:=e.get m;have:=l _ b;rw[g]at this;cases this;exact n⟩
def ua{K:zzA}{F B:Addr->Prop}{ad:Ad}{H:Hp}{a:Addr}{vs:List V}{ds:List wx}(hs:∀(ad3:Ad) (H3:Hp),Grow (Gw [] ad) H (Gw [] ad3) H3->VQ K H3 a vs)(r:RpI K kd F B (Gw [] ad) H vs ds):ItOk K kd F B ad H (s_ K a) ds:=⟨λc j h _ i=>by
 have b:=hs c j h;have e:=r.grow h;refine⟨λf=>?_,λf=>⟨_,b,by rw[r.length];exact f⟩,λv o k=>?_⟩
 . obtain⟨u,g,_⟩:=r.get (zzE f);exact⟨_,u,b,g⟩
 . obtain⟨rfl,l⟩:=k;refine⟨λ_ _ z=>z,λd m=>?_⟩;obtain⟨u,g,n⟩:=e.get m;have:=l _ b;rw[g]at this;cases this;exact n⟩
def As(he:AE X kd e fa):AI X kd tg e (Vd fa):=by
 with_unfolding_all (
 intro pins s σ H R I h;obtain⟨F,B,ad,as,ds,as',Rl,e,q⟩:=h;obtain⟨⟨p,as1⟩,h1,e⟩:=bS_ (show(fa as).bind _=_ from e);obtain⟨⟨⟨st,x⟩,as2⟩,h2,e⟩:=bS_ e;obtain⟨ys,h3,e⟩:=bS_ e;cases e;cases x with
 |lst xs=>
  cases h3;refine KP he pins s σ H R I ⟨F,B,ad,as,p,as1,Rl,h1,λv T1 ad1 H1 R1 rv1 g1=>?_⟩;obtain⟨ad2,R2,rp,le⟩:=ZG R1 rv1 h2;cases rp with
  |lst hn hr rl=>exact⟨_,rfl,⟨_,.inl hr⟩,q _ ad2 H1 R2 (g1.trans (Grow.less le)) (ET (λad3 H3 g3=>.inl (Qa g3 (λz=>hn (.inr z)) hr)) (XE rl))⟩
  |lstK a b c rl=>exact⟨_,rfl,⟨_,.inr ⟨_,_,_,a,rfl,rfl,rfl,b,c⟩⟩,q _ ad2 H1 R2 (g1.trans (Grow.less le)) (ET (λad3 H3 g3=>.inr ⟨_,_,_,a,rfl,rfl,rfl,b,c⟩) (XE rl))⟩
 |tup xs=>
  cases h3;refine M8 he pins s σ H R I ⟨F,B,ad,as,p,as1,Rl,h1,λv T1 ad1 H1 R1 rv1 g1=>?_⟩;obtain⟨ad2,R2,rp,le⟩:=ZG R1 rv1 h2;have go:∃a ys,v = .ref a/\(∀(ad3:Ad) (H3:Hp),Grow (Gw [] ad2) H1 (Gw [] ad3) H3->VQ X.K H3 a ys)/\RpL X.K kd (Lv F B (Gw [] ad2) st) H1 ys xs:=by
   cases rp with
   |tup n h r=>exact⟨_,_,rfl,λad3 H3 g3=>.inl (Qa g3 (λz=>n (.inr z)) (.inl h)),r⟩
  obtain⟨a,ys,rfl,hs,rl⟩:=go;exact⟨_,rfl,⟨_,hs ad2 H1 Grow.refl⟩,q _ ad2 H1 R2 (g1.trans (Grow.less le)) (ua hs (XE rl))⟩
 |_=>cases h3)
def y6(lo:Int)(n:Nat):List wx:=(List.range n).map λ(i:Nat)=>(true,D.int (lo+(i:Int)))
def JY{K:zzA}{F B:Addr->Prop}{ad:Ad}{H:Hp}(lo:Int)(n:Nat):ItOk K kd F B ad H (tZ lo n) (y6 lo n):=⟨λe h g _ i=>by
 have c:(y6 lo n).length=n:=by unfold y6;simp
 refine⟨λa=>by rw[c]at a;exact a,λa=>by rw[c]at a;exact a,λv j f=>?_⟩;obtain⟨rfl,rfl⟩:=f;refine⟨λ_ _ z=>z,λd b=>?_⟩;have a:i<n:=by rw[<-c];exact(zzG.mp b).1
 unfold y6 at b;rw[zzI,List.getElem?_range a]at b;cases b;exact .int _⟩
def uM:List D->Option D
 | [x]=>some x
 |_=>none
def IH(h:uM ds=some d):ds=[d]:=by
 cases ds with
 |nil=>cases h
 |cons x r=>
  cases r with
  |nil=>cases h;rfl
  |cons _ _=>cases h
noncomputable def yb(ds:List D):Option (List wx):=((uM ds).bind QW).bind λj=>if -(2 ^ 62)<=j/\j<2 ^ 62 then some (y6 0 j.toNat)else none
def FB(h:yb ds=some xs):∃j,ds=[.int j]/\(if -(2 ^ 62)<=j/\j<2 ^ 62 then some (y6 0 j.toNat)else none)=some xs:=by
 obtain⟨j,a,h⟩:=bS_ h;obtain⟨d,b,a⟩:=bS_ a;cases Ko a;exact⟨j,IH b,h⟩
noncomputable def ya(fr:AF)(h:List D->Option (List wx)):IF:=λas=>(fr as).bind λp=>(views p.2 p.1).bind λds=>(h ds.1).bind λxs=>some (xs,p.2)
def Be(hg:Gl X "range")(hm:X.mg "range"=none)(ha:AA X kd [a] fr)(hs:starEach [a] X.env=[(false,eval a X.env)]):AI X kd tg (.Call (.Name "range" p) [a] [] pos) (ya fr yb):=by
 with_unfolding_all (
 intro b s σ H R I h;obtain⟨F,B,k,as,A,l,m,e,q⟩:=h;obtain⟨⟨n,o⟩,r,e⟩:=bS_ (show(fr as).bind _=_ from e);obtain⟨⟨C,D⟩,t,e⟩:=bS_ e;obtain⟨E,c,e⟩:=bS_ e;cases e;obtain⟨j,rfl,c⟩:=FB c
 . obtain⟨g,u⟩:=zM c;cases u;refine Gr hg hm ha hs b s σ H R I ⟨F,B,k,as,n,_,m,r,λG d v i f w=>?_⟩;have x:=XA i f t;cases x with
   |cons y z=>
    cases z;cases y;exact⟨j,rfl,g.1,g.2,q _ d v i w (JY 0 _)⟩)
def Rel.mut{K:zzA}{F B:Addr->Prop}{T fo:List Addr}{ad:Ad}{as:AS}{σ:St}{H:Hp}{i:Nat}{l:Addr}{fp fp':List Addr}{n:O}{u:HO}(R:Rel K kd F B T ad as σ H)(hi:i<as.length)(hl:ad i=l::fp)(hs:σ[i]? = some (some (.ref l)))
 (hsub:∀a ∈ fp'++fo,a ∈ fp++T) (hnd:(fp'++fo).Nodup) (hu:H l≠none)
 (ro:∀(H':Hp) (G':Addr->Prop),H' l=some u->Grow (Gw T ad) H G' H'->(∀a ∈ fp',∀w,H a=some w->H' a=some w)->w5 K kd F B G' H' (.ref l) n (l::fp')):
 Rel K kd F B fo (Yv ad i (l::fp')) (as.set i (some n)) σ (upd H l u)/\Grow (Gw T ad) H (Gw fo (Yv ad i (l::fp'))) (upd H l u):=by
 have hli:l ∈ ad i:=by rw[hl];exact zzF
 have lT:l ∉ T:=R.dis i l hli;have lfp:l ∉ fp:=by have:=R.nd i;rw[hl]at this;exact(zzW.mp this).1
 have lsub:∀a ∈ fp'++fo,a≠l:=λa m e=>by
  subst e
  rcases zzM.mp (hsub _ m)with z|z
  . exact lfp z
  . exact lT z
 have sub:∀a ∈ fp'++fo,Gw T ad a:=λa m=>by
  rcases zzM.mp (hsub a m)with z|z
  . exact .inr ⟨i,by rw[hl];exact zzD _ z⟩
  . exact .inl z
 have gsub:∀a,Gw fo (Yv ad i (l::fp')) a->Gw T ad a:=λa z=>by
  rcases z with z|⟨j,z⟩
  . exact sub a (zzL _ z)
  . by_cases e:j=i
    . subst e;rw[yn]at z
      rcases zzC.mp z with z|z
      . subst z;exact .inr ⟨j,hli⟩
      . exact sub a (zzP _ z)
    . rw[yp e]at z;exact .inr ⟨j,z⟩
 have g:Grow (Gw T ad) H (Gw fo (Yv ad i (l::fp'))) (upd H l u):=⟨λb w h n=>by rw[zK (λe=>n (by subst e;exact .inr ⟨i,hli⟩))];exact h,λb z=>.inl (gsub b z)⟩;have kn:∀a,H a≠none->upd H l u a≠none:=λa z=>by
  by_cases e:a=l
  . subst e;rw[yd];simp
  . rw[zK e];exact z
 obtain⟨hnd1,hnd2,hnd3⟩:=zxF.mp hnd;have inT:∀j a,j≠i->a ∈ ad j->a ∈ fp'++fo->False:=λj a hj m m'=>by
  rcases zzM.mp (hsub a m')with z|z
  . exact hj (R.inj j i a m (by rw[hl];exact zzD _ z))
  . exact R.dis j a m z
 refine⟨⟨by rw[zzU];exact R.len,λj hj=>?_,λj=>?_,λj k a h1 h2=>?_,hnd2,λj a h1 h2=>?_,λa z=>kn a (R.ftr a z),λa z=>?_,λa z=>⟨kn a (R.gtr a (gsub a z)).1,(R.gtr a (gsub a z)).2⟩,λj s e=>?_⟩,g⟩
 . rw[zzU]at hj;rw[yp (by omega)];exact R.out j hj
 . by_cases e:j=i
   . subst e;rw[yn];exact zzW.mpr ⟨λm=>lsub l (zzP _ m) rfl,hnd1⟩
   . rw[yp e];exact R.nd j
 . by_cases e:j=i
   . subst e
     by_cases e':k=j
     . exact e'.symm
     . rw[yn]at h1;rw[yp e']at h2
       rcases zzC.mp h1 with z|z
       . subst z;exact R.inj j k a hli h2
       . exact(inT k a e' h2 (zzP _ z)).elim
   . rw[yp e]at h1
     by_cases e':k=i
     . subst e';rw[yn]at h2
       rcases zzC.mp h2 with z|z
       . subst z;exact R.inj j k a h1 hli
       . exact(inT j a e h1 (zzP _ z)).elim
     . rw[yp e']at h2;exact R.inj j k a h1 h2
 . by_cases e:j=i
   . subst e;rw[yn]at h1
     rcases zzC.mp h1 with z|z
     . subst z;exact lsub a (zzL _ h2) rfl
     . exact hnd3 a z a h2 rfl
   . rw[yp e]at h1;exact inT j a e h1 (zzL _ h2)
 . obtain⟨b1,b2,b3⟩:=R.btr a z;exact⟨kn a b1,b2,λy=>b3 (gsub a y)⟩
 . by_cases q:j=i
   . subst q;rw[zyK hi]at e;cases e;rw[yn];refine⟨_,hs,ro _ _ yd g λa m w h=>?_⟩;rw[zK (lsub a (zzP _ m))];exact h
   . rw[zzY (Ne.symm q)]at e;rw[yp q];refine(R.sl j s e).grow g λa m w h=>?_;rw[zK (λz=>q (R.inj j i l (by rw[<-z];exact m) hli))];exact h
abbrev MG:=List O->List O->Option (List O×O)
noncomputable def yZ(i:Nat)(fr:DF)(g:MG):EF:=λas=>match as[i]? with
 |some (some (.nd .ls _))=>(fr as).bind λp=>match p.2[i]? with
  |some (some (.nd .ls os))=>(g os p.1).bind λz=>some (.ow z.2,p.2.set i (some (.nd .ls z.1)))
  |_=>none
 |_=>none
def tI(X:Cx)(kd:KD)(r:V->List V->Hp->VK->Prop)(g:MG):Prop:=
 ∀(F B G:Addr->Prop) (l:Addr) (vs ws:List V) (os es os':List O) (o:O) (fp fq:List Addr) (H:Hp) (Q:VK),H l=some (.lst vs)->x9 X.K kd F B G H vs os fp->x9 X.K kd F B G H ws es fq->(fp++fq).Nodup->g os es=some (os',o)->
  (∀v vs' fp' fo,x9 X.K kd F B G H vs' os' fp'->w5 X.K kd F B G H v o fo->(∀a ∈ fp'++fo,a ∈ fp++fq)->(fp'++fo).Nodup->Q v (upd H l (.lst vs')))->r (.ref l) ws H Q
def sA{i:Nat}{fr:DF}{g:MG}{r:V->List V->Hp->VK->Prop}(hr:tI X kd r g)
 {σ:St}{H:Hp}{Q:VK}(h:al X.K kd (yZ i fr g) σ H Q):pI X.K "list" r (WZ i) (pS X.K kd fr) σ H Q:=by
 obtain⟨F,B,U,as,z,as',R,e,q⟩:=h;unfold yZ at e;cases k:as[i]? with
 |none=>rw[k]at e;cases e
 |some a0=>
  rw[k]at e
  match a0,e,k with
  |some (.nd .ls os0),e,k=>
   obtain⟨⟨G,s⟩,h1,e⟩:=bS_ (show(fr as).bind _=_ from e);obtain⟨v0,f,t⟩:=R.sl i _ k;generalize W:U i=fp0 at t;cases t with
   |ls I rl0=>
   rename_i l vs0 Y;refine⟨_,f,.inl ⟨rfl,_,.inl (.inl I)⟩,F,B,U,as,G,s,R,h1,λws J x L j M g1=>?_⟩;cases p:s[i]? with
   |none=>rw[p]at e;cases e
   |some a2=>
    rw[p]at e
    match a2,e,p with
    |some (.nd .ls Z),e,p=>
     obtain⟨⟨y,o⟩,h3,e⟩:=bS_ (show(g Z G).bind _=_ from e);cases e;obtain⟨v1,A,C⟩:=j.sl i _ p;rw[f]at A;cases A;generalize c:x i=fp1 at C;cases C with
     |ls hH rl=>
     rename_i vs fp;have N:(fp++J).Nodup:=zxF.mpr ⟨by have:=j.nd i;rw[c]at this;exact(zzW.mp this).2,j.tnd,λa m b m' e=>by
          subst e;exact j.dis i a (by rw[c];exact zzD _ m) m'⟩
     refine hr F B (Gw J x) _ vs ws Z G y o fp J L Q hH rl M N h3 λv D fp' fo O P d E=>?_;obtain⟨R3,g3⟩:=j.mut (n:=.nd .ls y) (u:=.lst D) (zzG.mp p).1 c f d E (by rw[hH];simp) λH' G' S gr kp=>.ls S (x9.grow gr kp O);have T:∀a ∈ fo,∀w,L a=some w->upd L l (.lst D) a=some w:=λa m w h=>by
          rw[zK (λe=>?_)]
          . exact h
          . subst e
            rcases zzM.mp (d _ (zzL _ m))with z|z
            . have:=j.nd i;rw[c]at this;exact(zzW.mp this).1 z
            . exact j.dis i _ (by rw[c];exact zzF) z
     exact q v fo _ _ R3 (w5.grow g3 T P) (g1.trans g3)
end
end PF
end
section
set_option exponentiation.threshold 5000
namespace PF
open PySem PySem.Spec PyProof.Rows L2
section
variable{K:zzA}{kd:KD}{O:Addr->Prop}{H:Hp}{Q:VK}
def yg(q:RQ K kd O H Q (.im d))(r:Rp K kd O H v d):Q v H:=q v H (λ_ _ z=>z) r
def Fh(hp:H p=none)(r:RpL K kd O H vs ds):RpL K kd (WU O (· = p)) (upd H p o) vs ds:=
 RpL.grow (F:=O) (W:=λ_=>False) ⟨λb u q _=>by rw[zK (yq q hp)];exact q,λb z=>.inr (by rw[z];exact hp)⟩ (r.less λa z=>z.elim id False.elim)
def xy(hp:H p=none):∀b u,H b=some u->upd H p o b=some u:=λb u q=>by rw[zK (yq q hp)];exact q
def Ql(q:RQ K kd O H Q (.fl ds))(r:RpL K kd O H vs ds):∀p,H p=none->Q (.ref p) (upd H p (.lst vs)):=λp a=>
 q p vs _ a (xy a) yd (Fh a r)
def P2(ht:∀a,O a->H a≠none)(q:RQ K kd O H Q (.im (.tup ds)))(r:RpL K kd O H vs ds):∀p,H p=none->Q (.ref p) (upd H p (.tup vs)):=λp b=>
 q _ _ (xy b) (.tup (λz=>ht p z b) yd ((Fh b r).less λa z=>.inl z))
end
def big:Nat:=2 ^ 4000
def N1(h:i.natAbs<big):Builtin.Int.intBits i<=2 ^ 20:=by
 unfold Builtin.Int.intBits
 split
 . exact Nat.zero_le _
 . have:i.natAbs.log2<4000:=by
    rcases Nat.eq_zero_or_pos i.natAbs with a|b
    . rw[a];decide
    . exact(Nat.log2_lt (Nat.ne_of_gt b)).mpr h
   have e:(2:Nat) ^ 20=1048576:=by decide
   omega
noncomputable def Jz(f:Int->Int->Option R0)(x y:D):Option R0:=(QW x).bind λi=>(QW y).bind λj=>f i j
noncomputable def qE(x y:D):Option R0:=match x with
 | .int i=>(QW y).bind λj=>some (.im (.int (i+j)))
 | .str x=>(qw y).bind λy=>if x.length+y.length<=sizeLine then some (.im (.str (x++y)))else none
 | .lst xs=>(ER y).bind λys=>if xs.length+ys.length<=sizeLine then some (.fl (xs++ys))else none
 | .tup xs=>(qi y).bind λys=>if xs.length+ys.length<=sizeLine then some (.im (.tup (xs++ys)))else none
 |_=>none
noncomputable def rO(x y:D):Option R0:=match x with
 | .int i=>(QW y).bind λj=>if i.natAbs<big/\j.natAbs<big then some (.im (.int (i*j)))else none
 | .lst xs=>(QW y).bind λk=>if -(2 ^ 63)<=k/\k<2 ^ 63/\xs.length*k.toNat<=sizeLine then some (.fl (List.replicate k.toNat xs).flatten)else none
 | .tup xs=>(QW y).bind λk=>if 1<=k/\k<2 ^ 63/\xs.length≠0/\xs.length*k.toNat<=sizeLine then some (.im (.tup (List.replicate k.toNat xs).flatten))else none
 |_=>none
noncomputable def WJ(o:Operator)(x y:D):Option R0:=match o with
 | .Add=>qE x y
 | .Sub=>Jz (λi j=>some (.im (.int (i-j)))) x y
 | .Mult=>rO x y
 | .FloorDiv=>Jz (λi j=>if 0<j/\j.natAbs<big then some (.im (.int (i/j)))else none) x y
 | .Mod=>Jz (λi j=>if 0<j then some (.im (.int (i%j)))else none) x y
 | .Pow=>Jz (λi j=>if 0<=j/\j<=1000000/\i.natAbs<2 ^ 64 then some (.im (.int (i ^ j.toNat)))else none) x y
 |_=>none
def Yd{K:zzA}{kd:KD}{O:Addr->Prop}{H:Hp}{v:V}{d:D}{i:Int}(h:Vw K kd O H v d)(e:QW d=some i):d = .int i/\v = .int i:=by
 cases h with
 |int j=>cases e;exact⟨rfl,rfl⟩
 |_=>cases e
def J8{K:zzA}{kd:KD}{O:Addr->Prop}{H:Hp}{v:V}{d:D}{i:Str}(h:Vw K kd O H v d)(e:qw d=some i):d = .str i/\v = .str i:=by
 cases h with
 |str j=>cases e;exact⟨rfl,rfl⟩
 |_=>cases e
def Yl{K:zzA}{kd:KD}{O:Addr->Prop}{H:Hp}{v w:V}{d e:D}{f:Int->Int->Option R0}{r:R0}(vx:Vw K kd O H v d)(vy:Vw K kd O H w e)(h:Jz f d e=some r):∃i j,v = .int i/\w = .int j/\f i j=some r:=by
 obtain⟨i,a,h⟩:=bS_ (show(QW d).bind _=_ from h);obtain⟨j,b,h⟩:=bS_ h;exact⟨i,j,(Yd vx a).2,(Yd vy b).2,h⟩
section
variable{X:Cx}{kd:KD}
def Cu:QF X (binaryOp .Add) (λx y H Q=>∃l b xs zs,x = .ref l/\y = .ref b/\SY X.K H l xs/\SY X.K H b zs/\xs.length+zs.length<=sizeLine/\∀p,H p=none->Q (.ref p) (upd H p (.lst (xs++zs)))):=by
 intro d s σ H x y v u Q I g i h;obtain⟨l,b,w,A,rfl,rfl,j,k,B,q⟩:=h;cases g;cases i;obtain⟨z,c,n,r,e⟩:=MF I j;obtain⟨C,a,D,f,m⟩:=MF I k;have E:=r.length;have o:=f.length;refine PySem.P.add_list e m ?_ (by rw[zzH,zzH];omega);have t:c.toArray++a.toArray=(c++a).toArray:=by simp
 rw[t];exact⟨.ref _,_,I.lnew (t':=s.toks) (r.append f) (by rw[zzJ];omega),rfl,q _ I.fresh⟩
def OS:QF X (binaryOp .Mult) (λx y H Q=>∃l k xs,x = .ref l/\y = .int k/\SY X.K H l xs /\ -(2 ^ 63)<=k/\k<2 ^ 63/\xs.length*k.toNat<=sizeLine/\
 ∀p,H p=none->Q (.ref p) (upd H p (.lst (List.replicate k.toNat xs).flatten))):=by
 intro w s σ H x y v u Q I B C h;obtain⟨l,k,N,rfl,rfl,D,E,G,A,q⟩:=h;cases B;obtain⟨t,rfl⟩:=C;obtain⟨z,b,n,r,e⟩:=MF I D;have J:=r.length;have d:b.toArray.size*k.toNat<=sizeLine:=by rw[zzH,<-J];exact A
 have f:¬b.toArray.size*k.toNat > (2 ^ 63-1)/8:=by
  have:(sizeLine:Nat)<=(2 ^ 63-1)/8:=by decide
  omega
 have g:¬(!Builtin.List.listFitsIndex k)=true:=by
  rw[fitsIndex_both E G];exact zyW
 have c:¬Builtin.List.listTooLong (b.toArray.size*k.toNat)=true:=by
  rw[Nh d];exact zyW
 have i:List.foldl (λj o=>j++o) #[] (List.replicate (if b.toArray.isEmpty=true then 0 else k.toNat) b.toArray)=(List.replicate k.toNat b).flatten.toArray:=by
  have L:∀m:Nat,List.foldl (λj o=>j++o) #[] (List.replicate m b.toArray)=(List.replicate m b).flatten.toArray:=λm=>by
   have:=foldl_rep b m [];rw[List.nil_append]at this;exact this
  rw[L];cases b with
  |nil=>simp
  |cons a O=>rw[if_neg (by simp)]
 refine wpAny_binaryOp_repeat_ref (T:="list") (U:="int") (by decide) ⟨_,e,rfl⟩ (λM=>typeIs_int M k t) noFill_list_mul F.fills_int_mul F.slot_int_rmul repeat_list F.slot_int_index.lookup
  (call_meets F.slot_int_rmul (typeIs_int s k t) F.entry_int_rmul (F.args_int_rmul_2 _ _) (int___rmul___int_list k t l b.toArray n)
   ⟨e,rfl,⟨_,e,rfl⟩,call_meets F.slot_list_mul ⟨_,e,rfl⟩ F.entry_list_mul (F.args_list_mul_2 _ _) (AutoListH.list___mul___list_int_3 l b.toArray n k t g f c) ⟨e, ?_⟩⟩)
 rw[i];refine⟨.ref _,_,I.lnew (t':=s.toks) (r.rep k.toNat) ?_,rfl,q _ I.fresh⟩;rw[len_rep,Nat.mul_comm];exact A
def tuple_addW0(l b:Addr)(items items2:Array Value)(n n2:Nat)(dd dd2:Option Addr)(sl sl2:Array (Option Value))(h0:items.isEmpty=true):
 Meets (Builtin.«tuple.__add__» {pos:=[.ref l,.ref b]}) (λ_ R s=>s.heap.get? l=some {cls:=.type "tuple",dict:=dd,data:=.seq items n,slots:=sl}/\s.heap.get? b=some {cls:=.type "tuple",dict:=dd2,data:=.seq items2 n2,slots:=sl2}/\R (.ok (.ret (.ref b))) s):=
 .of_wp λa w A R s h=>by
  obtain⟨f,g,d,i,j⟩:=s;obtain⟨c,e,h⟩:=h;have f2:=AutoSeq1.sub_tuple_tuple
  wp_walk using wpAny_loadPart' c,wpAny_loadPart' e
  exact⟨_,rfl,h⟩
def Ny(l:Addr)(items:Array Value)(n:Nat)(dd:Option Addr)(sl:Array (Option Value))(u:Tok):
 Meets (Builtin.«tuple.__mul__» {pos:=[.ref l,.int 1 u]}) (λ_ R s=>s.heap.get? l=some {cls:=.type "tuple",dict:=dd,data:=.seq items n,slots:=sl}/\R (.ok (.ret (.ref l))) s):=
 .of_wp λa w A R s h=>by
  obtain⟨c,g,d,e,f⟩:=s;obtain⟨b,h⟩:=h;have f2:=AutoSeq1.sub_tuple_tuple
  wp_walk using wpAny_loadPart' b
  exact⟨_,rfl,h⟩
def L0(l:Addr)(items its2:Array Value)(n:Nat)(dd:Option Addr)(sl:Array (Option Value))(x:Int)(u:Tok)(c1:¬(decide (x < -2 ^ 63)||decide (x ≥ 2 ^ 63))=true)(c2:¬(items.isEmpty||x==1)=true)(c3:¬(decide (x<=0)||items.isEmpty)=true)
 (hcap:¬(items.size:Int)*x > (2 ^ 63-1)/8) (ht:¬Builtin.Tuple.tupleTooMany (items.size*x)=true) (hz:¬(List.foldl (λx1 x2=>x1++x2) #[] (List.replicate x.toNat items)).size > sizeLine):
 Meets (Builtin.«tuple.__mul__» {pos:=[.ref l,.int x u]}) (λ_ R s=>s.heap.get? l=some {cls:=.type "tuple",dict:=dd,data:=.seq items n,slots:=sl}/\R (.ok (.ret (.ref s.heap.objs.size))) {s with heap:=s.heap.push {cls:=.type "tuple",data:=.seq (List.foldl (λx1 x2=>x1++x2) #[] (List.replicate x.toNat items))}}):=
 .of_wp λa w A R s h=>by
  obtain⟨c,g,d,e,f⟩:=s;obtain⟨b,h⟩:=h;have f2:=AutoSeq1.sub_tuple_tuple
  wp_walk using wpAny_loadPart' b
  rw[if_neg c1]
  wp_walk using wpAny_loadPart' b
  rw[if_neg hcap]
  wp_walk
  exact⟨_,rfl,h⟩
def QJ:fillsNumberSlot (Value.type "tuple") "mul"=pure false:=PySem.fillsNumberSlot_seq rfl rfl rfl rfl
def LI:seqRepeat? (Value.type "tuple")=pure (some (Value.builtin "tuple.__mul__")):=W.of_pureOf rfl
def P7(a:Int)(t:Tok)(l:Addr)(items:Array Value)(n:Nat)(dd:Option Addr)(sl:Array (Option Value)):
 Meets (Builtin.«int.__rmul__» {pos:=[.int a t,.ref l]}) (λ_ R s=>s.heap.get? l=some {cls:=.type "tuple",dict:=dd,data:=.seq items n,slots:=sl}/\R (.ok (.ret .notImplemented)) s):=
 .of_wp λb w A R s h=>by
  obtain⟨e,g,d,f,i⟩:=s;obtain⟨c,h⟩:=h
  wp_walk using wpAny_load' c,wpAny_loadPart' c
  exact⟨_,rfl,h⟩
def OT:QF X (binaryOp .Add) (λx y H Q=>∃a b ys,x = .ref a/\y = .ref b/\VQ X.K H a []/\VQ X.K H b ys/\Q (.ref b) H):=by
 intro j s σ H x y v u Q I t w h;obtain⟨a,b,M,rfl,rfl,z,A,q⟩:=h;cases t;cases w;obtain⟨B,C,D,_⟩:=I.tuple z;obtain⟨k,N,E,_⟩:=I.tuple A;cases C;obtain⟨⟨cls,G,l,J⟩,m,o,n,p⟩:=id D;obtain⟨⟨r,f,g,i⟩,c,d,L,e⟩:=id E;simp only at o p d e;subst o p d e;exact concat_meets ⟨_,m,rfl⟩ ⟨_,c,rfl⟩ noFill_tuple_add seq_tuple_add PySem.F.slot_tuple_add PySem.F.entry_tuple_add (PySem.F.args_tuple_add_2 _ _) (tuple_addW0 a b _ _ n L G f J i rfl) ⟨m,c,⟨.ref b,H,I,rfl,q⟩⟩
def O3:QF X (binaryOp .Mult) (λx y H Q=>∃l k xs,x = .ref l/\y = .int k/\VQ X.K H l xs/\xs≠[]/\1<=k/\k<2 ^ 63/\xs.length*k.toNat<=sizeLine/\(k=1->Q (.ref l) H)/\
 (2<=k->∀p,H p=none->Q (.ref p) (upd H p (.tup (List.replicate k.toNat xs).flatten)))):=by
 intro A s σ H x y v u Q I M N h;obtain⟨l,k,B,rfl,rfl,O,i,Y,Z,C,P,R⟩:=h;cases M;obtain⟨t,rfl⟩:=N;obtain⟨c,r,p,_⟩:=I.tuple O;have j:=r.length;have f:c.toArray.size*k.toNat<=sizeLine:=by rw[zzH,<-j];exact C
 have g:((c.toArray.size:Int)*k)=((c.toArray.size*k.toNat:Nat):Int):=by
  rw[zzV,zyZ (by omega)]
 have D:c.toArray.isEmpty=false:=by
  cases c with
  |nil=>rw[List.length_nil]at j;exact absurd (List.length_eq_zero_iff.mp j) i
  |cons a r'=>rfl
 have d:List.foldl (λS V=>S++V) #[] (List.replicate k.toNat c.toArray)=(List.replicate k.toNat c).flatten.toArray:=by
  have:=foldl_rep c k.toNat [];rw[List.nil_append]at this;exact this
 obtain⟨⟨cls,m,E,w⟩,e,G,n,J⟩:=id p;simp only at G J;subst G J;refine wpAny_binaryOp_repeat_ref (T:="tuple") (U:="int") (by decide) ⟨_,e,rfl⟩ (λW=>typeIs_int W k t) QJ F.fills_int_mul F.slot_int_rmul LI F.slot_int_index.lookup
  (call_meets F.slot_int_rmul (typeIs_int s k t) F.entry_int_rmul (F.args_int_rmul_2 _ _) (P7 k t l c.toArray n m w) ⟨e,rfl,⟨_,e,rfl⟩, ?_⟩)
 by_cases L:k=1
 . subst L;exact call_meets F.slot_tuple_mul ⟨_,e,rfl⟩ F.entry_tuple_mul (F.args_tuple_mul_2 _ _) (Ny l c.toArray n m w t) ⟨e,⟨.ref l,H,I,rfl,P rfl⟩⟩
 . have z:(List.replicate k.toNat B).flatten.length<=sizeLine:=by rw[len_rep,Nat.mul_comm];exact C
   refine call_meets F.slot_tuple_mul ⟨_,e,rfl⟩ F.entry_tuple_mul (F.args_tuple_mul_2 _ _) (L0 l c.toArray #[] n m w k t (by simp;omega) (by rw[D];simpa using L) (by rw[D];simp;omega) ?_ ?_ ?_) ⟨e, ?_⟩
   . rw[g];have:((sizeLine:Nat):Int)<=(2 ^ 63-1)/8:=by decide
     omega
   . unfold Builtin.Tuple.tupleTooMany;rw[g];simp only[gt_iff_lt,decide_eq_true_eq];omega
   . rw[d,zzH,len_rep,Nat.mul_comm];rw[zzH]at f;omega
   . rw[d];refine⟨.ref s.heap.objs.size,_,I.laid (t':=s.toks) (o:=.tup (List.replicate k.toNat B).flatten) (λb ob q=>zxI _ q) (zzN _) ?_,rfl,R (by omega) _ (I.hok.fresh (zzN _))⟩;exact⟨z,_,r.rep k.toNat,IsTup.new _ _⟩
def J6(op:Operator):J3 X kd (binaryOp op) (WJ op):=by
 intro pins s σ H x y v u Q I rx ry h;obtain⟨O,d,e,r,ht,vx,vy,he,q⟩:=h;cases op with
 |Add=>
  cases vx with
  |int i=>
   obtain⟨j,h1,he⟩:=bS_ (show(QW e).bind _=_ from he);obtain⟨rfl,rfl⟩:=Yd vy h1;cases he;exact AB pins s σ H _ _ v u Q I rx ry ⟨_,_,rfl,rfl,yg q (.int _)⟩
  |str i=>
   obtain⟨j,h1,he⟩:=bS_ (show(qw e).bind _=_ from he);obtain⟨rfl,rfl⟩:=J8 vy h1;obtain⟨c,rfl⟩:=zM he;exact M0 pins s σ H _ _ v u Q I rx ry ⟨_,_,rfl,rfl,c,yg q (.str _)⟩
  |lst hx rx'=>
   obtain⟨j,h1,he⟩:=bS_ (show(ER e).bind _=_ from he);cases WH h1;obtain⟨c,rfl⟩:=zM he;cases vy with
   |lst hy ry'=>exact Cu pins s σ H _ _ v u Q I rx ry ⟨_,_,_,_,rfl,rfl,hx,hy,by rw[rx'.length,ry'.length];exact c,Ql q (rx'.append ry')⟩
  | @tup a1 vs1 ds1 r1 hx rx'=>
   obtain⟨j,h1,he⟩:=bS_ (show(qi e).bind _=_ from he);cases Dq h1;obtain⟨c,rfl⟩:=zM he;cases vy with
   |tup r2 hy ry'=>
    by_cases h0:vs1=([]:List V)
    . subst h0;cases rx';exact OT pins s σ H _ _ v u Q I rx ry ⟨_,_,_,rfl,rfl,hx,hy,yg q r2⟩
    refine CZ pins s σ H _ _ v u Q I rx ry ⟨_,_,_,_,rfl,rfl,hx,hy,h0,by rw[rx'.length,ry'.length];exact c,λhn=>?_,λhn=>P2 ht q (rx'.append ry')⟩
    . subst hn;cases ry';rw[zyE]at q;exact yg q r1
  |_=>cases he
 |Sub=>
  obtain⟨i,j,rfl,rfl,he⟩:=Yl vx vy he;cases he;exact JV pins s σ H _ _ v u Q I rx ry ⟨_,_,rfl,rfl,yg q (.int _)⟩
 |Mult=>
  cases vx with
  |int i=>
   obtain⟨j,h1,he⟩:=bS_ (show(QW e).bind _=_ from he);obtain⟨rfl,rfl⟩:=Yd vy h1;obtain⟨c,rfl⟩:=zM he;obtain⟨t,rfl⟩:=rx;obtain⟨t',rfl⟩:=ry;exact mul_int ⟨.int _,H,I.tok _,⟨_,rfl⟩,yg q (.int _)⟩ (IntMulOk.of_bits (N1 c.1) (N1 c.2))
  |lst hx rx'=>
   obtain⟨j,h1,he⟩:=bS_ (show(QW e).bind _=_ from he);obtain⟨rfl,rfl⟩:=Yd vy h1;obtain⟨c,rfl⟩:=zM he;exact OS pins s σ H _ _ v u Q I rx ry ⟨_,_,_,rfl,rfl,hx,c.1,c.2.1,by rw[rx'.length];exact c.2.2,Ql q (rx'.rep _)⟩
  |tup r1 hx rx'=>
   obtain⟨j,h1,he⟩:=bS_ (show(QW e).bind _=_ from he);obtain⟨rfl,rfl⟩:=Yd vy h1;obtain⟨c,rfl⟩:=zM he;refine O3 pins s σ H _ _ v u Q I rx ry ⟨_,_,_,rfl,rfl,hx,λe=>?_,c.1,c.2.1,by rw[rx'.length];exact c.2.2.2,λe=>?_,λ_=>P2 ht q (rx'.rep _)⟩
   . have:=rx'.length;rw[e]at this;exact c.2.2.1 this.symm
   . subst e;refine yg q ?_;rw[show(1:Int).toNat=1 from rfl,List.replicate_one,List.flatten_cons,List.flatten_nil,zyE];exact r1
  |_=>cases he
 |FloorDiv=>
  obtain⟨i,j,rfl,rfl,he⟩:=Yl vx vy he;obtain⟨c,rfl⟩:=zM he;obtain⟨t,rfl⟩:=rx;obtain⟨t',rfl⟩:=ry;refine floordiv_int (by omega) ?_ (.inl (PyProof.noPylong_of_log2 ?_))
  . rw[Int.fdiv_eq_ediv_of_nonneg _ (by omega)];exact⟨.int _,H,I.tok _,⟨_,rfl⟩,yg q (.int _)⟩
  . exact zzK ((Nat.log2_lt (by have:=c.1;omega)).mpr (show _<2 ^ 4000 from c.2)) (by decide)
 |Mod=>
  obtain⟨i,j,rfl,rfl,he⟩:=Yl vx vy he;obtain⟨c,rfl⟩:=zM he;exact S_ pins s σ H _ _ v u Q I rx ry ⟨_,_,rfl,rfl,c,yg q (.int _)⟩
 |Pow=>
  obtain⟨i,j,rfl,rfl,he⟩:=Yl vx vy he;obtain⟨c,rfl⟩:=zM he;exact DJ pins s σ H _ _ v u Q I rx ry ⟨_,_,rfl,rfl,c,yg q (.int _)⟩
 |_=>cases he
end
noncomputable def GU(f:D->D->Option Bool):List D->List D->Option Bool
 | [],[]=>some true
 |x::r,y::t=>(f x y).bind λb=>(GU f r t).bind λc=>some (b&&c)
 |_,_=>some false
noncomputable def xk:Nat->D->D->Option Bool
 |0,_,_=>none
 |_+1,.non,.non=>some true
 |_+1,.bl a,.bl b=>some (a==b)
 |_+1,.int a,.int b=>some (a==b)
 |_+1,.str a,.str b=>some (a==b)
 |_+1,.bl a,.int b=>some ((if a then 1 else 0)==b)
 |_+1,.int a,.bl b=>some (a==(if b then 1 else 0))
 |n+1,.lst xs,.lst ys=>GU (xk n) xs ys
 |n+1,.tup xs,.tup ys=>GU (xk n) xs ys
 |_+1,.dct _,_=>none
 |_+1,.cl _,_=>none
 |_+1,.ob _ _ _,_=>none
 |_+1,.dt _ _,_=>none
 |_+1,_,.dct _=>none
 |_+1,_,.cl _=>none
 |_+1,_,.ob _ _ _=>none
 |_+1,_,.dt _ _=>none
 |_+1,_,_=>some false
noncomputable def SL(f:D->D->Option Bool)(xs ys:List D)(j:Nat):Bool:=match xs[j]?,ys[j]? with
 |some d,some e=>(f d e).getD false
 |_,_=>false
theorem PL:∀{xs ys:List D}{b:Bool},GU f xs ys=some b->(∀(j:Nat) d e,xs[j]? = some d->ys[j]? = some e->∃c,f d e=some c)/\
 b=((List.range (min xs.length ys.length)).all (SL f xs ys)&&xs.length==ys.length)
 | [],[],b,h=>by cases h;exact⟨λj d e h=>by simp at h,by simp⟩
 | [],y::t,b,h=>by cases h;exact⟨λj d e h=>by simp at h,by simp⟩
 |x::r,[],b,h=>by cases h;exact⟨λj d e _ h=>by simp at h,by simp⟩
 |x::r,y::t,b,h=>by
  obtain⟨b1,h1,h⟩:=bS_ (show(f x y).bind _=_ from h);obtain⟨c1,h2,h⟩:=bS_ h;cases h;obtain⟨k1,k2⟩:=PL h2;refine⟨λj d e hd he=>?_, ?_⟩
  . cases j with
    |zero=>simp at hd he;subst hd he;exact⟨b1,h1⟩
    |succ j=>exact k1 j d e (by simpa using hd) (by simpa using he)
  . have e0:min (x::r).length (y::t).length=min r.length t.length+1:=by simp only[zzT];omega
    rw[e0,List.range_succ_eq_map,List.all_cons,List.all_map,k2];have e1:SL f (x::r) (y::t) 0=b1:=by show(f x y).getD false=b1;rw[h1];rfl
    have e2:(SL f (x::r) (y::t)∘Nat.succ)=SL f r t:=by
     funext j;show SL f (x::r) (y::t) (j+1)=_;unfold SL;simp
    have e3:((x::r).length==(y::t).length)=(r.length==t.length):=by
     by_cases hh:r.length=t.length<;>simp[hh]
    rw[e1,e2,e3,Bool.and_assoc]
structure EqAll(A:Around)(s:Shared)(u v:Value)(b:Bool):Prop where
 rc:SeqAt.RcAt A s u v b
 ne:SeqAt.RcNeAt A s u v (!b)
 eq:SeqAt.EqAt A s u v b
section
variable{X:Cx}{kd:KD}{pins:List (Addr×Obj)}{σ:St}{H:Hp}{s:Shared}{O:Addr->Prop}
def FG(I:Inv X pins σ H s)(h:VQ X.K H a xs)(h':Z5 X.K H a ys):False:=by
 obtain⟨_,_,⟨o,e,c,_⟩,_⟩:=I.tuple h;obtain⟨_,_,⟨f,n,b,d,_⟩,_⟩:=I.list h';rw[e]at b;cases b;rw[c]at d;exact absurd d (by decide)
theorem EE(I:Inv X pins σ H s):∀(n:Nat) (v:V) (d e:D) (b:Bool),Vw X.K kd O H v d->Vw X.K kd O H v e->xk n d e=some b->b=true
 |0,_,_,_,_,_,_,h=>by cases h
 |n+1,v,d,e,b,p,f,h=>by
  have lst:∀(i:List V) (l m:List D) (b:Bool),RpL X.K kd O H i l->RpL X.K kd O H i m->GU (xk n) l m=some b->b=true:=by
   intro i
   induction i with
   |nil=>intro l m b g a h;cases g;cases a;cases h;rfl
   |cons v i q=>
    intro l m b g a h;cases g with
    |cons r g=>
     cases a with
     | cons t a=>
            obtain⟨y,u,h⟩:=bS_ (show(xk n _ _).bind _=_ from h);obtain⟨z,w,h⟩:=bS_ h;cases h;rw[EE I n _ _ _ _ r.vw t.vw u,q _ _ _ g a w];rfl
  cases p with
  |non=>cases f;cases h;rfl
  |bl x=>cases f;cases h;simp
  |int x=>cases f;cases h;simp
  |str x=>cases f;cases h;simp
  |tup g j o=>
   cases f with
   |tup a c k=>
    have:=I.tuple_inj j c;subst this;exact lst _ _ _ _ o k h
   |lst c k=>exact(FG I j c.sq).elim
   |_=>cases h
  |lst j o=>
   cases f with
   |tup a c k=>exact(FG I c j.sq).elim
   |lst c k=>
    have:=I.list_inj j.sq c.sq;subst this;exact lst _ _ _ _ o k h
   |_=>cases h
  |_=>cases h
theorem Ld(I:Inv X pins σ H s):∀(n:Nat) (A:Around) (x y:V) (d e:D) (u v:Value) (b:Bool),A.units+n<cLine->Vw X.K kd O H x d->Vw X.K kd O H y e->RelV x u->RelV y v->xk n d e=some b->EqAll A s u v b
 |0,_,_,_,_,_,_,_,_,_,_,_,_,_,h=>by cases h
 |n+1,A,x,y,d,e,u,v,b,hu,h1,E,R,k,h=>by
  have f:A.units<cLine:=by omega
  have W:∀{vs ws:List V}{l g:List Value}{S T:List D},RpL X.K kd O H vs S->RpL X.K kd O H ws T->z_ vs l->z_ ws g->(∀(j:Nat) d e,S[j]? = some d->T[j]? = some e->∃c,xk n d e=some c)->
   ∀j (h1:j<l.toArray.size) (E:j<g.toArray.size),SeqAt.EqAt A.in1 s l.toArray[j] g.toArray[j] (SL (xk n) S T j):=by
   intro vs ws l g S T F q v1 v2 hd j j1 j2;have q1:j<S.length:=by rw[<-F.length,v1.length];simpa using j1
   have q2:j<T.length:=by rw[<-q.length,v2.length];simpa using j2
   obtain⟨L,ha1,ra1⟩:=F.get (zzE q1);obtain⟨M,ha2,ra2⟩:=q.get (zzE q2);obtain⟨u1,hu1,ru1⟩:=v1.get ha1;obtain⟨u2,hu2,ru2⟩:=v2.get ha2;obtain⟨c,hc⟩:=hd j _ _ (zzE q1) (zzE q2);have e1:l.toArray[j]=u1:=by
    have:=(zzG.mp hu1).2;simpa using this
   have e2:g.toArray[j]=u2:=by
    have:=(zzG.mp hu2).2;simpa using this
   rw[e1,e2];have e3:SL (xk n) S T j=c:=by
    unfold SL;rw[zzE q1,zzE q2];show(xk n _ _).getD false=c;rw[hc];rfl
   rw[e3];exact(Ld I n A.in1 L M _ _ u1 u2 c (by show A.units+1+n<cLine;omega) ra1.vw ra2.vw ru1 ru2 hc).eq
  have G:∀{a a':Addr},x = .ref a->y = .ref a'->a=a'->b=true:=by
   intro a a' e1 e2 e3;subst e1 e2 e3;exact EE I (n+1) _ _ _ _ h1 E h
  cases h1 with
  |non=>
   cases R;cases E with
   |non=>cases k;cases h;exact⟨SeqAt.RcAt.none_none,SeqAt.RcNeAt.none_none,SeqAt.EqAt.same _⟩
   |bl=>cases k;cases h;exact⟨SeqAt.RcAt.none_bool _,SeqAt.RcNeAt.none_bool _,SeqAt.EqAt.none_bool _⟩
   |int=>obtain⟨t,rfl⟩:=k;cases h;exact⟨SeqAt.RcAt.none_int _ _,SeqAt.RcNeAt.none_int _ _,SeqAt.EqAt.none_int _ _⟩
   |str=>obtain⟨t,rfl⟩:=k;cases h;exact⟨SeqAt.RcAt.none_str _ _,SeqAt.RcNeAt.none_str _ _,SeqAt.EqAt.none_str _ _⟩
   |tup r o q=>
    cases k;cases h;obtain⟨l,J,p,_⟩:=I.tuple o;exact⟨SeqAt.RcAt.none_tuple p f,SeqAt.RcNeAt.none_tuple p f,SeqAt.EqAt.none_tuple p f⟩
   |lst o q=>
    cases k;cases h;obtain⟨l,J,p,_⟩:=I.list o.sq;exact⟨SeqAt.RcAt.none_list p.isList f,SeqAt.RcNeAt.none_list p.isList f,SeqAt.EqAt.none_list p.isList f⟩
   |_=>cases h
  |bl c=>
   cases R;cases E with
   |non=>cases k;cases h;exact⟨SeqAt.RcAt.bool_none _,SeqAt.RcNeAt.bool_none _,SeqAt.EqAt.bool_none _⟩
   |bl=>cases k;cases h;exact⟨SeqAt.RcAt.bool_bool _ _,SeqAt.RcNeAt.bool_bool _ _,SeqAt.EqAt.bool_bool _ _⟩
   |int=>obtain⟨t,rfl⟩:=k;cases h;exact⟨SeqAt.RcAt.bool_int _ _ _,SeqAt.RcNeAt.bool_int _ _ _,SeqAt.EqAt.bool_int _ _ _⟩
   |str=>obtain⟨t,rfl⟩:=k;cases h;exact⟨SeqAt.RcAt.bool_str _ _ _,SeqAt.RcNeAt.bool_str _ _ _,SeqAt.EqAt.bool_str _ _ _⟩
   |tup r o q=>
    cases k;cases h;obtain⟨l,J,p,_⟩:=I.tuple o;exact⟨SeqAt.RcAt.bool_tuple _ p f,SeqAt.RcNeAt.bool_tuple _ p f,SeqAt.EqAt.bool_tuple _ p f⟩
   |lst o q=>
    cases k;cases h;obtain⟨l,J,p,_⟩:=I.list o.sq;exact⟨SeqAt.RcAt.bool_list _ p.isList f,SeqAt.RcNeAt.bool_list _ p.isList f,SeqAt.EqAt.bool_list _ p.isList f⟩
   |_=>cases h
  |int c=>
   obtain⟨t0,rfl⟩:=R;cases E with
   |non=>cases k;cases h;exact⟨SeqAt.RcAt.int_none _ _,SeqAt.RcNeAt.int_none _ _,SeqAt.EqAt.int_none _ _⟩
   |bl=>cases k;cases h;exact⟨SeqAt.RcAt.int_bool _ _ _,SeqAt.RcNeAt.int_bool _ _ _,SeqAt.EqAt.int_bool _ _ _⟩
   |int=>obtain⟨t,rfl⟩:=k;cases h;exact⟨SeqAt.RcAt.int_int _ _ _ _,SeqAt.RcNeAt.int_int _ _ _ _,SeqAt.EqAt.int_int _ _ _ _⟩
   |str=>obtain⟨t,rfl⟩:=k;cases h;exact⟨SeqAt.RcAt.int_str _ _ _ _,SeqAt.RcNeAt.int_str _ _ _ _,SeqAt.EqAt.int_str _ _ _ _⟩
   |tup r o q=>
    cases k;cases h;obtain⟨l,J,p,_⟩:=I.tuple o;exact⟨SeqAt.RcAt.int_tuple _ _ p f,SeqAt.RcNeAt.int_tuple _ _ p f,SeqAt.EqAt.int_tuple _ _ p f⟩
   |lst o q=>
    cases k;cases h;obtain⟨l,J,p,_⟩:=I.list o.sq;exact⟨SeqAt.RcAt.int_list _ _ p.isList f,SeqAt.RcNeAt.int_list _ _ p.isList f,SeqAt.EqAt.int_list _ _ p.isList f⟩
   |_=>cases h
  |str c=>
   obtain⟨t0,rfl⟩:=R;cases E with
   |non=>cases k;cases h;exact⟨SeqAt.RcAt.str_none _ _,SeqAt.RcNeAt.str_none _ _,SeqAt.EqAt.str_none _ _⟩
   |bl=>cases k;cases h;exact⟨SeqAt.RcAt.str_bool _ _ _,SeqAt.RcNeAt.str_bool _ _ _,SeqAt.EqAt.str_bool _ _ _⟩
   |int=>obtain⟨t,rfl⟩:=k;cases h;exact⟨SeqAt.RcAt.str_int _ _ _ _,SeqAt.RcNeAt.str_int _ _ _ _,SeqAt.EqAt.str_int _ _ _ _⟩
   |str=>obtain⟨t,rfl⟩:=k;cases h;exact⟨SeqAt.RcAt.str_str _ _ _ _,SeqAt.RcNeAt.str_str _ _ _ _,SeqAt.EqAt.str_str _ _ _ _⟩
   |tup r o q=>
    cases k;cases h;obtain⟨l,J,p,_⟩:=I.tuple o;exact⟨SeqAt.RcAt.str_tuple _ _ p f,SeqAt.RcNeAt.str_tuple _ _ p f,SeqAt.EqAt.str_tuple _ _ p f⟩
   |lst o q=>
    cases k;cases h;obtain⟨l,J,p,_⟩:=I.list o.sq;exact⟨SeqAt.RcAt.str_list _ _ p.isList f,SeqAt.RcNeAt.str_list _ _ p.isList f,SeqAt.EqAt.str_list _ _ p.isList f⟩
   |_=>cases h
  | @tup L vs1 N r s1 F=>
   cases R;obtain⟨m,z,i,_⟩:=I.tuple s1;cases E with
   |non=>cases k;cases h;exact⟨SeqAt.RcAt.tuple_none i f,SeqAt.RcNeAt.tuple_none i f,SeqAt.EqAt.tuple_none i f⟩
   |bl=>cases k;cases h;exact⟨SeqAt.RcAt.tuple_bool _ i f,SeqAt.RcNeAt.tuple_bool _ i f,SeqAt.EqAt.tuple_bool _ i f⟩
   |int=>obtain⟨t,rfl⟩:=k;cases h;exact⟨SeqAt.RcAt.tuple_int _ _ i f,SeqAt.RcNeAt.tuple_int _ _ i f,SeqAt.EqAt.tuple_int _ _ i f⟩
   |str=>obtain⟨t,rfl⟩:=k;cases h;exact⟨SeqAt.RcAt.tuple_str _ _ i f,SeqAt.RcNeAt.tuple_str _ _ i f,SeqAt.EqAt.tuple_str _ _ i f⟩
   | @tup M vs2 P r' o q=>
    cases k;obtain⟨g,w,B,_⟩:=I.tuple o;obtain⟨k1,k2⟩:=PL h;have Y:=W F q z w k1;have Z:((List.range (min m.toArray.size g.toArray.size)).all (SL (xk n) N P)&&m.toArray.size==g.toArray.size)=b:=by
     rw[k2,zzH,zzH,<-z.length,<-w.length,F.length,q.length]
    have U:=SeqAt.RcAt.tuples i B f Y;have b2:=SeqAt.RcNeAt.tuples i B f Y;rw[Z]at U b2;refine⟨U,b2, ?_⟩
    by_cases Q:L=M
    . have hb:=G rfl rfl Q;subst Q;rw[hb];exact SeqAt.EqAt.same _
    . exact SeqAt.EqAt.of_refs Q U
   |lst o q=>
    cases k;cases h;obtain⟨l,J,p,_⟩:=I.list o.sq;exact⟨SeqAt.RcAt.tuple_list i p.isList f,SeqAt.RcNeAt.tuple_list i p.isList f,SeqAt.EqAt.tuple_list i p.isList f⟩
   |_=>cases h
  | @lst L vs1 N s1 F=>
   cases R;obtain⟨m,z,i,_⟩:=I.list s1.sq;cases E with
   |non=>cases k;cases h;exact⟨SeqAt.RcAt.list_none i.isList f,SeqAt.RcNeAt.list_none i.isList f,SeqAt.EqAt.list_none i.isList f⟩
   |bl=>cases k;cases h;exact⟨SeqAt.RcAt.list_bool _ i.isList f,SeqAt.RcNeAt.list_bool _ i.isList f,SeqAt.EqAt.list_bool _ i.isList f⟩
   |int=>obtain⟨t,rfl⟩:=k;cases h;exact⟨SeqAt.RcAt.list_int _ _ i.isList f,SeqAt.RcNeAt.list_int _ _ i.isList f,SeqAt.EqAt.list_int _ _ i.isList f⟩
   |str=>obtain⟨t,rfl⟩:=k;cases h;exact⟨SeqAt.RcAt.list_str _ _ i.isList f,SeqAt.RcNeAt.list_str _ _ i.isList f,SeqAt.EqAt.list_str _ _ i.isList f⟩
   |tup r' o q=>
    cases k;cases h;obtain⟨g,w,B,_⟩:=I.tuple o;exact⟨SeqAt.RcAt.list_tuple i.isList B f,SeqAt.RcNeAt.list_tuple i.isList B f,SeqAt.EqAt.list_tuple i.isList B f⟩
   | @lst M vs2 P o q=>
    cases k;obtain⟨g,w,B,_⟩:=I.list o.sq;obtain⟨k1,k2⟩:=PL h;have Y:=W F q z w k1;have ez1:m.toArray.size=_:=zzH.trans (z.length.symm.trans F.length);have ez2:g.toArray.size=_:=zzH.trans (w.length.symm.trans q.length);have C:SeqAt.RcAt A s (.ref L) (.ref M) b/\SeqAt.RcNeAt A s (.ref L) (.ref M) (!b):=by
     by_cases hz:m.toArray.size=g.toArray.size
     . have U:=SeqAt.RcAt.lists i.isList B.isList hz f Y;have b2:=SeqAt.RcNeAt.lists i.isList B.isList hz f Y;have Z:(List.range m.toArray.size).all (SL (xk n) N P)=b:=by
        rw[k2,<-ez1,<-ez2,<-hz,Nat.min_self];simp
       rw[Z]at U b2;exact⟨U,b2⟩
     . have hz':(m.toArray.size != g.toArray.size)=true:=by simpa using hz
       have Z:b=false:=by
        rw[k2,<-ez1,<-ez2];have:(m.toArray.size==g.toArray.size)=false:=by simpa using hz
        rw[this,Bool.and_false]
       rw[Z];exact⟨SeqAt.RcAt.lists_lengths i.isList B.isList hz' f,SeqAt.RcNeAt.lists_lengths i.isList B.isList hz' f⟩
    refine⟨C.1,C.2, ?_⟩
    by_cases Q:L=M
    . have hb:=G rfl rfl Q;subst Q;rw[hb];exact SeqAt.EqAt.same _
    . exact SeqAt.EqAt.of_refs Q C.1
   |_=>cases h
  |_=>cases h
end
structure DkAt(P:Program)(w:World)(h:Heap)(a:Addr)(kvs:List (Key×V)):Prop where
 le:kvs.length<=sizeLine
 ns:(a==sysModules)=false
 ex:∃vs,KV kvs vs/\h.DictOf (yN P w) a vs
structure KdOk(X:Cx)(kd:KD):Prop where
 inj:∀a k k',kd a k->kd a k'->k=k'
 inK:∀a k,kd a k->∃o,X.K.lookup a=some o
 at_:∀a k h,kd a k->X.K.In h->DkAt X.prog X.w h a k
section
variable{X:Cx}{kd:KD}{pins:List (Addr×Obj)}{σ:St}{H:Hp}{s:Shared}{O:Addr->Prop}
def GY(I:Inv X pins σ H s)(hk:KdOk X kd)(h:Rd H a (.dK kvs)\/kd a kvs):DkAt X.prog X.w s.heap a kvs:=by
 rcases h with h|h
 . obtain⟨z,c,d,b,e⟩:=ND I.hok h;exact⟨z,c,d,b,e⟩
 . exact hk.at_ _ _ _ h I.kIn
theorem HW(I:Inv X pins σ H s):∀(n:Nat) (v:V) (d e x:D) (b c:Bool),Vw X.K kd O H v d->Vw X.K kd O H v e->xk n d x=some b->xk n e x=some c->b=c
 |0,_,_,_,_,_,_,_,_,h,_=>by cases h
 |n+1,v,d,e,x,b,c,t,r,h,a=>by
  have lst:∀(l:List V) (o p f:List D) (b c:Bool),RpL X.K kd O H l o->RpL X.K kd O H l p->GU (xk n) o f=some b->GU (xk n) p f=some c->b=c:=by
   intro l
   induction l with
   |nil=>intro o p f b c j g h a;cases j;cases g;exact zzZ (h.symm.trans a)
   |cons v l u=>
    intro o p f b c j g h a;cases j with
    |cons w j=>
     cases g with
     | cons y g=>
            cases f with
            |nil=>cases h;cases a;rfl
            |cons x f=>
             obtain⟨E,z,h⟩:=bS_ (show(xk n _ _).bind _=_ from h);obtain⟨F,A,h⟩:=bS_ h;obtain⟨G,B,a⟩:=bS_ (show(xk n _ _).bind _=_ from a);obtain⟨J,C,a⟩:=bS_ a;cases h;cases a;rw[HW I n _ _ _ _ _ _ w.vw y.vw z B,u _ _ _ _ _ j g A C]
  cases t with
  |tup j k q=>
   cases r with
   |tup g i m=>
    have:=I.tuple_inj k i;subst this;cases x with
    |tup f=>exact lst _ _ _ _ _ _ q m h a
    |_=>exact zzZ (h.symm.trans a)
   |lst i m=>exact(FG I k i.sq).elim
   |_=>cases a
  |lst k q=>
   cases r with
   |tup g i m=>exact(FG I i k.sq).elim
   |lst i m=>
    have:=I.list_inj k.sq i.sq;subst this;cases x with
    |lst f=>exact lst _ _ _ _ _ _ q m h a
    |_=>exact zzZ (h.symm.trans a)
   |_=>cases a
  |dct k q=>cases h
  |cl=>cases h
  |ob=>cases h
  |dt=>cases h
  |_=>cases r;exact zzZ (h.symm.trans a)
end
noncomputable def H_:D->Option Key
 | .int i=>some (.inl i)
 | .str x=>some (.inr x)
 |_=>none
noncomputable def Kz(kvs:List (Key×D))(k:Key):Option D:=(kvs.find? λkv=>decide (kv.1=k)).map (·.2)
def Kl{K:zzA}{kd:KD}{O:Addr->Prop}{H:Hp}(k:Key){vs:List (Key×V)}{ds:List (Key×D)}(h:RpM K kd O H vs ds):(∃v d,wJ vs k=some v/\Kz ds k=some d/\Rp K kd O H v d)\/(wJ vs k=none/\Kz ds k=none):=
 RpM.ind (P:=λf g=>(∃v d,wJ f k=some v/\Kz g k=some d/\Rp K kd O H v d)\/(wJ f k=none/\Kz g k=none)) (.inr ⟨rfl,rfl⟩) (λ{i v d f g} a _ j=>by
  by_cases e:i=k
  . left;refine⟨_,_, ?_, ?_,a⟩
    . unfold wJ;simp[e]
    . unfold Kz;simp[e]
  . rcases j with⟨v,d,b,c,l⟩|⟨b,c⟩
    . left;refine⟨v,d, ?_, ?_,l⟩
      . unfold wJ at b ⊢;simpa[e]using b
      . unfold Kz at c ⊢;simpa[e]using c
    . right;refine⟨?_, ?_⟩
      . unfold wJ at b ⊢;simpa[e]using b
      . unfold Kz at c ⊢;simpa[e]using c) h
noncomputable def u5:D->Option Key
 | .bl b=>some (.inl (if b=true then 1 else 0))
 |d=>H_ d
noncomputable def Uv:List D->Option (List Key)
 | []=>some []
 |d::r=>(u5 d).bind λk=>(Uv r).bind λks=>some (k::ks)
def Xk:D->Option (List Key)
 | .tup ds=>Uv ds
 |_=>none
noncomputable def YQ(ks:List (List Key))(ds:List D)(k:List Key):Option D:=((ks.zip ds).find? λkv=>decide (kv.1=k)).map (·.2)
def Ho{K:zzA}{kd:KD}{O:Addr->Prop}{H:Hp}{vs:List V}{ds:List D}(h:RpL K kd O H vs ds):∀{k:List Key},Uv ds=some k->vs.map kO=k.map some:=
 RpL.ind (P:=λvs ds=>∀{k:List Key},Uv ds=some k->vs.map kO=k.map some) (λe=>by cases e;rfl) (λ{v d vs ds} a _ ih k e=>by
  obtain⟨k1,h1,e⟩:=bS_ (show(u5 d).bind _=_ from e);obtain⟨k2,h2,e⟩:=bS_ e;cases e;have hv:kO v=some k1:=by
   cases a with
   |int i=>cases h1;rfl
   |str i=>cases h1;rfl
   |bl b=>cases h1;rfl
   |_=>cases h1
  rw[zyS,zyS,hv,ih h2]) h
def Xw{K:zzA}{kd:KD}{O:Addr->Prop}{H:Hp}{v:V}{d:D}{k:List Key}(h:Vw K kd O H v d)(e:Xk d=some k):∃b,v = .ref b/\KC H b k:=by
 cases h with
 |tup a c f=>
  cases a with
  |tup n h r=>exact⟨_,rfl,_,h,Ho r e⟩
 |_=>cases e
def Rw{K:zzA}{kd:KD}{O:Addr->Prop}{H:Hp}(k:List Key){vs:List V}{ds:List D}(h:RpL K kd O H vs ds):∀{ks:List (List Key)},ks.length=vs.length->(∃v d,wJ (ks.zip vs) k=some v/\YQ ks ds k=some d/\Rp K kd O H v d)\/(wJ (ks.zip vs) k=none/\YQ ks ds k=none):=
 RpL.ind (P:=λc g=>∀{b:List (List Key)},b.length=c.length->(∃v d,wJ (b.zip c) k=some v/\YQ b g k=some d/\Rp K kd O H v d)\/(wJ (b.zip c) k=none/\YQ b g k=none)) (λ{b} e=>by
  cases b with
  |nil=>exact .inr ⟨rfl,rfl⟩
  |cons=>simp at e) (λ{v d c g} a _ i b e=>by
  cases b with
  |nil=>simp at e
  |cons j b=>
   have l:b.length=c.length:=by simpa using e
   unfold wJ YQ;rw[List.zip_cons_cons,List.zip_cons_cons]
   by_cases f:j=k
   . rw[List.find?_cons_of_pos (by simpa using f),List.find?_cons_of_pos (by simpa using f)];exact .inl ⟨_,_,rfl,rfl,a⟩
   . rw[List.find?_cons_of_neg (by simpa using f),List.find?_cons_of_neg (by simpa using f)];exact i l) h
noncomputable def anyF(f:D->Option Bool):List D->Option Bool
 | []=>some false
 |x::r=>(f x).bind λb=>(anyF f r).bind λc=>some (b||c)
def Iq(b:Bool):R0:=.im (.bl b)
noncomputable def Dh(x:D):D->Option Bool
 | .lst ys=>anyF (λy=>xk 50 y x) ys
 | .tup ys=>anyF (λy=>xk 50 y x) ys
 | .str y=>match x with | .str i=>some (!(Builtin.Str.occurrences y i 0 y.length 1).isEmpty)|_=>none
 | .dct kvs=>(H_ x).bind λk=>some (Kz kvs k).isSome
 | .dt ks ds=>(Xk x).bind λk=>some (YQ ks ds k).isSome
 |_=>none
noncomputable def sg:D->D->Option Bool
 |d,.non=>some (match d with | .non=>true|_=>false)
 |d,.bl b=>match d with | .bl c=>some (c==b)|_=>some false
 |_,_=>none
def FP(f:Int->Int->Bool):D->D->Option R0:=Jz λi j=>some (Iq (f i j))
noncomputable def zy(o:CmpOp)(d e:D):Option R0:=match o with
 | .Eq=>(xk 60 d e).bind λb=>some (Iq b)
 | .NotEq=>(xk 60 d e).bind λb=>some (Iq !b)
 | .Lt=>FP (λi j=>decide (i<j)) d e
 | .LtE=>FP (λi j=>decide (i<=j)) d e
 | .Gt=>FP (λi j=>decide (j<i)) d e
 | .GtE=>FP (λi j=>decide (j<=i)) d e
 | .In=>(Dh d e).bind λb=>some (Iq b)
 | .NotIn=>(Dh d e).bind λb=>some (Iq !b)
 | .Is=>(sg d e).bind λb=>some (Iq b)
 | .IsNot=>(sg d e).bind λb=>some (Iq !b)
def XG{o:Option Bool}{f:Bool->Bool}{r:R0}(h:(o.bind λb=>some (Iq (f b)))=some r):∃k,r = .im (.bl k):=by
 obtain⟨b,_,h⟩:=bS_ h;cases h;exact⟨_,rfl⟩
def UY(h:FP f x y=some r):∃k,r = .im (.bl k):=by
 obtain⟨i,_,h⟩:=bS_ (show(QW x).bind _=_ from h);obtain⟨j,_,h⟩:=bS_ h;cases h;exact⟨_,rfl⟩
def Ij(op:CmpOp)(x y:D)(r:R0)(h:zy op x y=some r):∃k,r = .im (.bl k):=by
 cases op with
 |Eq=>exact XG (f:=id) h
 |NotEq=>exact XG (f:=not) h
 |Lt=>exact UY h
 |LtE=>exact UY h
 |Gt=>exact UY h
 |GtE=>exact UY h
 |In=>exact XG (f:=id) h
 |NotIn=>exact XG (f:=not) h
 |Is=>exact XG (f:=id) h
 |IsNot=>exact XG (f:=not) h
section
variable{X:Cx}{kd:KD}{pins:List (Addr×Obj)}{σ:St}{H:Hp}{s:Shared}{O:Addr->Prop}
noncomputable def Li(K:zzA)(kd:KD)(O:Addr->Prop)(H:Hp)(n:Nat)(x:D)(u:Value):Bool:=@decide (∃v d,RelV v u/\Rp K kd O H v d/\xk n d x=some true) (Classical.propDecidable _)
def LN(I:Inv X pins σ H s)(hk:KdOk X kd)(r:RelV v u)(p:Rp X.K kd O H v d)(e:xk n d x=some b):Li X.K kd O H n x u=b:=by
 unfold Li;cases b with
 |true=>exact @zyO _ (Classical.propDecidable _) ⟨v,d,r,p,e⟩
 |false=>
  refine @zyG _ (Classical.propDecidable _) λ⟨g,h,a,c,f⟩=>?_;have:=r.inj a;subst this;exact Bool.noConfusion (HW I n _ _ _ _ _ _ p.vw c.vw e f)
def Re(I:Inv X pins σ H s)(hk:KdOk X kd)(hv:z_ vs us)(h:RpL X.K kd O H vs ds)(e:anyF (λy=>xk n y x) ds=some b):us.any (Li X.K kd O H n x)=b:=
 RpL.ind (P:=λvs ds=>∀us b,z_ vs us->anyF (λy=>xk n y x) ds=some b->us.any (Li X.K kd O H n x)=b) (λus b hv e=>by cases e;cases hv;rfl) (λ{v d vs ds} a _ ih us b hv h=>by
  cases hv with
  |cons r t=>
   obtain⟨b1,h1,h⟩:=bS_ (show(xk n _ x).bind _=_ from h);obtain⟨c1,h2,h⟩:=bS_ h;cases h;rw[List.any_cons,LN I hk r a h1,ih _ _ t h2]) h us b hv e
theorem Zx:∀{ds:List D}{b:Bool},anyF f ds=some b->∀d ∈ ds,∃c,f d=some c
 | [],_,_,d,a=>by simp at a
 |x::r,b,h,d,a=>by
  obtain⟨g,i,h⟩:=bS_ (show(f x).bind _=_ from h);obtain⟨k,j,h⟩:=bS_ h
  rcases zzC.mp a with e|e
  . subst e;exact⟨g,i⟩
  . exact Zx j d e
def Vu(I:Inv X pins σ H s)(hk:KdOk X kd)(hu:A.units+n<cLine)(vx:Vw X.K kd O H x d)(rx:RelV x v)(hv:z_ vs us)(h:RpL X.K kd O H vs ds)(k:∀e ∈ ds,∃c,xk n e d=some c):∀u ∈ us,SeqAt.EqAt A s u v (Li X.K kd O H n d u):=
 RpL.ind (P:=λvs ds=>∀us,z_ vs us->(∀e ∈ ds,∃c,xk n e d=some c)->∀u ∈ us,SeqAt.EqAt A s u v (Li X.K kd O H n d u)) (λus hv _ u hu=>by cases hv;simp at hu) (λa q ih us hv h u hm=>by
  cases hv with
  |cons r t=>
   rcases zzC.mp hm with e|e
   . subst e;obtain⟨c,hc⟩:=h _ zzF;rw[LN I hk r a hc];exact(Ld I n A _ _ _ _ _ _ _ hu a.vw vx r rx hc).eq
   . exact ih _ t (λe he=>h e (zzD _ he)) u e) h us hv k
def R_(vx:Vw X.K kd O H x d)(rx:RelV x v)(e:sg d (.bl b)=some c)(h:Q c s):wpAny (model X.prog X.w) A (isSame v (.bool b)) Q E s:=by
 cases vx with
 |non=>cases rx;cases e;exact zxH h
 |bl k=>
  cases rx;have e:some (k==b)=some c:=e;cases e;refine zxH ?_;cases k<;>cases b<;>exact h
 |int=>obtain⟨t,rfl⟩:=rx;cases e;exact zxH h
 |str=>obtain⟨t,rfl⟩:=rx;cases e;exact zxH h
 |tup=>cases rx;cases e;exact zxH h
 |lst=>cases rx;cases e;exact zxH h
 |dct=>cases rx;cases e;exact zxH h
 |cl=>cases rx;cases e;exact zxH h
 |ob=>cases rx;cases e;exact zxH h
 |dt=>cases rx;cases e;exact zxH h
def Kj(hk:KdOk X kd)(hu:X.A.units+100<cLine)(op:CmpOp):J3 X kd (compareOp op) (zy op):=by
 intro pins s σ H x y v u Q I rx ry h;obtain⟨O,d,e,r,ht,vx,vy,he,q⟩:=h;cases op with
 |Eq=>
  obtain⟨b,h1,he⟩:=bS_ (show(xk 60 d e).bind _=_ from he);cases he;exact(Ld I 60 X.A x y d e v u b (by omega) vx vy rx ry h1).rc _ _ _ _ (y_ I (yg q (.bl _)) rfl)
 |NotEq=>
  obtain⟨b,h1,he⟩:=bS_ (show(xk 60 d e).bind _=_ from he);cases he;exact(Ld I 60 X.A x y d e v u b (by omega) vx vy rx ry h1).ne _ _ _ _ (y_ I (yg q (.bl _)) rfl)
 |Lt=>
  obtain⟨i,j,rfl,rfl,he⟩:=Yl vx vy he;cases he;exact uy pins s σ H _ _ v u Q I rx ry ⟨_,_,rfl,rfl,yg q (.bl _)⟩
 |LtE=>
  obtain⟨i,j,rfl,rfl,he⟩:=Yl vx vy he;cases he;exact uW pins s σ H _ _ v u Q I rx ry ⟨_,_,rfl,rfl,yg q (.bl _)⟩
 |Gt=>
  obtain⟨i,j,rfl,rfl,he⟩:=Yl vx vy he;cases he;exact u4 pins s σ H _ _ v u Q I rx ry ⟨_,_,rfl,rfl,yg q (.bl _)⟩
 |GtE=>
  obtain⟨i,j,rfl,rfl,he⟩:=Yl vx vy he;cases he;exact tO pins s σ H _ _ v u Q I rx ry ⟨_,_,rfl,rfl,yg q (.bl _)⟩
 |In=>
  obtain⟨b,h1,he⟩:=bS_ (show(Dh d e).bind _=_ from he);cases he;cases vy with
  |lst hs rl=>
   cases ry;obtain⟨its,rv,p,_⟩:=I.list hs.sq;refine SeqAt.in_listAt (Li X.K kd O H 50 d) p.isList (λw hw=>Vu I hk (by show X.A.units+1+50<cLine;omega) vx rx rv rl (Zx h1) w (by simpa using hw)) ?_;have:=Re I hk rv rl h1;rw[show its.toArray.any (Li X.K kd O H 50 d)=b by rw[<-this];simp];exact y_ (I) (yg q (.bl _)) rfl
  |tup rp hs rl=>
   cases ry;obtain⟨its,rv,p,_⟩:=I.tuple hs;refine SeqAt.in_tupleAt (Li X.K kd O H 50 d) p (λw hw=>Vu I hk (by show X.A.units+1+50<cLine;omega) vx rx rv rl (Zx h1) w (by simpa using hw)) ?_;have:=Re I hk rv rl h1;rw[show its.toArray.any (Li X.K kd O H 50 d)=b by rw[<-this];simp];exact y_ (I) (yg q (.bl _)) rfl
  |str z=>
   cases vx with
   |str i=>cases h1;exact FR pins s σ H _ _ v u Q I rx ry ⟨_,_,rfl,rfl,yg q (.bl _)⟩
   |_=>cases h1
  |dct hs rm=>
   cases ry;obtain⟨k,k1,h1⟩:=bS_ h1;cases h1;obtain⟨z,hd,vs,rel,dd⟩:=GY I hk hs;have ek:x=kV k:=by
    cases vx with
    |int i=>cases k1;rfl
    |str i=>cases k1;rfl
    |_=>cases k1
   subst ek;refine wpAny_in_of (Ve rx) hd dd.mapOf ?_;rw[<-(rel.val k).isSome_eq]
   rcases Kl k rm with⟨v1,d1,e1,e2,_⟩|⟨e1,e2⟩
   . rw[e1];rw[e2]at q;exact y_ (I.tok _) (yg q (.bl _)) rfl
   . rw[e1];rw[e2]at q;exact y_ (I.tok _) (yg q (.bl _)) rfl
  |dt hH l rl=>
   cases ry;obtain⟨k,k1,h1⟩:=bS_ h1;cases h1;obtain⟨b,rfl,hb⟩:=Xw vx k1;refine r6 (by show X.A.units+1<cLine;omega) I (LW.t hH hb) rx λs' I'=>?_
   rcases Rw k rl l with⟨v1,d1,e1,e2,_⟩|⟨e1,e2⟩
   . rw[e1];rw[e2]at q;exact y_ I' (yg q (.bl _)) rfl
   . rw[e1];rw[e2]at q;exact y_ I' (yg q (.bl _)) rfl
  |_=>cases h1
 |NotIn=>
  obtain⟨b,h1,he⟩:=bS_ (show(Dh d e).bind _=_ from he);cases he;cases vy with
  |lst hs rl=>
   cases ry;obtain⟨its,rv,p,_⟩:=I.list hs.sq;refine SeqAt.notIn_listAt (Li X.K kd O H 50 d) p.isList (λw hw=>Vu I hk (by show X.A.units+1+50<cLine;omega) vx rx rv rl (Zx h1) w (by simpa using hw)) ?_;have:=Re I hk rv rl h1;rw[show its.toArray.any (Li X.K kd O H 50 d)=b by rw[<-this];simp];exact y_ (I) (yg q (.bl _)) rfl
  |tup rp hs rl=>
   cases ry;obtain⟨its,rv,p,_⟩:=I.tuple hs;refine SeqAt.notIn_tupleAt (Li X.K kd O H 50 d) p (λw hw=>Vu I hk (by show X.A.units+1+50<cLine;omega) vx rx rv rl (Zx h1) w (by simpa using hw)) ?_;have:=Re I hk rv rl h1;rw[show its.toArray.any (Li X.K kd O H 50 d)=b by rw[<-this];simp];exact y_ (I) (yg q (.bl _)) rfl
  |str z=>
   cases vx with
   |str i=>cases h1;exact Le pins s σ H _ _ v u Q I rx ry ⟨_,_,rfl,rfl,yg q (.bl _)⟩
   |_=>cases h1
  |dct hs rm=>
   cases ry;obtain⟨k,k1,h1⟩:=bS_ h1;cases h1;obtain⟨z,hd,vs,rel,dd⟩:=GY I hk hs;have ek:x=kV k:=by
    cases vx with
    |int i=>cases k1;rfl
    |str i=>cases k1;rfl
    |_=>cases k1
   subst ek;refine wpAny_notIn_of (Ve rx) hd dd.mapOf ?_;rw[<-(rel.val k).isSome_eq]
   rcases Kl k rm with⟨v1,d1,e1,e2,_⟩|⟨e1,e2⟩
   . rw[e1];rw[e2]at q;exact y_ (I.tok _) (yg q (.bl _)) rfl
   . rw[e1];rw[e2]at q;exact y_ (I.tok _) (yg q (.bl _)) rfl
  |dt hH l rl=>
   cases ry;obtain⟨k,k1,h1⟩:=bS_ h1;cases h1;obtain⟨b,rfl,hb⟩:=Xw vx k1;refine ID (by show X.A.units+1<cLine;omega) I (LW.t hH hb) rx λs' I'=>?_
   rcases Rw k rl l with⟨v1,d1,e1,e2,_⟩|⟨e1,e2⟩
   . rw[e1];rw[e2]at q;exact y_ I' (yg q (.bl _)) rfl
   . rw[e1];rw[e2]at q;exact y_ I' (yg q (.bl _)) rfl
  |_=>cases h1
 |Is=>
  obtain⟨b,h1,he⟩:=bS_ (show(sg d e).bind _=_ from he);cases he;cases vy with
  |non=>
   refine Ag pins s σ H _ _ v u Q I rx ry ⟨rfl, ?_⟩;have:decide (x=V.non)=b:=by cases vx<;>(cases h1;rfl)
   rw[this];exact yg q (.bl b)
  |bl c=>
   cases ry;exact zxG (R_ vx rx h1 (zxH (y_ I (yg q (.bl _)) rfl)))
  |_=>cases h1
 |IsNot=>
  obtain⟨b,h1,he⟩:=bS_ (show(sg d e).bind _=_ from he);cases he;cases vy with
  |non=>
   refine CL pins s σ H _ _ v u Q I rx ry ⟨rfl, ?_⟩;have:decide (x=V.non)=b:=by cases vx<;>(cases h1;rfl)
   rw[this];exact yg q (.bl _)
  |bl c=>
   cases ry;exact zxG (R_ vx rx h1 (zxH (y_ I (yg q (.bl _)) rfl)))
  |_=>cases h1
end
def Fi{K:zzA}{kd:KD}{O:Addr->Prop}{H:Hp}{vs:List V}{ds:List D}{i:Int}{d:D}(r:RpL K kd O H vs ds)(h:La ds i=some d):∃v,La vs i=some v/\Rp K kd O H v d:=by
 unfold La at h ⊢;obtain⟨j,a,b⟩:=bS_ h;rw[r.length,a];exact r.get b
noncomputable def BZ(o:Option D):Option R0:=o.bind λd=>some (.im d)
noncomputable def zk(x y:D):Option R0:=match x with
 | .lst xs=>(QW y).bind λi=>BZ (La xs i)
 | .tup xs=>(QW y).bind λi=>BZ (La xs i)
 | .str x=>(QW y).bind λi=>if x.length<=sizeLine then(La x.cps.toList i).bind λc=>some (.im (.str ⟨#[c]⟩))else none
 | .dct kvs=>(H_ y).bind λk=>BZ (Kz kvs k)
 |_=>none
def VB(h:BZ o=some r):∃d,o=some d/\r = .im d:=by
 obtain⟨d,a,b⟩:=bS_ (show o.bind _=_ from h);cases b;exact⟨d,a,rfl⟩
section
variable{X:Cx}{kd:KD}
def Ak{K:zzA}{O:Addr->Prop}{H:Hp}{x:V}{d:D}{k:Key}(vx:Vw K kd O H x d)(e:H_ d=some k):x=kV k:=by
 cases vx with
 |int i=>cases e;rfl
 |str i=>cases e;rfl
 |_=>cases e
def qz(hk:KdOk X kd):rj X kd zk:=by
 intro b f g s σ H x y v u Q I A B h C;obtain⟨O,d,e,r,U,P,D,a,q⟩:=h;cases P with
 |lst m E=>
  obtain⟨i,n,a⟩:=bS_ (show(QW e).bind _=_ from a);obtain⟨rfl,rfl⟩:=Yd D n;obtain⟨d,l,rfl⟩:=VB a;obtain⟨w,p,j⟩:=Fi E l;exact VR b f g s σ H _ _ v u Q I A B ⟨_,_,_,w,rfl,rfl,m.sq,p,yg q j⟩ C
 |tup J m E=>
  obtain⟨i,n,a⟩:=bS_ (show(QW e).bind _=_ from a);obtain⟨rfl,rfl⟩:=Yd D n;obtain⟨d,l,rfl⟩:=VB a;obtain⟨w,p,j⟩:=Fi E l;exact SU b f g s σ H _ _ v u Q I A B ⟨_,_,_,w,rfl,rfl,m,p,yg q j⟩ C
 |str z=>
  obtain⟨i,n,a⟩:=bS_ (show(QW e).bind _=_ from a);obtain⟨rfl,rfl⟩:=Yd D n;obtain⟨R,a⟩:=ite_some' a;obtain⟨c,l,a⟩:=bS_ a;cases a;exact ud b f g s σ H _ _ v u Q I A B ⟨_,_,c,rfl,rfl,R,l,yg q (.str _)⟩ C
 |dct m S=>
  obtain⟨k,l,a⟩:=bS_ (show(H_ e).bind _=_ from a);obtain⟨d,K,rfl⟩:=VB a;cases A;obtain⟨z,V,T,G,L⟩:=GY I hk m;have:=Ak D l;subst this
  rcases Kl k S with⟨M,W,N,t,J⟩|⟨N,t⟩
  . rw[K]at t;cases t;obtain⟨Y,p,j⟩:=Th.some_of (v:=M) (o:=valueAt T k) (by rw[<-N];exact G.val k);exact tail_any L.typeIs PySem.F.slot_dict_getitem.lookup (wpAny_getItem_of (Ve B) L.mapOf p ⟨M,H,I.tok _,j,yg q J⟩) C
  . rw[K]at t;cases t
 |_=>cases a
noncomputable def cutD(xs:List D)(lo hi:Option Int):List D:=(xs.drop (HT.sIx xs.length 0 lo)).take (HT.sIx xs.length xs.length hi-HT.sIx xs.length 0 lo)
def Fo{K:zzA}{O:Addr->Prop}{H:Hp}{vs:List V}{ds:List D}(r:RpL K kd O H vs ds)(lo hi:Option Int):RpL K kd O H (Na vs lo hi) (cutD ds lo hi):=by
 unfold Na cutD;rw[r.length];exact(r.drop _).take _
noncomputable def T6(x:D)(lo hi:Option Int):Option R0:=match x with
 | .lst xs=>some (.fl (cutD xs lo hi))
 | .tup xs=>if HT.sIx xs.length 0 lo=0/\HT.sIx xs.length xs.length hi=xs.length then none else some (.im (.tup (cutD xs lo hi)))
 |_=>none
abbrev OF:=AS->Option (Option Int×AS)
def oN:OF:=λas=>some (none,as)
noncomputable def oS(f:EF):OF:=λas=>(f as).bind λp=>(pE p.1).bind λi=>some (some i,p.2)
noncomputable def Qr(fa:EF)(fl fh:OF)(g:D->Option Int->Option Int->Option R0):EF:=λas=>(fa as).bind λp=>(fl p.2).bind λl=>(fh l.2).bind λh=>(p.1.frz.view h.2).bind λx=>(g x.1 l.1 h.1).bind λr=>(wrap x.2 r).bind λz=>some (z,h.2)
def p9(K:zzA)(kd:KD)(f:OF):TO:=λσ H Q=>∃F B ad as o as',Rel K kd F B [] ad as σ H/\f as=some (o,as')/\
 ∀ad' H',Rel K kd F B [] ad' as' σ H'->Grow (Gw [] ad) H (Gw [] ad') H'->Q o H'
@[irreducible] def AO(X:Cx)(kd:KD)(e:Option Expr)(f:OF):Prop:=PO X e (p9 X.K kd f)
def Ha(h:PO X e t)(k:∀σ H Q,t' σ H Q->t σ H Q):PO X e t':=λa s σ H Q I q=>h a s σ H Q I (k σ H Q q)
def Ck:AO X kd none oN:=by with_unfolding_all exact(Ha Ip λσ H Q h=>by
 obtain⟨F,B,a,as,o,b,R,e,q⟩:=h;cases e;exact q a H R Grow.refl)
def AN{K:zzA}{F B:Addr->Prop}{T:List Addr}{ad:Ad}{σ:St}{H:Hp}{v:V}{st:Bool}{c:Int}(h:xq K kd F B T ad σ H v (.ow (.lf st (.int c)))):T=[]/\v = .int c:=by
 have h:w5 K kd F B (Gw T ad) H v (.lf st (.int c)) T:=h;generalize b:Gw T ad=G at h;cases h with
 |lf a=>cases a;exact⟨rfl,rfl⟩
def IM{a:Expr}{fa:EF}(ha:AE X kd a fa):AO X kd (some a) (oS fa):=by with_unfolding_all exact(Ha (OZ ha) λσ H Q h=>by
 obtain⟨F,B,d,as,o,f,R,e,q⟩:=h;obtain⟨⟨p,g⟩,j,e⟩:=bS_ (show(fa as).bind _=_ from e);obtain⟨i,k,e⟩:=bS_ e;obtain⟨r,rfl⟩:=Dp k;cases e;refine⟨F,B,d,as,_,_,R,j,λv s b l m c n=>?_⟩;obtain⟨rfl,rfl⟩:=AN c;exact⟨i,rfl,q b l m n⟩)
def rQ:uw X (λx lo hi H Q=>∃O d r,(∀a,O a->H a≠none)/\Vw X.K kd O H x d/\T6 d lo hi=some r/\RQ X.K kd O H Q r):=by
 intro b s σ H x v j k e f l Q I m n o p h;obtain⟨O,d,r,t,u,c,q⟩:=h;cases u with
 |lst i g=>cases c;exact CU b s σ H _ v j k e f l Q I m n o p ⟨_,_,rfl,i.sq,Ql q (Fo g e f)⟩
 |tup y i g=>
  have c:(if _ then none else some _:Option R0)=_:=c
  split at c
  . cases c
  . rename_i w;cases c;exact Dg b s σ H _ v j k e f l Q I m n o p ⟨_,_,rfl,i,by rw[g.length];exact w,P2 t q (Fo g e f)⟩
 |_=>cases c
def Ot{a:Expr}{lo hi:Option Expr}{fa:EF}{fl fh:OF}{pos p2:Pos}(ha:AE X kd a fa)(hl:AO X kd lo fl)(hh:AO X kd hi fh):AE X kd (.Subscript a (.Slice lo hi none p2) pos) (Qr fa fl fh T6):=by with_unfolding_all exact(yE (Nu rQ ha hl hh) λσ H Q h=>by
 obtain⟨F,B,O,as,r,s,R,e,q⟩:=h;obtain⟨⟨p,c⟩,t,e⟩:=bS_ (show(fa as).bind _=_ from e);obtain⟨⟨l,b⟩,x,e⟩:=bS_ e;obtain⟨⟨u,y⟩,A,e⟩:=bS_ e;obtain⟨⟨d,P⟩,C,e⟩:=bS_ e;obtain⟨D,E,e⟩:=bS_ e;obtain⟨z,G,e⟩:=bS_ e;cases e;refine wH R t λv f S I g J=>⟨F,B,f,c,l,b,I,x,λi T R2 n=>⟨F,B,i,b,u,_,R2,A,λj U k o=>?_⟩⟩;exact⟨_,d,D,k.tr _,xq.vw k ((g.grow n).grow o) C,E,Za k G λw K L M m N=>q w K j L M m (((J.trans n).trans o).trans N)⟩)
noncomputable def Dx:D->String
 | .non=>"NoneType" | .bl _=>"bool" | .int _=>"int" | .str _=>"str" | .tup _=>"tuple" | .lst _=>"list" | .dct _=>"dict"|_=>""
def Mu:D->Bool
 | .cl _=>false | .ob _ _ _=>false | .dt _ _=>false|_=>true
def G4(t c:String):Bool:=t==c||(t=="bool"&&c=="int")
noncomputable def VN(c:String):Bool:=c=="int"||c=="bool"||c=="str"||c=="list"||c=="tuple"||c=="dict"
def A_(K:zzA)(d:D)(c:String)(h:VN c=true)(ho:Mu d=true):PySem.W.kitOne K (.type (Dx d)) (.type c)=some (G4 (Dx d) c):=by
 have:c="int"\/c="bool"\/c="str"\/c="list"\/c="tuple"\/c="dict":=by
  unfold VN at h;simp only[Bool.or_eq_true,beq_iff_eq]at h
  rcases h with((((h|h)|h)|h)|h)|h<;>simp[h]
 rcases this with rfl|rfl|rfl|rfl|rfl|rfl<;>cases d<;>first|rfl|cases ho
def D4(hk:KdOk X kd){pins:List (Addr×Obj)}{σ:St}{H:Hp}{s:Shared}{O:Addr->Prop}{A:Around}{E:Value->Shared->Prop}{Q:Value->Shared->Prop}{c:String}{x:V}{u:Value}{d:D}(I:Inv X pins σ H s)(rx:RelV x u)(vx:Vw X.K kd O H x d)(hc:VN c=true)(ho:Mu d=true)
 (h:∀tk,Q (.bool (G4 (Dx d) c)) {s with toks:=tk}):wpAny (model X.prog X.w) A (call (.builtin "isinstance") [u,.type c]) Q E s:=by
 have e:=A_ X.K d c hc ho;cases vx with
 |non=>cases rx;exact PySem.W.kia_one PySem.W.kitx_none I.kIn True.intro e (λz=>nomatch z) h
 |bl y=>cases rx;exact PySem.W.kia_one PySem.W.kitx_bool I.kIn True.intro e (λz=>nomatch z) h
 |int i=>obtain⟨t,rfl⟩:=rx;exact PySem.W.kia_one PySem.W.kitx_int I.kIn True.intro e (λz=>nomatch z) h
 |str y=>obtain⟨t,rfl⟩:=rx;exact PySem.W.kia_one PySem.W.kitx_str I.kIn True.intro e (λz=>nomatch z) h
 |lst a j=>
  cases rx;obtain⟨g,k,⟨o,n,b,f,_⟩,_⟩:=I.list a.sq;exact PySem.W.kia_one PySem.W.kitx_list I.kIn ⟨o,b,f⟩ e (λz=>nomatch z) h
 |tup m a j=>
  cases rx;obtain⟨g,k,⟨o,b,f,_⟩,_⟩:=I.tuple a;exact PySem.W.kia_one PySem.W.kitx_tuple I.kIn ⟨o,b,f⟩ e (λz=>nomatch z) h
 |dct a p=>
  cases rx;obtain⟨z,q,r,l,⟨o,v,B,b,f,_⟩⟩:=GY I hk a;exact PySem.W.kia_one PySem.W.kitx_dict I.kIn ⟨o,b,f.1⟩ e (λz=>nomatch z) h
 |cl=>cases ho
 |ob=>cases ho
 |dt=>cases ho
end
noncomputable def wL:List D->Option (List Int)
 | []=>some []
 | .int i::r=>(wL r).bind λs=>some (i::s)
 |_::_=>none
def Dz:List Int->Int
 | []=>0
 |x::r=>r.foldl (λa b=>if a<b then b else a) x
theorem GR:∀(r:List Int) (x:Int),r.foldl (λa b=>if a<b then b else a) x ∈ x::r/\∀a ∈ x::r,a<=r.foldl (λa b=>if a<b then b else a) x
 | [],x=>⟨by simp,by simp⟩
 |y::r,x=>by
  rw[List.foldl_cons];obtain⟨f,c⟩:=GR r (if x<y then y else x);refine⟨?_,λa g=>?_⟩
  . rcases zzC.mp f with e|e
    . rw[e];split<;>simp
    . exact zzD _ (zzD _ e)
  . have d:=c _ zzF
    rcases zzC.mp g with e|e
    . subst e;exact Int.le_trans (by split<;>omega) d
    . rcases zzC.mp e with e|e
      . subst e;exact Int.le_trans (by split<;>omega) d
      . exact c a (zzD _ e)
def IP(h1:M ∈ ns)(h2:∀a ∈ ns,a<=M):Dz ns=M:=by
 cases ns with
 |nil=>simp at h1
 |cons x r=>
  obtain⟨b,c⟩:=GR r x;have d:=c M h1;have e:=h2 _ b;show r.foldl _ x=M;omega
noncomputable def DI(f:D->Option R0)(ds:List D):Option R0:=match ds with
 | [x]=>f x
 |_=>none
def Qk{K:zzA}{kd:KD}{O:Addr->Prop}{H:Hp}{f:D->Option R0}{xs:List V}{ds:List D}{r:R0}(vl:VwL K kd O H xs ds)(h:DI f ds=some r):∃x d,xs=[x]/\Vw K kd O H x d/\f d=some r:=by
 cases vl with
 |nil=>cases h
 |cons a b=>
  cases b with
  |nil=>exact⟨_,_,rfl,a,h⟩
  |cons _ _=>cases h
noncomputable def rU:D->Option R0
 | .lst ds=>some (.im (.int ds.length))
 | .tup ds=>some (.im (.int ds.length))
 | .str x=>if x.length<=sizeLine then some (.im (.int x.length))else none
 | .dct kvs=>some (.im (.int kvs.length))
 | .dt _ ds=>some (.im (.int ds.length))
 |_=>none
def vm:List D->Option R0:=DI rU
noncomputable def qm:D->Option R0
 | .int i=>some (.im (.int i))
 | .bl b=>some (.im (.int (if b then 1 else 0)))
 |_=>none
noncomputable def tupP:List D->Option R0
 | [.lst ds]=>some (.im (.tup ds))
 | [.tup ds]=>some (.im (.tup ds))
 |_=>none
noncomputable def rY:D->Option R0
 | .lst ds=>some (.fl ds)
 | .tup ds=>some (.fl ds)
 |_=>none
def lstP:List D->Option R0:=DI rY
noncomputable def uc(ds:List D):Option R0:=match ds with
 | [x,y]=>Jz (λi j=>some (.im (.int (if j > i then j else i)))) x y
 | [x]=>(ER x).bind λds=>(wL ds).bind λns=>if 0<ns.length then some (.im (.int (Dz ns)))else none
 |_=>none
def U7{K:zzA}{kd:KD}{O:Addr->Prop}{H:Hp}{xs:List V}{d:D}(h:VwL K kd O H xs [d]):∃x,xs=[x]/\Vw K kd O H x d:=by
 cases h with
 |cons a b=>cases b;exact⟨_,rfl,a⟩
def Il{K:zzA}{kd:KD}{O:Addr->Prop}{H:Hp}{xs:List V}{d e:D}(h:VwL K kd O H xs [d,e]):∃x y,xs=[x,y]/\Vw K kd O H x d/\Vw K kd O H y e:=by
 cases h with
 |cons a b=>
  cases b with
  |cons b c=>cases c;exact⟨_,_,rfl,a,b⟩
def S5{K:zzA}{kd:KD}{O:Addr->Prop}{H:Hp}{vs:List V}{ds:List D}{ns:List Int}(h:RpL K kd O H vs ds)(e:wL ds=some ns):vs=ns.map V.int:=
 RpL.ind (P:=λvs ds=>∀ns,wL ds=some ns->vs=ns.map V.int) (λns e=>by cases e;rfl) (λ{v d vs ds} a _ ih ns e=>by
  cases d with
  |int i=>
   obtain⟨s,h1,h2⟩:=bS_ (show(wL _).bind _=_ from e);cases h2;cases a;rw[ih _ h1];rfl
  |_=>cases e) h ns e
section
variable{X:Cx}{kd:KD}
def JR(I:Inv X pins σ H s)(hH:H a=some (.dT kvs))(q:∀t s',Inv X pins σ H s'->Q (.int kvs.length t) s'):wpAny (model X.prog X.w) A (call (.builtin "len") [.ref a]) Q E s:=by
 obtain⟨h,i,j,e,f⟩:=Fe I.hok hH;have g:=f.typeIs;obtain⟨o,k,p,l,_,b,n,_,_⟩:=f;have sz:k.size=kvs.length:=by rw[show kvs.length=j.length from Paired.length e,<-zyT,n,zzB]
 have c:MeetsIn X.prog X.w (Builtin.«dict.__len__» ⟨[.ref a],[]⟩) (λ_ R d=>d=s/\R (.ok (.ret (.int kvs.length s.toks))) {s with toks:=s.toks+1}):=.of_wp λr R d z=>by
  obtain⟨rfl,z⟩:=z;show wpAny _ _ (dictSize a >>= _) _ _ d;unfold dictSize;exact zxG (zxG (wpAny_dictEntries l b (zxH (show wpAny _ _ (Builtin.Dict.pendingCount a >>= _) _ _ d from zxG (wpAny_pendingCount_other i (wpAny_ret_mkInt (by rw[Nat.add_zero,sz];exact z)))))))
 refine Calls.call_function_entry kind_len plain_len entry_len (args_len1 _) ?_;unfold Builtin.«len»;exact zxG (m:=oneArg "len" _) (zxH (zxG (m:=callSpecial? (.ref a) (Str.ofString "__len__")) (wpAny_callSpecial?_slot (name:=Str.ofString "__len__") g PySem.F.slot_dict_len (call_meetsIn PySem.F.slot_dict_len g PySem.F.entry_dict_len (PySem.F.args_dict_len_1 _) c ⟨rfl,show wpAny _ _ _ _ _ {s with toks:=s.toks+1}from zxG (zxM (zxH (zxG (wpAny_letGo (show wpAny _ _ (if((kvs.length:Nat):Int)<0 then _ else _) _ _ _ from by
  rw[if_neg (by omega)];show wpAny _ _ (if((kvs.length:Nat):Int) ≥ 2 ^ 63 then _ else _) _ _ _;rw[if_neg (by rw[sizeLine_eq]at h;omega)];exact zxG (wpAny_mkInt (zxH ⟨_,rfl,q _ _ ((I.tok _).tok _)⟩)))))))⟩))))
def BG(hk:KdOk X kd):YJ X kd (.builtin "len") vm:=by
 intro a s σ H A i Q I r h;obtain⟨O,B,z,C,k,b,q⟩:=h;obtain⟨x,d,rfl,m,b⟩:=Qk k b;cases m with
 |lst e f=>cases b;exact Z6 a s σ H _ i Q I r ⟨_,_,rfl,.inl e.sq,by rw[f.length];exact yg q (.int _)⟩
 |tup D e f=>cases b;exact Z6 a s σ H _ i Q I r ⟨_,_,rfl,.inr e,by rw[f.length];exact yg q (.int _)⟩
 |str y=>
  obtain⟨c,rfl⟩:=zM b;exact Kd a s σ H _ i Q I r ⟨_,rfl,c,yg q (.int _)⟩
 |dct e n=>
  cases b;obtain⟨u,rfl,j⟩:=vals1 r;cases j;obtain⟨z,o,E,g,p⟩:=GY I hk e;refine call_len_dict o p (by rw[<-g.length];rw[sizeLine_eq]at z;omega) ?_;rw[<-g.length,n.length];exact⟨.int _,H,I.tok _,⟨_,rfl⟩,yg q (.int _)⟩
 |dt v l f=>
  cases b;obtain⟨u,rfl,j⟩:=vals1 r;cases j;refine JR I v λt F w=>⟨.int _,H,w,⟨_,rfl⟩, ?_⟩;rw[List.length_zip,l,Nat.min_self,f.length];exact yg q (.int _)
 |_=>cases b
def BX:YJ X kd (.type "tuple") tupP:=by
 intro a s σ H k e Q I r h;obtain⟨O,l,z,i,f,b,q⟩:=h;unfold tupP at b
 split at b
 . cases b;obtain⟨x,rfl,c⟩:=U7 f;cases c with
   |lst d g=>exact X9 a s σ H _ e Q I r ⟨_,_,rfl,.inl ⟨d.sq,P2 i q g⟩⟩
 . cases b;obtain⟨x,rfl,c⟩:=U7 f;cases c with
   |tup j d g=>exact X9 a s σ H _ e Q I r ⟨_,_,rfl,.inr ⟨d,yg q j⟩⟩
 . cases b
def QD:YJ X kd (.type "list") lstP:=by
 intro a s σ H j f Q I r h;obtain⟨O,k,z,l,g,b,q⟩:=h;obtain⟨x,d,rfl,i,b⟩:=Qk g b;cases i with
 |lst c e=>cases b;exact V4 a s σ H _ f Q I r ⟨_,_,rfl,.inl c.sq,Ql q e⟩
 |tup m c e=>cases b;exact V4 a s σ H _ f Q I r ⟨_,_,rfl,.inr c,Ql q e⟩
 |_=>cases b
def Bm(hc:X.calm=true):YJ X kd (.builtin "max") uc:=by
 intro g s σ H U E Q I r h;obtain⟨O,F,z,V,k,b,q⟩:=h;cases k with
 |nil=>cases b
 |cons o k=>
  cases k with
  |nil=>
   obtain⟨F,G,b⟩:=bS_ (show(ER _).bind _=_ from b);cases WH G;obtain⟨w,J,b⟩:=bS_ b;obtain⟨c,rfl⟩:=zM b;cases o with
   |lst K L=>
    obtain⟨u,rfl,M⟩:=vals1 r;cases M;obtain⟨N,x,p,_⟩:=I.list K.sq;rw[S5 L J]at x;have y:=intsAre_of x;obtain⟨d,e⟩:=y.allInts.items;have f:w=d.toList.map (·.1):=by rw[<-y.numsOf,<-nums_intItems,<-e]
    have m:0<d.size:=by
     have A:=c;rw[f,zzB,zyT]at A;exact A
    have B:=p.isList;rw[e]at B;refine max_intList (I.ok.hd hc) B m λv W Y P R=>?_;obtain⟨t,rfl⟩:=intItems_at P;obtain⟨Z,S⟩:=argBest_gt (numAt d) (d.size-1);refine⟨.int (Dz w),H,I.kept R,⟨t, ?_⟩,yg q (.int _)⟩
    congr 1
    refine(IP ?_ λa C=>?_).symm
    . rw[f,numAt_eq];have l:argBest (λi j=>decide (numAt d i > numAt d j)) (d.size-1)<(d.toList.map (·.1)).length:=by rw[zzB,zyT];omega
      rw[zyF,zzE l];exact zxA l
    . rw[f]at C;obtain⟨j,D,rfl⟩:=List.getElem_of_mem C;have n:=D;rw[zzB,zyT]at D;have:=S j (by omega);rw[numAt_eq d j,zyF,zzE n]at this;exact this
  |cons T k=>
   cases k with
   |nil=>
    obtain⟨i,j,rfl,rfl,b⟩:=Yl o T b;cases b;exact Ba hc g s σ H _ E Q I r ⟨_,_,rfl,yg q (.int _)⟩
   |cons _ _=>cases b
end
noncomputable def xN(env:Env):List (Str×NameKind)->List (Str×Addr)->List (Str×Addr)
 | [],cs=>cs
 |(n,k)::r,cs=>xN env r (if k == .free then((n,(env.cells.lookup n).getD 0)::cs)else cs)
def Ws(h:∀x ∈ scope.names,x.2 = .free->∃c,env.cells.lookup x.1=some c):closureFor scope env=pure (xN env scope.names []):=by
 have s:∀(b:List (Str×NameKind)) (i:List (Str×Addr)) (f:Str×NameKind->List (Str×Addr)->Sem (ForInStep (List (Str×Addr)))),
  (∀d g i,f (d,g) i=if g == .free then(do let a <-cellOf env d;pure (.yield ((d,a)::i)))else pure (.yield i))->
  (∀x ∈ b,x.2 = .free->∃c,env.cells.lookup x.1=some c)->(forIn b i f:Sem (List (Str×Addr)))=pure (xN env b i):=by
  intro b
  induction b with
  |nil=>intro i f _ _;rfl
  |cons x r p=>
   intro i f l m;obtain⟨n,k⟩:=x;rw[List.forIn_cons,l];unfold xN
   by_cases j:(k == .free)=true
   . obtain⟨c,q⟩:=m (n,k) zzF (by simpa using j);rw[if_pos j,if_pos j];have e:cellOf env n=pure c:=by unfold cellOf;rw[q]
     rw[e,q];exact p _ f l λy o=>m y (zzD _ o)
   . rw[if_neg j,if_neg j];exact p _ f l λy o=>m y (zzD _ o)
 simp only[closureFor];rw[s scope.names [] _ (λd g i=>?_) h]
 . rfl
 . rfl
theorem Gi:∀(names:List (Str×NameKind)) (cs:List (Str×Addr)) (p:Str×Addr),p ∈ xN env names cs->p ∈ cs\/((p.1,NameKind.free) ∈ names/\p.2=(env.cells.lookup p.1).getD 0)
 | [],_,_,h=>.inl h
 |(n,k)::r,b,p,h=>by
  unfold xN at h
  rcases Gi r _ p h with h|h
  . by_cases a:(k == .free)=true
    . rw[if_pos a]at h
      rcases zzC.mp h with e|h
      . subst e;have:k = .free:=by simpa using a
        subst this;exact .inr ⟨zzF,rfl⟩
      . exact .inl h
    . rw[if_neg a]at h;exact .inl h
  . exact .inr ⟨zzD _ h.1,h.2⟩
theorem Pa:∀(names:List (Str×NameKind)) (cs:List (Str×Addr)) (p:Str×Addr),p ∈ cs->p ∈ xN env names cs
 | [],_,_,h=>h
 |(n,k)::r,a,p,h=>by
  unfold xN;refine Pa r _ p ?_
  split
  . exact zzD _ h
  . exact h
theorem GX:∀(names:List (Str×NameKind)) (cs:List (Str×Addr)) (x:Str),(x,NameKind.free) ∈ names->(x,(env.cells.lookup x).getD 0) ∈ xN env names cs
 |(n,k)::r,a,x,h=>by
  unfold xN
  rcases zzC.mp h with e|h
  . cases e;exact Pa r _ _ (by simp)
  . exact GX r _ x h
theorem Zv:∀{l:List (Str×α)},(∀p ∈ l,p.1=x->p.2=a)->(∃b,(x,b) ∈ l)->l.lookup x=some a
 | [],_,h=>by obtain⟨_,h⟩:=h;cases h
 |(k,v)::r,u,h=>by
  rw[List.lookup_cons];cases hb:x==k with
  |true=>
   have:=u (k,v) zzF (beq_iff_eq.mp hb).symm;exact congrArg some this
  |false=>
   refine Zv (λp c=>u p (zzD _ c)) ?_;obtain⟨b,h⟩:=h
   rcases zzC.mp h with e|h
   . cases e;simp at hb
   . exact⟨b,h⟩
theorem Qq:∀(names:List (Str×NameKind)) (h:Heap) (acc:List (Str×Addr)) (p:Str×Addr),p ∈ cellsFrom h.objs.size names acc->
 p ∈ acc\/((p.1,NameKind.cell) ∈ names/\(pushCells h names).IsCell p.2 none/\h.objs.size<=p.2)
 | [],_,_,_,m=>.inl m
 |(n,k)::r,h,b,p,m=>by
  unfold cellsFrom at m;unfold pushCells
  split at m
  . rename_i a;rw[if_pos a];have e:(h.push {cls:=.type "cell",data:=.cell none}).objs.size=h.objs.size+1:=zxN ..;rw[<-e]at m
    rcases Qq r _ _ p m with m|⟨c,d,f⟩
    . rcases zzC.mp m with g|m
      . subst g;have:k = .cell:=by simpa using a
        subst this;refine .inr ⟨zzF, ?_,zzN _⟩;have z:(h.push {cls:=.type "cell",data:=.cell none}).IsCell h.objs.size none:=⟨_,zxK _ rfl,rfl⟩;exact z.keeps (pushCells_keeps r _)
      . exact .inl m
    . exact .inr ⟨zzD _ c,d,by rw[e]at f;omega⟩
  . rename_i a;rw[if_neg a]
    rcases Qq r h b p m with m|⟨c,d,f⟩
    . exact .inl m
    . exact .inr ⟨zzD _ c,d,f⟩
theorem Yb:∀(names:List (Str×NameKind)) (n:Nat) (acc:List (Str×Addr)) (p:Str×Addr),p ∈ acc->p ∈ cellsFrom n names acc
 | [],_,_,_,m=>m
 |(_,k)::r,n,a,p,m=>by
  unfold cellsFrom
  split
  . exact Yb r _ _ p (zzD _ m)
  . exact Yb r _ _ p m
theorem Qw:∀(names:List (Str×NameKind)) (n:Nat) (acc:List (Str×Addr)) (x:Str),(x,NameKind.cell) ∈ names->∃c,(x,c) ∈ cellsFrom n names acc
 |(y,k)::r,n,a,x,m=>by
  unfold cellsFrom
  rcases zzC.mp m with e|m
  . cases e;rw[if_pos (by decide)];exact⟨n,Yb r _ _ _ zzF⟩
  . split
    . exact Qw r _ _ x m
    . exact Qw r _ _ x m
theorem Qy:∀(names:List (Str×NameKind)) (n:Nat) (acc:List (Str×Addr)),(∀p ∈ acc,p.2<n)->(∀p ∈ acc,∀q ∈ acc,p.2=q.2->p.1=q.1)->∀p ∈ cellsFrom n names acc,∀q ∈ cellsFrom n names acc,p.2=q.2->p.1=q.1
 | [],_,_,_,h=>h
 |(y,k)::r,n,c,b,h=>by
  unfold cellsFrom
  split
  . refine Qy r (n+1) _ (λp m=>?_) (λp m q a e=>?_)
    . rcases zzC.mp m with z|m
      . subst z;exact Nat.lt_succ_self _
      . exact zxB (b p m)
    . rcases zzC.mp m with z|m
      . rcases zzC.mp a with d|a
        . rw[z,d]
        . subst z;have:=b q a;rw[<-e]at this;exact absurd this (Nat.lt_irrefl _)
      . rcases zzC.mp a with d|a
        . subst d;have:=b p m;rw[e]at this;exact absurd this (Nat.lt_irrefl _)
        . exact h p m q a e
  . exact Qy r n c b h
section
variable{M:Model}{A:Around}{E:Value->Shared->Prop}{s:Shared}
noncomputable def Y0(scope:Scope)(env:Env)(cl:List (Str×Addr))(L:Addr):Env:=
 {scope:=relabel scope env,locals:=L,globals:=env.globals,cells:=cellsFrom (L+1) scope.names cl,qual:=env.qual,func:=none,code:=env.code,frame:=env.frame,builtins:=env.builtins}
def LL
 (h:∀h' env',{env' with scope:=relabel scope env}=Y0 scope env cl s.heap.objs.size->env'.locals=s.heap.objs.size->(∀b o,s.heap.get? b=some o->h'.get? b=some o)->h'.Ns s.heap.objs.size (λ_=>none)->
  (∀p ∈ cellsFrom (s.heap.objs.size+1) scope.names cl,p ∈ cl\/((p.1,NameKind.cell) ∈ scope.names/\h'.IsCell p.2 none/\s.heap.objs.size+1<=p.2))->Q env' {s with heap:=h'}):
 wpAny M A (newFunctionEnv scope env.globals cl [] env.qual none .none (some env)) Q E s:=by
 simp only[newFunctionEnv,Option.isSome_some,if_true];refine zxG (wpAny_alloc ?_);refine zxG (wpAny_layCells _ (λd a c=>by cases hkc:a==NameKind.cell<;>simp[hkc]) _ _ _ _ ?_);have e:(s.heap.push {cls:=.type "dict",data:=.dict #[]}).objs.size=s.heap.objs.size+1:=zxN ..;refine zxG (zxH (zxH (h _ _ ?_ rfl (λb o q=>pushCells_keeps _ _ b o (zxI _ q)) ((Heap.Ns.new s.heap (.type "dict")).keeps (pushCells_keeps _ _)) λp m=>?_)))
 . unfold Y0;rw[<-e]
 . rw[<-e]at m
   rcases Qq _ _ _ p m with m|⟨g,i,f⟩
   . exact .inl m
   . exact .inr ⟨g,i,by rw[e]at f;exact f⟩
end
abbrev yT(X:Cx)(N:List Str)(scope:Scope)(cl:List (Str×Addr))(s:Shared)(H:Hp)(fp:List Addr):Cx:=
 {X with N:=N,s₀:=s,H₀:=H,env:=Y0 scope X.env cl (s.heap.objs.size+1),outer:=X.stack,ex:=fp,fn:=λx=>scope.names.lookup x==some .cell,pn:=[],xe:=λ_ _=>False}
noncomputable def sE(σ:St):Option Nat->Option V
 |none=>none
 |some j=>(σ[j]?).getD none
def wD(cap:List (Option Nat))(σ:St):St:=cap.map (sE σ)
noncomputable def Wr(N XN:List Str)(names:List (Str×NameKind))(envNames:List (Str×NameKind))(cap:List (Option Nat)):Bool:=
 N.length==cap.length&&(N.zip cap).all (λp=>match p.2 with|none=>true|some j=>XN[j]? == some p.1&&names.contains (p.1,NameKind.free)) &&
 names.all (λp=>p.2 != .free||envNames.lookup p.1==some .cell||envNames.lookup p.1==some .free)&&decide (names.map (·.1)).Nodup
def B5(X:Cx)(ifs:List Expr)(t:TT):Prop:=
 ∀(pins:List (Addr×Obj)) (s:Shared) (σ:St) (H:Hp) (Q:Bool->Hp->Prop),Inv X pins σ H s->t σ H Q->
  wpAny (model X.prog X.w) X.A (forIn ifs true λc r=>if r=true then do let ok <-isTrue c X.env (eval c X.env);pure (ForInStep.yield ok)else pure (ForInStep.yield r)) (TP X pins σ Q) X.xe s
def Cf:B5 X [] (λ_ H Q=>Q true H):=λa s σ H Q I h=>wpAny_tests_nil ⟨H,I,h⟩
def IJ(h:PT X c t):B5 X [c] t:=λa s σ H Q I q=>wpAny_tests_one (h a s σ H Q I q)
def SJ(wi:TI)(cap:List (Option Nat))(g:TG)(tt:TT)(te:TE):TE:=λσ H Q=>wi σ H λJ H1=>∃W:Nat->Nat->List V->Hp->Prop,(∃m,W 0 m [] H1)/\∀i m ys H,W i m ys H->ys.length<=sizeLine/\
 ((J.stop i H/\∀p,H p=none->Q (.ref p) (upd H p (.lst ys)))\/(J.go i H/\∀x H',J.yld i H x H'->g x (wD cap σ) H' λσ2 H2=>(∀(j:Nat) v,(wD cap σ)[j]? = some (some v)->σ2[j]? = some (some v))/\
   tt σ2 H2 λb H3=>if b=true then ys.length<sizeLine/\te σ2 H3 λy H4=>∃m',m'<m/\W (i+1) m' (ys++[y]) H4 else ∃m',m'<m/\W (i+1) m' ys H3))
section
variable{prog:Program}{w:World}{A:Around}{E:Value->Shared->Prop}{R:Result->Shared->Prop}{s:Shared}
def Kv(I:Nat->Shared->Prop)
 (turn:∀n s (E:Value->Shared->Prop),I n s->wpAny (model prog w) A (pyNext it) (λr s₁=>match r with
  |none=>R (.ok .next) s₁
  |some v=>wpAny (model prog w) A (letOwnedTupleGo target it v) (λ_ s₁=>wpAny (model prog w) A (assign target env v) (λ_ s₂=>
   wpAny (model prog w) A (forIn ifs true λc r=>if r=true then do let ok <-isTrue c env (eval c env);pure (ForInStep.yield ok)else pure (ForInStep.yield r)) (λok s₃=>
            if ok=true then wpAny (model prog w) A (eval elt env) (λx s₄=>
             wpAny (model prog w) A (call (.builtin "list.append") [acc,x]) (λ_ s₅=>∃m,m<n/\I m s₅) E s₄) E s₃
            else ∃m,m<n/\I m s₃) E s₂) E s₁) E s₁) E s)
 (n:Nat) (h:I n s):
 codeAny (model prog w) A (.compLoop (.ListComp elt [⟨target,iter,ifs,0⟩] scope pos) 0 it acc env) R s:=by
 refine codeAny_loop rfl I (λn s e=>?_) n h;show wpAny _ A ((compTurn (.ListComp elt [⟨target,iter,ifs,0⟩] scope pos) 0 it acc env).onRaise (λx=>do noteFrame x env;theTreesLotGoes x)) _ _ s;refine wpAny_noted ?_;rw[compTurn_list];refine zxG (wpAny_standAt (zxG (zxP (turn n s _ e) (λr f b=>?_) λ_ _ a=>a)));cases r with
 |none=>exact zxH b
 |some v=>
  refine zxG (zxP b (λ_ f b=>?_) λ_ _ a=>a);refine zxG (zxP b (λ_ k g=>zxG (zxP g (λok l d=>?_) λ_ _ a=>a)) λ_ _ a=>a);cases ok with
  |false=>exact zxH ⟨rfl,d⟩
  |true=>
   exact zxG (zxG (zxP d (λx o i=>zxG (zxP i (λ_ p j=>zxH (zxH ⟨rfl,j⟩)) λ_ _ a=>a)) λ_ _ a=>a))
end
structure CapOk(N XN:List Str)(names:List (Str×NameKind))(envNames:List (Str×NameKind))(cap:List (Option Nat)):Prop where
 len:N.length=cap.length
 at_:∀(i:Nat) x (j:Nat),N[i]? = some x->cap[i]? = some (some j)->XN[j]? = some x/\(x,NameKind.free) ∈ names
 fr:∀p ∈ names,p.2 = .free->envNames.lookup p.1=some .cell\/envNames.lookup p.1=some .free
 nd:(names.map (·.1)).Nodup
def Nq(h:Wr N XN names envNames cap=true):CapOk N XN names envNames cap:=by
 unfold Wr at h;simp only[zyC,beq_iff_eq,List.all_eq_true,decide_eq_true_eq]at h;obtain⟨⟨⟨a,b⟩,c⟩,d⟩:=h;refine⟨a,λi x j f g=>?_,λp k e=>?_,d⟩
 . have m:(x,some j) ∈ N.zip cap:=zyA (i:=i) (by rw[List.getElem?_zip_eq_some];exact⟨f,g⟩);have:=b _ m;simp only[zyC,beq_iff_eq]at this;exact⟨this.1,by simpa using this.2⟩
 . have:=c p k;rw[e]at this;simpa using this
def KZ{names:List (Str×NameKind)}(h:(names.map (·.1)).Nodup){x:Str}{k k':NameKind}(m:(x,k) ∈ names)(m':(x,k') ∈ names):k=k':=by
 induction names with
 |nil=>cases m
 |cons p r ih=>
  obtain⟨h1,h2⟩:=zzW.mp (show(p.1::r.map (·.1)).Nodup from h)
  rcases zzC.mp m with e|m
  . rcases zzC.mp m' with e'|m'
    . rw[<-e]at e';cases e';rfl
    . exact absurd (zxE.mpr ⟨_,m',by rw[<-e]⟩) h1
  . rcases zzC.mp m' with e'|m'
    . exact absurd (zxE.mpr ⟨_,m,by rw[<-e']⟩) h1
    . exact ih h2 m m'
def Qv{names:List (Str×NameKind)}(h:(names.map (·.1)).Nodup){x:Str}{k:NameKind}(m:(x,k) ∈ names):names.lookup x=some k:=
 Zv (λp a e=>by obtain⟨y,b⟩:=p;cases(show y=x from e);exact KZ h a m) ⟨k,m⟩
def Xq(x:Str):(relabel scope env).names.lookup x=(scope.names.lookup x).map λk=>if(k == .free&&env.scope.kind == .function&&env.kindOf x==some .cell)=true then NameKind.cell else k:=by
 unfold relabel;show(scope.names.map _).lookup x=_;generalize scope.names=a
 induction a with
 |nil=>rfl
 |cons p r b=>
  obtain⟨n,k⟩:=p;rw[zyS,List.lookup_cons (k:=n) (as:=r)];cases hb:x==n with
  |true=>
   have e:x=n:=beq_iff_eq.mp hb;subst e;show List.lookup x ((if(k==NameKind.free&&env.scope.kind == .function&&env.kindOf x==some .cell)=true then(x,NameKind.cell)else(x,k))::_)=_;show _=some (if(k==NameKind.free&&env.scope.kind == .function&&env.kindOf x==some .cell)=true then NameKind.cell else k)
   split
   . rw[List.lookup_cons,hb]
   . rw[List.lookup_cons,hb]
  |false=>
   show List.lookup x ((if(k==NameKind.free&&env.scope.kind == .function&&env.kindOf n==some .cell)=true then(n,NameKind.cell)else(n,k))::_)=_
   split
   . rw[List.lookup_cons,hb];exact b
   . rw[List.lookup_cons,hb];exact b
def Ms{X:Cx}{pins:List (Addr×Obj)}{σ:St}{H:Hp}{s:Shared}{N:List Str}{scope:Scope}{cap:List (Option Nat)}{fp:List Addr}{h':Heap}(I:Inv X pins σ H s)(C:CapOk N X.N scope.names X.env.scope.names cap)(hk:scope.kind = .function)
 (hf:∀b ∈ fp,UL X pins H b) (ho:∀b ∈ fp,∃o,s.heap.get? b=some o)
 (old:∀b o,s.heap.get? b=some o->h'.get? b=some o) (ns:h'.Ns (s.heap.objs.size+1) (λ_=>none))
 (hc:∀p ∈ cellsFrom (s.heap.objs.size+1+1) scope.names (xN X.env scope.names []),p ∈ xN X.env scope.names []\/((p.1,NameKind.cell) ∈ scope.names/\h'.IsCell p.2 none/\s.heap.objs.size+1+1<=p.2)):
 Inv (yT X N scope (xN X.env scope.names []) s H fp) [] (wD cap σ) H {s with heap:=h'}:=by
 have has:∀x,(x,NameKind.free) ∈ scope.names->∃c,X.env.cells.lookup x=some c:=λx m=>I.ok.has x (C.fr _ m rfl);have clo:∀p ∈ xN X.env scope.names [],X.env.cells.lookup p.1=some p.2/\(p.1,NameKind.free) ∈ scope.names:=λp m=>by
  rcases Gi _ _ p m with z|⟨z1,z2⟩
  . cases z
  . obtain⟨c,e⟩:=has _ z1;rw[e]at z2;exact⟨by rw[e];exact congrArg some z2.symm,z1⟩
 have look:∀x c,(cellsFrom (s.heap.objs.size+1+1) scope.names (xN X.env scope.names [])).lookup x=some c->(X.env.cells.lookup x=some c/\(x,NameKind.free) ∈ scope.names)\/((x,NameKind.cell) ∈ scope.names/\h'.IsCell c none/\s.heap.objs.size+1+1<=c):=λx c e=>by
  rcases hc _ (mem_of_lookup e)with m|m
  . exact .inl (clo _ m)
  . exact .inr m
 have lt:∀x c,X.env.cells.lookup x=some c->c<s.heap.objs.size:=λx c e=>by obtain⟨v,z⟩:=I.cell x c e;exact z.lt
 have lookF:∀x,(x,NameKind.free) ∈ scope.names->∃c,(cellsFrom (s.heap.objs.size+1+1) scope.names (xN X.env scope.names [])).lookup x=some c/\X.env.cells.lookup x=some c:=λx m=>by
  obtain⟨c,e⟩:=has x m;have m1:=Yb scope.names (s.heap.objs.size+1+1) _ _ (GX (env:=X.env) scope.names [] x m);refine⟨c,Zv (λp hp ep=>?_) ⟨_,m1⟩,e⟩
  rcases hc p hp with z|z
  . have:=(clo p z).1;rw[ep,e]at this;exact(zzZ this).symm
  . rw[ep]at z;exact absurd (KZ C.nd z.1 m) (by decide)
 have kinds:∀x,((relabel scope X.env).names.lookup x=some .cell\/(relabel scope X.env).names.lookup x=some .free)->(x,NameKind.free) ∈ scope.names\/(x,NameKind.cell) ∈ scope.names:=λx h=>by
  rw[Xq]at h;cases e:scope.names.lookup x with
  |none=>rw[e]at h;rcases h with h|h<;>cases h
  |some k=>
   have m:=mem_of_lookup e;cases k with
   |free=>exact .inl m
   |cell=>exact .inr m
   |_=>rw[e]at h;rcases h with h|h<;>(simp at h)
 have lsz:s.heap.objs.size+1<h'.objs.size:=ns.lt;refine⟨⟨I.ok.mod,hk,I.ok.glob,I.ok.blt,zyX _, ?_, ?_, ?_,I.ok.hd,I.ok.frames,.inl rfl, ?_,I.bs,zzO I.ok.bsz I.sz, ?_, ?_,I.stack,I.stkFree⟩,rfl,I.bare,(Un.kept old),⟨_,ns, ?_⟩, ?_,I.hok.fresh (zyX _), ?_,(λ_ z=>nomatch z),I.hok.kept old, ?_⟩
 . intro x y c e1 e2;refine Qy scope.names (s.heap.objs.size+1+1) _ (λp m=>?_) (λp m q m' e=>?_) (x,c) (mem_of_lookup e1) (y,c) (mem_of_lookup e2) rfl
   . exact zxB (zxB (lt _ _ (clo p m).1))
   . refine I.ok.inj _ _ _ (clo p m).1 ?_;rw[e];exact(clo q m').1
 . intro x h
   rcases kinds x h with m|m
   . obtain⟨c,e,_⟩:=lookF x m;exact⟨c,e⟩
   . obtain⟨c,e⟩:=Qw scope.names (s.heap.objs.size+1+1) (xN X.env scope.names []) x m;cases q:(cellsFrom (s.heap.objs.size+1+1) scope.names (xN X.env scope.names [])).lookup x with
     |some c'=>exact⟨c',q⟩
     |none=>
      exfalso;have:=List.lookup_eq_none_iff.mp q (x,c) e;simp at this
 . intro x c hx e;have hx:(scope.names.lookup x==some .cell)=true:=hx;have m:=mem_of_lookup (beq_iff_eq.mp hx)
   rcases look x c e with z|z
   . exact absurd (KZ C.nd z.2 m) (by decide)
   . exact zzO (zzO (zyX _) (zyX _)) z.2.2
 . intro b hb;obtain⟨o,e⟩:=ho b hb;refine⟨zzQ (zxB (zxJ e)),λx c ec=>?_⟩
   rcases look x c ec with z|z
   . exact(hf b hb).2.2.2.2.1 x c z.1
   . have:=zxJ e;intro q;subst q;exact absurd (zzK this (zzO (zzO (zyX _) (zyX _)) z.2.2)) (Nat.lt_irrefl _)
 . intro b o e hb
   rcases(hf b hb).2.2.2.1 with z|z
   . exact I.ok.noex b o e z
   . exact absurd (zzK (zxJ e) (zzO I.ok.bsz z)) (Nat.lt_irrefl _)
 . intro b hb hm
   rcases zzC.mp (I.stkSub b hm)with z|z
   . exact(hf b hb).2.1 z
   . exact(hf b hb).2.2.1 z
 . intro i x v e1 e2 e3;have e2:(wD cap σ)[i]? = some (some v):=e2;unfold wD at e2;rw[zzI]at e2;cases ec:cap[i]? with
   |none=>rw[ec]at e2;cases e2
   |some c=>
    cases c with
    |none=>rw[ec]at e2;cases e2
    |some j=>
     rw[ec]at e2;have e2:(σ[j]?).getD none=some v:=zzZ e2;obtain⟨xn,m⟩:=C.at_ i x j e1 ec;have es:σ[j]? = some (some v):=by
      cases q:σ[j]? with
      |none=>rw[q]at e2;cases e2
      |some y=>rw[q]at e2;exact congrArg some e2
     have kf:=C.fr _ m rfl;obtain⟨mm,hn,hl⟩:=I.loc;obtain⟨u,r,l⟩:=hl j x v xn es (by rcases kf with k|k;exact .inr (.inl k);exact .inr (.inr k));refine⟨u,r,.inr ⟨?_, ?_⟩⟩
     . show(relabel scope X.env).names.lookup x=some .cell\/(relabel scope X.env).names.lookup x=some .free;rw[Xq,Qv C.nd m];show some (if _ then _ else _)=_\/some (if _ then _ else _)=_
       split
       . exact .inl rfl
       . exact .inr rfl
     . obtain⟨c,ec,eo⟩:=lookF x m;refine⟨c,ec, ?_⟩
       rcases l with⟨k1,_⟩|⟨_,c2,e4,z⟩
       . have k1:X.env.scope.names.lookup x=some .local:=k1
         rcases kf with k|k<;>(rw[k1]at k;cases k)
       . rw[eo]at e4;cases e4;exact z.keeps old
 . intro x c e
   rcases look x c e with z|z
   . obtain⟨v,q⟩:=I.cell x c z.1;exact⟨v,q.keeps old⟩
   . exact⟨none,z.2.1⟩
 . intro x c e
   rcases look x c e with z|z
   . exact I.freeC x c z.1
   . exact I.hok.fresh (zzO (zzO (zyX _) (zyX _)) z.2.2)
 . show(wD cap σ).length=N.length;unfold wD;rw[zzB,C.len]
abbrev lobj(its:List Value):Obj:={cls:=.type "list",data:=.seq its.toArray its.length}
section
variable{X:Cx}{pins:List (Addr×Obj)}{σ:St}{H2:Hp}{s2:Shared}{elt tg iter:Expr}{ifs:List Expr}{scope:Scope}{pos:Pos}{N:List Str}{cap:List (Option Nat)}{g:TG}{tt:TT}{te:TE}{wi:TI}
set_option maxHeartbeats 1000000
def P3{J:It}{it:Addr}{fp:List Addr}{tn:Nat->Heap->Prop}{Q:VK}{R:Value->Addr->Result->Shared->Prop}{E:Value->Shared->Prop}
 (hc:X.calm=true) (C:CapOk N X.N scope.names X.env.scope.names cap) (hk:scope.kind = .function)
 (hg:∀cl s H fp,PG (yT X N scope cl s H fp) tg g) (ht:∀cl s H fp,B5 (yT X N scope cl s H fp) ifs tt) (he:∀cl s H fp,PE (yT X N scope cl s H fp) elt te)
 (I2:Inv X pins σ H2 s2) (T:Turn X.prog X.w X.K tg J fp it tn) (st2:tn 0 s2.heap) (f2:∀b ∈ fp,UL X pins H2 b)
 (W:Nat->Nat->List V->Hp->Prop) (m0:Nat) (w0:W 0 m0 [] H2)
 (turn:∀i m ys H,W i m ys H->ys.length<=sizeLine/\((J.stop i H/\∀p,H p=none->Q (.ref p) (upd H p (.lst ys)))\/(J.go i H/\∀x H',J.yld i H x H'->g x (wD cap σ) H' λσ2 H2=>(∀(j:Nat) v,(wD cap σ)[j]? = some (some v)->σ2[j]? = some (some v))/\
  tt σ2 H2 λb H3=>if b=true then ys.length<sizeLine/\te σ2 H3 λy H4=>∃m',m'<m/\W (i+1) m' (ys++[y]) H4 else ∃m',m'<m/\W (i+1) m' ys H3)))
 (fin:∀ys H3 s1 m,Inv X pins σ (upd H3 s2.heap.objs.size (.lst ys)) s1->s1.heap.Ns (s2.heap.objs.size+1) m->UL X pins (upd H3 s2.heap.objs.size (.lst ys)) (s2.heap.objs.size+1)->
  Q (.ref s2.heap.objs.size) (upd H3 s2.heap.objs.size (.lst ys))->R (.ref s2.heap.objs.size) (s2.heap.objs.size+1) (.ok .next) s1):
 wpAny (model X.prog X.w) X.A (newList []) (λacc s₃=>wpAny (model X.prog X.w) X.A (newFunctionEnv scope X.env.globals (xN X.env scope.names []) [] X.env.qual none .none (some X.env)) (λcenv s₄=>
  codeAny (model X.prog X.w) X.A (.compStart (.ListComp elt [⟨tg,iter,ifs,0⟩] scope pos) 0 (.ref it) acc {cenv with scope:=relabel scope X.env}) (R acc cenv.locals) s₄) E s₃) E s2:=by
 refine zxL (LL λh' env' eE eL old hns hcells=>?_);have e1:(s2.heap.push {cls:=.type "list",dict:=none,data:=.seq ([]:List Value).toArray}).objs.size=s2.heap.objs.size+1:=zxN ..;dsimp only at eE eL old hns hcells;rw[e1]at eE eL hns hcells;have hD0:(s2.heap.push {cls:=.type "list",dict:=none,data:=.seq ([]:List Value).toArray}).get? s2.heap.objs.size=some (lobj []):=zxK _ rfl;have hD:h'.get? s2.heap.objs.size=some (lobj []):=old _ _ hD0;have old':∀b o,s2.heap.get? b=some o->h'.get? b=some o:=λb o q=>old b o (zxI _ q);have fex:∀b ∈ fp,∃o,s2.heap.get? b=some o:=λb hb=>by obtain⟨o,e,_⟩:=T.obj _ _ st2 b hb;exact⟨o,e⟩
 have flt:∀b ∈ fp,b<s2.heap.objs.size:=λb hb=>by obtain⟨o,e⟩:=fex b hb;exact zxJ e
 have I':=Ms I2 C hk f2 fex old' hns hcells;rw[eE,eL];generalize hX:yT X N scope (xN X.env scope.names []) s2 H2 fp=X' at I';have xP:X'.prog=X.prog:=by rw[<-hX]
 have xw:X'.w=X.w:=by rw[<-hX]
 have xK:X'.K=X.K:=by rw[<-hX]
 have xA:X'.A=X.A:=by rw[<-hX]
 have xe:X'.env=Y0 scope X.env (xN X.env scope.names []) (s2.heap.objs.size+1):=by rw[<-hX]
 have xL:X'.env.locals=s2.heap.objs.size+1:=by rw[xe];rfl
 have xfs:X'.fs=B3 X.stack:=by rw[<-hX]
 have xex:X'.ex=fp:=by rw[<-hX]
 have xs:X'.s₀=s2:=by rw[<-hX]
 have xH:X'.H₀=H2:=by rw[<-hX]
 have xpn:X'.pn=[]:=by rw[<-hX]
 have xc:X'.calm=true:=by rw[<-hX];exact hc
 have xE:X'.xe=λ_ _=>False:=by rw[<-hX]
 have hg':PG X' tg g:=by rw[<-hX];exact hg _ _ _ _
 have ht':B5 X' ifs tt:=by rw[<-hX];exact ht _ _ _ _
 have he':PE X' elt te:=by rw[<-hX];exact he _ _ _ _
 have H2D:H2 s2.heap.objs.size=none:=I2.hok.fresh (zzN _);have Dfs:s2.heap.objs.size ∉ X'.fs:=by
  rw[xfs];intro hm
  rcases zzC.mp (I2.stkSub _ hm)with z|z
  . exact absurd I2.lt (by rw[<-z];exact Nat.lt_irrefl _)
  . exact I2.nofs (zzN _) z
 have DL:s2.heap.objs.size≠X'.env.locals:=by rw[xL];exact zzQ (Nat.lt_succ_self _)
 have pinD:∀{σ':St}{H':Hp}{s':Shared}{its:List Value}{ps:List (Addr×Obj)},Inv X' ps σ' H' s'->s'.heap.get? s2.heap.objs.size=some (lobj its)->H' s2.heap.objs.size=none->Inv X' [(s2.heap.objs.size,lobj its)] σ' H' s':=λI e n=>
  I.pins_of λp hp=>by
   cases zzR.mp hp;exact⟨e,n,DL,Dfs,λv z=>by cases z⟩
 have stat:∀{H':Hp}{its:List Value},(∀b ∈ fp,H' b=none)->∀b ∈ fp,UL X' [(s2.heap.objs.size,lobj its)] H' b:=λhn b hb=>by
  refine⟨hn b hb, ?_, ?_,.inl (by rw[xex];exact hb),(I'.ok.exf b (by rw[xex];exact hb)).2,λp hp=>?_⟩
  . exact(I'.ok.exf b (by rw[xex];exact hb)).1
  . exact I'.ok.exfs b (by rw[xex];exact hb)
  . rw[xpn,List.nil_append]at hp;cases zzR.mp hp;exact Nat.ne_of_gt (flt b hb)
 have loop:∀(n:Nat) (s':Shared),(∃i ys its H3,Inv X' [(s2.heap.objs.size,lobj its)] (wD cap σ) H3 s'/\tn i s'.heap/\(∀b ∈ fp,H3 b=none)/\z_ ys its/\W i n ys H3)->
  codeAny (model X.prog X.w) X.A (.compLoop (.ListComp elt [⟨tg,iter,ifs,0⟩] scope pos) 0 (.ref it) (.ref s2.heap.objs.size) (Y0 scope X.env (xN X.env scope.names []) (s2.heap.objs.size+1)))
   (R (.ref s2.heap.objs.size) (s2.heap.objs.size+1)) s':=by
  intro n s' h0;refine Kv (λn s'=>∃i ys its H3,Inv X' [(s2.heap.objs.size,lobj its)] (wD cap σ) H3 s'/\tn i s'.heap/\(∀b ∈ fp,H3 b=none)/\z_ ys its/\W i n ys H3) ?_ n h0;clear h0 n s'
  rintro n s3 E' ⟨i,ys,its,H3,I3,st3,fr3,rv3,w3⟩
  obtain⟨hz,hstep⟩:=turn i n ys H3 w3
  rcases hstep with⟨stop,qn⟩|⟨go,step⟩
  . have:=T.done X' xP xw xK xc i _ s3 _ H3 E' I3 (stat fr3) st3 stop;rw[xA]at this;refine zxP this (λr s4 ⟨hr,I4⟩=>?_) λ_ _ z=>z;subst hr;obtain⟨gD,nD,_⟩:=I4.pin (s2.heap.objs.size,lobj its) (by rw[xpn];simp);obtain⟨m,hn,_⟩:=I4.loc;rw[xL]at hn;have b4:=I4.base;rw[xfs,xex,xH,xs]at b4;have nL:H3 (s2.heap.objs.size+1)=none:=by have:=I4.free;rw[xL]at this;exact this
    have neD:∀b o,s2.heap.get? b=some o->b≠s2.heap.objs.size:=λb o e=>zzQ (zxJ e);have neH:∀b u,H2 b=some u->b≠s2.heap.objs.size:=λb u e z=>by rw[z,H2D]at e;cases e
    have ne3:∀b u,H3 b=some u->b≠s2.heap.objs.size:=λb u e z=>by rw[z,nD]at e;cases e
    have hok4:=I4.hok;rw[xP,xw]at hok4;refine fin ys H3 s4 m (I2.call' (ch:=fp) ?_ ⟨b4.keep,b4.slot,λb o e n hx=>?_,b4.there,λb xs e=>?_,λb o u e=>?_,λb ps e=>?_⟩ ?_ I4.bare λb hb=>?_) hn (I2.fpOk (zyX _) (by rw[zK (Nat.ne_of_gt (Nat.lt_succ_self _))];exact nL)) (qn _ nD)
    . have:=I4.os;rw[xs]at this;exact this
    . rw[zK (neD b o e)];exact b4.free b o e n hx
    . rw[zK (neH b _ e)];exact b4.tups b xs e
    . rw[zK (neH b _ e)];exact b4.frzs b o u e
    . rw[zK (neH b _ e)];exact b4.tbls b ps e
    . intro b u e
      by_cases hb:b=s2.heap.objs.size
      . subst hb;rw[yd]at e;cases e;exact⟨hz,its,its.length,rv3,gD⟩
      . rw[zK hb]at e;exact(hok4 b u e).stay (λc v _ q=>q) (λc q=>by rw[zK (ne3 c _ q)];exact q) λc xs q=>by rw[zK (ne3 c _ q)];exact q
    . obtain⟨f0,f1,f3,f4,f5,f6⟩:=f2 b hb;exact⟨f4,f1,f5,f6⟩
  . have:=T.item X' xP xw xK xc i _ s3 _ H3 E' I3 (stat fr3) st3 go;rw[xA]at this;refine zxP this (λr s4 ⟨u,hr,h4⟩=>?_) λ_ _ z=>z;subst hr;refine zxP h4 (λ_ s5 ⟨x,H5,I5,r5,y5,st5,fr5⟩=>?_) λ_ _ z=>z;have I5':=I5.pinned (stat fr5) (T.obj _ _ st5);have h6:=hg' _ s5 _ H5 x u _ I5' r5 (step x H5 y5);rw[xP,xw,xA,xe,xE]at h6;refine zxP h6 (λ_ s6 ⟨σ6,H6,I6,cap6,q6⟩=>?_) λ_ _ z=>z.elim;have h7:=ht' _ s6 σ6 H6 _ I6 q6;rw[xP,xw,xA,xe,xE]at h7;refine zxP h7 (λb s7 ⟨H7,I7,q7⟩=>?_) λ_ _ z=>z.elim;have keep:∀{H8:Hp}{s8:Shared},Inv X' ([(s2.heap.objs.size,lobj its)]++Ri fp s5.heap) σ6 H8 s8->Inv X' [(s2.heap.objs.size,lobj its)] (wD cap σ) H8 s8/\tn (i+1) s8.heap/\∀b ∈ fp,H8 b=none:=λ{H8 s8} I8=>by
     refine⟨I8.unpinned.weak ?_ cap6,T.keep _ _ _ st5 λb hb o e=>(I8.pin (b,o) (zzL _ (zzL _ (ZU hb e)))).1,λb hb=>?_⟩
     . rw[I3.len];exact I8.len.symm
     . obtain⟨o,e,d⟩:=T.obj _ _ st5 b hb;exact(I8.pin (b,o) (zzL _ (zzL _ (ZU hb e)))).2.1
    cases b with
    |false=>
     obtain⟨m',hm,w7⟩:=q7;obtain⟨k1,k2,k3⟩:=keep I7;exact⟨m',hm,i+1,ys,its,H7,k1,k2,k3,rv3,w7⟩
    |true=>
     obtain⟨hz2,q7⟩:=q7;have h8:=he' _ s7 σ6 H7 _ I7 q7;rw[xP,xw,xA,xe,xE]at h8;show wpAny _ _ _ _ _ _;refine zxP h8 (λyv s8 ⟨y,H8,I8,ry,m',hm,w8⟩=>?_) λ_ _ z=>z.elim;obtain⟨k1,k2,k3⟩:=keep I8;obtain⟨gD,nD,_⟩:=k1.pin (s2.heap.objs.size,lobj its) (by rw[xpn];simp);have hl:=rv3.length;refine append_at gD (λh9 sb gD9=>?_) (by rw[zzH];omega);have I9:Inv X' [] (wD cap σ) H8 {s8 with heap:=h9}:=(k1.pins_of (pins':=[]) (λ_ z=>nomatch z)).turned (t':=s8.toks) (it:=s2.heap.objs.size) (λb o hb e=>(sb.2 b hb).trans e) nD DL (.inr (by rw[xs];exact zzN _)) (λx c ec z=>by
      obtain⟨v,o,ho,hd⟩:=k1.cell x c ec;rw[z,gD]at ho;cases ho;cases hd) (λp hp=>by rw[xpn]at hp;cases hp)
     have gD9':h9.get? s2.heap.objs.size=some (lobj (its++[yv])):=by
      rw[gD9]
      congr 1
      show({cls:=.type "list",data:=.seq (its.toArray.push yv) (its.length+1)}:Obj)={cls:=.type "list",data:=.seq (its++[yv]).toArray (its++[yv]).length};rw[zzJ,List.length_singleton,List.push_toArray]
     refine⟨m',hm,i+1,ys++[y],its++[yv],H8,pinD I9 gD9' nD,T.keep _ _ _ k2 λb hb o e=>(sb.2 b (zzQ (flt b hb))).trans e,k3,rv3.append (.cons ry .nil),w8⟩
 have start:∃i ys its H3,Inv X' [(s2.heap.objs.size,lobj its)] (wD cap σ) H3 {s2 with heap:=h'}/\tn i h'/\(∀b ∈ fp,H3 b=none)/\z_ ys its/\W i m0 ys H3:=
  ⟨0,[],[],H2,pinD I' hD H2D,T.keep _ _ _ st2 λb hb o e=>old' b o e,λb hb=>(f2 b hb).1,.nil,w0⟩
 exact codeAny_compStart_list (loop m0 _ start) (T.self _ 0 _ _ _ (T.keep _ _ _ st2 λb hb o e=>old' b o e) (loop m0 _ start))
def O7(hc:X.calm=true)(hi:PI X tg iter wi)(hk:scope.kind = .function)(hcap:Wr N X.N scope.names X.env.scope.names cap=true)
 (hg:∀cl s H fp,PG (yT X N scope cl s H fp) tg g) (ht:∀cl s H fp,B5 (yT X N scope cl s H fp) ifs tt) (he:∀cl s H fp,PE (yT X N scope cl s H fp) elt te)
 (hs:∀x,foldedSetIterable iter X.env x=pure x):PE X (.ListComp elt [⟨tg,iter,ifs,0⟩] scope pos) (SJ wi cap g tt te):=by
 intro a s σ H Q I h;have C:=Nq hcap;rw[eval_ListComp];refine wpAny_comprehension_free (use:=none) rfl hs (Ws λx m e=>I.ok.has x.1 (C.fr x m e)) hk (λy m e=>Qv C.nd (by rw[<-e];exact m)) ?_;refine thn (hi a s σ H _ I h) λv O i=>thn i λj k l=>?_;obtain⟨P,S,U,J,V,e,n,T,d,f2,W,⟨p,t⟩,c⟩:=l;subst e;refine P3 (R:=λf C r u=>compPost (model X.prog X.w) X.A X.xe none (EP X a σ Q) f C r u) hc C hk hg ht he n T d f2 W p t c λY Z z m B D fl q=>?_;refine⟨m,D,λh' E=>?_⟩;obtain⟨F,f1,f3,G,K,L⟩:=fl;exact⟨.ref k.heap.objs.size,_,B.turned (t':=z.toks) (λb o M e=>(E.2 b M).trans e) F f1 G K L,rfl,q⟩
def Ii(hN:X.N.Nodup)(hiy:X.N[i]? = some y)(hy:Loc X.env.scope y)(hf:X.fn y=true\/X.env.scope.names.lookup y=some .local)
 (hsw:swapsWith (.ListComp elt [⟨tg,iter,ifs,0⟩] scope pos) (some (.Name y py)) spos.line X.env=pure true)
 (hc:X.calm=true) (hi:PI X tg iter wi) (hk:scope.kind = .function) (hcap:Wr N X.N scope.names X.env.scope.names cap=true)
 (hg:∀cl s H fp,PG (yT X N scope cl s H fp) tg g) (ht:∀cl s H fp,B5 (yT X N scope cl s H fp) ifs tt) (he:∀cl s H fp,PE (yT X N scope cl s H fp) elt te)
 (hs:∀x,foldedSetIterable iter X.env x=pure x):PS X (.Assign [.Name y py] (.ListComp elt [⟨tg,iter,ifs,0⟩] scope pos) spos) (DE (SJ wi cap g tt te) (Nm i)):=by
 intro c s σ H D I h;have C:=Nq hcap;rw[exec_Assign_Name_used _ _ _ _ hsw];refine zxG (wpAny_standAt (zxG ?_));show wpAny _ X.A (do let _ <-comprehension (.ListComp elt [⟨tg,iter,ifs,0⟩] scope pos) scope X.env _ (newList []) false (eval iter X.env) (some (assign (.Name y py) X.env))) _ _ s;refine zxG (zxP (wpAny_comprehension_free (use:=some (assign (.Name y py) X.env)) (Q:=λ_ d=>SP X c D .next d) rfl hs (Ws λx m e=>I.ok.has x.1 (C.fr x m e)) hk (λy m e=>Qv C.nd (by rw[<-e];exact m)) ?_) (λ_ d t=>zxH (zxH t)) λ_ _ e=>e);refine thn (hi c s σ H _ I h) λv s1 u=>thn u λB E F=>?_;obtain⟨it,fp,tn,J,H2,e,G,T,k,f2,W,⟨K,L⟩,f⟩:=F;subst e;refine P3 (Q:=λx M=>Nm i x σ M D.nx) (R:=λl C r d=>compPost (model X.prog X.w) X.A X.xe (some (assign (.Name y py) X.env)) (λ_ d=>SP X c D .next d) l C r d) hc C hk hg ht he G T k f2 W K L f λys H3 s3 m O P fl q=>?_;obtain⟨S,f1,f3,U,p,V⟩:=fl;refine wpAny_assign_Name (GI O hN hiy hy (v:=.ref E.heap.objs.size) rfl (λY Z ⟨a,sb,j⟩=>?_) hf);refine⟨m,P.sameBut sb (λz=>?_),λh' n=>?_⟩
 . rcases j with j|j
   . exact f1 (z.trans j)
   . exact p y a j z.symm
 . exact⟨_,_,Z.turned (t':=Y.toks) (λb o hb e=>(n.2 b hb).trans e) S f1 U p V,q⟩
end
structure ItC(K:zzA)(kd:KD)(F:Addr->Prop)(H:Hp)(J:It)(ds:List wx):Prop where
 all:∀(H2:Hp) (T:Addr->Prop),(∀b u,H b=some u->H2 b=some u)->(∀a,T a->H a=none/\H2 a≠none)->∀i,(i<ds.length->J.go i H2)/\(ds.length<=i->J.stop i H2)/\
  ∀v H3,J.yld i H2 v H3->(∀b o,H2 b=some o->H3 b=some o)/\∀x,ds[i]? = some x->Rp K kd (λa=>x.1=true/\(F a\/T a)) H3 v x.2
def q5(K:zzA)(kd:KD)(f:IF):TI:=λσ H R=>∃F B ad as ds as',Rel K kd F B [] ad as σ H/\f as=some (ds,as')/\
 ∀J ad' H',Rel K kd F B [] ad' as' σ H'->Grow (Gw [] ad) H (Gw [] ad') H'->ItC K kd (Lv F B (Gw [] ad') true) H' J ds->R J H'
@[irreducible] def O6(X:Cx)(kd:KD)(tg iter:Expr)(f:IF):Prop:=PI X tg iter (q5 X.K kd f)
def QB(os:List O):List wx:=os.map λo=>match o with | .lf st d=>(st,d)|o=>(false,o.toD)
noncomputable def rT(as:AS):RV->Option (List wx)
 | .ow o=>L5 (o.str,o.toD)
 | .bo i=>match as[i]? with
  |some (some (.nd .ls os))=>some (QB os)
  |some (some (.nd .tp os))=>some (QB os)
  |_=>none
noncomputable def yw(f:EF):IF:=λas=>(f as).bind λp=>(rT p.2 p.1).bind λds=>some (ds,p.2)
section
variable{K:zzA}{kd:KD}{F B:Addr->Prop}{G:Addr->Prop}{T:List Addr}{ad:Ad}{as:AS}{σ:St}{H H':Hp}
inductive RpC(K:zzA)(kd:KD)(F:Addr->Prop)(H:Hp):List V->List wx->Prop
 |nil:RpC K kd F H [] []
 |cons {v:V}{x:wx}{vs:List V}{ds:List wx}:Rp K kd (λa=>x.1=true/\F a) H v x.2->RpC K kd F H vs ds->RpC K kd F H (v::vs) (x::ds)
theorem RpC.length(h:RpC K kd F H vs ds):vs.length=ds.length:=by
 induction h with
 |nil=>rfl
 |cons _ _ a=>exact congrArg (· + 1) a
def RpC.get{vs:List V}{ds:List wx}{i:Nat}{x:wx}(h:RpC K kd F H vs ds)(e:ds[i]? = some x):∃v,vs[i]? = some v/\Rp K kd (λa=>x.1=true/\F a) H v x.2:=by
 induction h generalizing i with
 |nil=>simp at e
 |cons h r b=>
  cases i with
  |zero=>simp at e;subst e;exact⟨_,rfl,h⟩
  |succ i=>
   obtain⟨v,c,d⟩:=b (i:=i) (by simpa using e);exact⟨v,by simpa using c,d⟩
def Rp.since{Ob:Addr->Prop}{v:V}{d:D}{T:Addr->Prop}(k:∀b u,H b=some u->H' b=some u)(hT:∀a,T a->H a=none)(h:Rp K kd Ob H v d):Rp K kd (WU Ob T) H' v d:=
 Rp.grow (F:=Ob) (W:=λ_=>False) (W':=T) (H':=H') ⟨λb u q _=>k b u q,λb z=>.inr (hT b z)⟩ (h.less λa z=>z.elim id False.elim)
def Tq{st:Bool}{vs:List V}{ds:List D}(h:RpL K kd (Lv F B G st) H vs ds):RpC K kd (Lv F B G true) H vs (kids st ds):=
 RpL.ind (P:=λb c=>RpC K kd (Lv F B G true) H b (kids st c)) .nil (λ{v d b c} h _ f=>by
  refine .cons (x:=(zN d||st,d)) ?_ f;cases e:zN d with
  |true=>exact h.flat e
  |false=>
   refine h.less λa z=>?_;have g:st=true:=z.1;rw[g];exact z.2) h
def Jd{vs:List V}{os:List O}{fp:List Addr}(h:x9 K kd F B G H vs os fp):RpC K kd (Lv F B G true) H vs (QB os):=
 RoL.ind (P:=λc d _=>RpC K kd (Lv F B G true) H c (QB d)) .nil (λ{v o c d i j} h _ f=>by
  have b:=G9 h;refine .cons ?_ f;cases h with
  |lf g=>exact g.less λa z=>(by have e:=z.1;dsimp only at e;rw[e];exact z.2)
  |ls=>exact b.less λa z=>nomatch z.1
  |dc=>exact b.less λa z=>nomatch z.1
  |ob=>exact b.less λa z=>nomatch z.1
  |dt=>exact b.less λa z=>nomatch z.1
  |tp=>exact b.less λa z=>nomatch z.1) h
def Ph{a:Addr}{vs:List V}{ds:List wx}(h:Z5 K H a vs)(r:RpC K kd F H vs ds):ItC K kd F H (rg K a) ds:=⟨λf T k g i=>by
 have b:Z5 K f a vs:=by
  rcases h with(h|⟨o,h⟩)|h
  . exact .inl (.inl (k _ _ h))
  . exact .inl (.inr ⟨o,k _ _ h⟩)
  . exact .inr h
 refine⟨λc=>?_,λc=>⟨_,b,by rw[r.length];exact c⟩,λv p j=>?_⟩
 . obtain⟨u,e,_⟩:=r.get (zzE c);exact⟨_,u,b,e⟩
 . obtain⟨rfl,l⟩:=j;refine⟨λ_ _ z=>z,λd m=>?_⟩;obtain⟨u,e,n⟩:=r.get m;have:=l _ b;rw[e]at this;cases this;exact(n.since k λa z=>(g a z).1).less λa z=>z.2.elim (λy=>.inl ⟨z.1,y⟩) .inr⟩
def E1{a:Addr}{vs:List V}{ds:List wx}(h:VQ K H a vs)(r:RpC K kd F H vs ds):ItC K kd F H (s_ K a) ds:=⟨λf T k g i=>by
 have b:VQ K f a vs:=by
  rcases h with(h|⟨o,h⟩)|h
  . exact .inl (.inl (k _ _ h))
  . exact .inl (.inr ⟨o,k _ _ h⟩)
  . exact .inr h
 refine⟨λc=>?_,λc=>⟨_,b,by rw[r.length];exact c⟩,λv p j=>?_⟩
 . obtain⟨u,e,_⟩:=r.get (zzE c);exact⟨_,u,b,e⟩
 . obtain⟨rfl,l⟩:=j;refine⟨λ_ _ z=>z,λd m=>?_⟩;obtain⟨u,e,n⟩:=r.get m;have:=l _ b;rw[e]at this;cases this;exact(n.since k λa z=>(g a z).1).less λa z=>z.2.elim (λy=>.inl ⟨z.1,y⟩) .inr⟩
def CK(lo:Int)(n:Nat):ItC K kd F H (tZ lo n) (y6 lo n):=⟨λf T k g i=>by
 have c:(y6 lo n).length=n:=by unfold y6;simp
 refine⟨λa=>by rw[c]at a;exact a,λa=>by rw[c]at a;exact a,λv h e=>?_⟩;obtain⟨rfl,rfl⟩:=e;refine⟨λ_ _ z=>z,λd b=>?_⟩;have a:i<n:=by rw[<-c];exact(zzG.mp b).1
 unfold y6 at b;rw[zzI,List.getElem?_range a]at b;cases b;exact .int _⟩
end
def K3(he:AE X kd e fa):O6 X kd tg e (yw fa):=by
 with_unfolding_all (
 intro pins s σ H R I h;obtain⟨F,B,ad,as,ds,as',Rl,e,q⟩:=h;obtain⟨⟨p,as1⟩,h1,e⟩:=bS_ (show(fa as).bind _=_ from e);obtain⟨ys,h2,e⟩:=bS_ e;cases e;cases p with
 |ow o=>
  have h2:L5 (o.str,o.toD)=some ds:=h2;generalize hd:o.toD=d at h2;cases d with
  |lst xs=>
   cases h2;refine KP he pins s σ H R I ⟨F,B,ad,as,_,as1,Rl,h1,λv T1 ad1 H1 R1 rv1 g1=>?_⟩;have rp:=Eu R1 rv1;rw[hd]at rp;cases rp with
   |lst hn hr rl=>exact⟨_,rfl,⟨_,.inl hr⟩,q _ ad1 H1 R1.drop (g1.trans (Grow.less Gw.drop)) (Ph (.inl hr) (Tq rl))⟩
   |lstK a b c rl=>exact⟨_,rfl,⟨_,.inr ⟨_,_,_,a,rfl,rfl,rfl,b,c⟩⟩,q _ ad1 H1 R1.drop (g1.trans (Grow.less Gw.drop)) (Ph (.inr ⟨_,_,_,a,rfl,rfl,rfl,b,c⟩) (Tq rl))⟩
  |tup xs=>
   cases h2;refine M8 he pins s σ H R I ⟨F,B,ad,as,_,as1,Rl,h1,λv T1 ad1 H1 R1 rv1 g1=>?_⟩;have rp:=Eu R1 rv1;rw[hd]at rp;have go:∃a ys,v = .ref a/\VQ X.K H1 a ys/\RpL X.K kd (Lv F B (Gw [] ad1) o.str) H1 ys xs:=by
    cases rp with
    |tup n h r=>exact⟨_,_,rfl,.inl (.inl h),r⟩
   obtain⟨a,ys,rfl,hs,rl⟩:=go;exact⟨_,rfl,⟨_,hs⟩,q _ ad1 H1 R1.drop (g1.trans (Grow.less Gw.drop)) (E1 hs (Tq rl))⟩
  |_=>cases h2
 |bo i=>
  have h2:(match as1[i]? with|some (some (.nd .ls os))=>some (QB os)|some (some (.nd .tp os))=>some (QB os)|_=>none)=some ds:=h2;cases k:as1[i]? with
  |none=>rw[k]at h2;cases h2
  |some s0=>
   rw[k]at h2
   match s0,h2,k with
   |some (.nd .ls os),h2,k=>
    cases h2;refine KP he pins s σ H R I ⟨F,B,ad,as,_,as1,Rl,h1,λv T1 ad1 H1 R1 rv1 g1=>?_⟩;obtain⟨rfl,hs⟩:=rv1;obtain⟨w,hw,ro⟩:=R1.sl i _ k;rw[hs]at hw;cases hw;generalize hfp:ad1 i=fp at ro;cases ro with
    |ls hH rl=>exact⟨_,rfl,⟨_,.inl (.inl hH)⟩,q _ ad1 H1 R1 g1 (Ph (.inl (.inl hH)) (Jd rl))⟩
   |some (.nd .tp os),h2,k=>
    cases h2;refine M8 he pins s σ H R I ⟨F,B,ad,as,_,as1,Rl,h1,λv T1 ad1 H1 R1 rv1 g1=>?_⟩;obtain⟨rfl,hs⟩:=rv1;obtain⟨w,hw,ro⟩:=R1.sl i _ k;rw[hs]at hw;cases hw;generalize hfp:ad1 i=fp at ro;cases ro with
    |tp n hH rl=>exact⟨_,rfl,⟨_,.inl (.inl hH)⟩,q _ ad1 H1 R1 g1 (E1 (.inl (.inl hH)) (Jd rl))⟩)
def BK(hg:Gl X "range")(hm:X.mg "range"=none)(ha:AA X kd [a] fr)(hs:starEach [a] X.env=[(false,eval a X.env)]):O6 X kd tg (.Call (.Name "range" p) [a] [] pos) (ya fr yb):=by
 with_unfolding_all (
 intro b s σ H R I h;obtain⟨F,B,k,as,A,l,m,e,q⟩:=h;obtain⟨⟨n,o⟩,r,e⟩:=bS_ (show(fr as).bind _=_ from e);obtain⟨⟨C,D⟩,t,e⟩:=bS_ e;obtain⟨E,c,e⟩:=bS_ e;cases e;obtain⟨j,rfl,c⟩:=FB c
 . obtain⟨g,u⟩:=zM c;cases u;refine Gr hg hm ha hs b s σ H R I ⟨F,B,k,as,n,_,m,r,λG d v i f w=>?_⟩;have x:=XA i f t;cases x with
   |cons y z=>
    cases z;cases y;exact⟨j,rfl,g.1,g.2,q _ d v i w (CK 0 _)⟩)
noncomputable def qC(as:AS):Option Nat->Option O
 |none=>none
 |some j=>match as[j]? with
  |some (some (.lf st d))=>some (.lf st d)
  |some (some o)=>some (.lf false o.toD)
  |_=>none
def wk(cap:List (Option Nat))(as:AS):AS:=cap.map (qC as)
noncomputable def yR(g:GF)(tt:TF)(fe:EF)(as0:AS):List wx->Option (List O)
 | []=>some []
 |x::r=>(g x as0).bind λas1=>(tt as1).bind λb=>if b.1=true then(fe b.2).bind λp=>(OO p.2 p.1).bind λq=>if q.1.str=true then(yR g tt fe as0 r).bind λos=>some (q.1::os)else none
  else yR g tt fe as0 r
noncomputable def zq(fi:IF)(cap:List (Option Nat))(g:GF)(tt:TF)(fe:EF):EF:=λas=>(fi as).bind λp=>if p.1.length<=sizeLine then(yR g tt fe (wk cap p.2) p.1).bind λos=>some (.ow (.nd .ls os),p.2)else none
def zH:TF:=λas=>some (true,as)
section
variable{K:zzA}{kd:KD}{F B:Addr->Prop}{T:List Addr}{ad:Ad}{as:AS}{σ:St}{H H':Hp}{cap:List (Option Nat)}
def Io(R:Rel K kd F B [] ad as σ H)(k:∀b u,H b=some u->H' b=some u)(hT:∀a ∈ T,H a=none)(hT':∀a ∈ T,H' a≠none):
 Rel K kd (WU (Lv F B (Gw [] ad) true) (· ∈ T)) (λ_=>False) [] (λ_=>[]) (wk cap as) (wD cap σ) H':=by
 have m:∀a,¬Gw [] (λ_=>[]) a:=λa z=>z.elim (λy=>nomatch y) λ⟨_,y⟩=>nomatch y;have r:∀a,H a≠none->H' a≠none:=λa z=>by
  cases e:H a with
  |none=>exact absurd e z
  |some u=>rw[k a u e];simp
 have n:∀{f:Bool}{v:V}{d:D},Rp K kd (λa=>f=true/\Lv F B (Gw [] ad) true a) H v d->Rp K kd (Lv (WU (Lv F B (Gw [] ad) true) (· ∈ T)) (λ_=>False) (Gw [] λ_=>[]) f) H' v d:=λ{f v d} h=>by
  have:=Rp.grow (F:=λa=>f=true/\Lv F B (Gw [] ad) true a) (W:=λ_=>False) (W':=(· ∈ T)) (H':=H') ⟨λb u q _=>k b u q,λb z=>.inr (hT b z)⟩ (h.less λa z=>z.elim id False.elim);refine this.less λa z=>?_
  rcases z with(⟨z1,g⟩|z)|z
  . rcases g with g|g
    . exact .inl ⟨z1,g⟩
    . exact .inr g
  . exact z.elim
  . exact(m a z).elim
 refine⟨by unfold wk wD;rw[zzB,zzB],λ_ _=>rfl,λ_=>zyJ,(λ_ _ _ z=>nomatch z),zyJ,(λ_ _ _ z=>nomatch z),λa z=>z.elim (λy=>r a (R.trk true a y)) (hT' a),(λ_ z=>z.elim),λa z=>(m a z).elim,λi s e=>?_⟩;unfold wk at e;rw[zzI]at e;obtain⟨c,t,rfl⟩:=zzX.mp e;have w:(wD cap σ)[i]? = some (sE σ c):=by
  unfold wD;rw[zzI,t];rfl
 rw[w];cases c with
 |none=>rfl
 |some j=>
  show Pb _ _ _ _ _ _ (match as[j]? with|some (some (.lf f d))=>some (.lf f d)|some (some o)=>some (.lf false o.toD)|_=>none) _ _;cases k2:as[j]? with
  |none=>rfl
  |some x=>
   cases x with
   |none=>rfl
   |some o=>
    obtain⟨v,p,l⟩:=R.sl j _ k2;cases o with
    |lf f d=>
     have A : ad j=[]:=by
            generalize C:ad j=G at l;cases l;rfl
     rw[A]at l;refine⟨v,by show some ((σ[j]?).getD none)=_;rw[p];rfl,.lf (n ?_)⟩;exact(Tg l).less λa z=>by have E:f=true:=z.1;show Lv F B (Gw [] ad) f a;rw[E];exact z.2
    |nd I J=>exact⟨v,by show some ((σ[j]?).getD none)=_;rw[p];rfl,.lf (n ((G9 l).less λa z=>nomatch z.1))⟩
def Hl{S:List Nat}{fi:IF}{g:GF}{tt:TF}{fe:EF}{Q:VK}(hS:∀i ∈ S,cap[i]? = some none)(h:al K kd (zq fi cap g tt fe) σ H Q):
 SJ (q5 K kd fi) cap (sV K kd S g) (Ci K kd tt) (al K kd fe) σ H Q:=by
 obtain⟨F,B,ad,as,r,as',R,e,q⟩:=h;obtain⟨⟨ds,as1⟩,h1,e⟩:=bS_ (show(fi as).bind _=_ from e)
 by_cases hz:ds.length<=sizeLine
 . have e:(if ds.length<=sizeLine then(yR g tt fe (wk cap as1) ds).bind λos=>some (RV.ow (.nd .ls os),as1)else none)=some (r,as'):=e;rw[if_pos hz]at e;obtain⟨os,h2,e⟩:=bS_ e;cases e;refine⟨F,B,ad,as,ds,as',R,h1,λJ ad1 H1 R1 g1 it=>?_⟩;refine⟨λi m ys H3=>m+i=ds.length/\∃T os1 os2,os=os1++os2/\yR g tt fe (wk cap as') (ds.drop i)=some os2/\os1.length<=i/\T.Nodup/\(∀a ∈ T,H1 a=none/\H3 a≠none)/\(∀b u,H1 b=some u->H3 b=some u)/\
    RoL (λ_ v d=>Rp K kd (WU (Lv F B (Gw [] ad1) true) (· ∈ T)) H3 v d) (λa=>¬WU (Lv F B (Gw [] ad1) true) (· ∈ T) a) H3 ys os1 T,⟨ds.length,rfl,[],[],os,rfl,h2,zzN _,zyJ,(λ_ m=>nomatch m),(λ_ _ z=>z),.nil⟩, ?_⟩
   rintro i m ys H3 ⟨hm,T,os1,os2,eo,ec,hl,tnd,tf,k3,rl⟩
   obtain⟨i1,i2,i3⟩:=it.all H3 (· ∈ T) k3 tf i;have yl:=rl.length;refine⟨by omega, ?_⟩
   by_cases hi:i<ds.length
   . refine .inr ⟨i1 hi,λv H4 hy=>?_⟩;obtain⟨k4,rp⟩:=i3 v H4 hy;rw[zyQ hi]at ec;obtain⟨as2,e2,ec⟩:=bS_ (show(g _ _).bind _=_ from ec);obtain⟨⟨b,as3⟩,e3,ec⟩:=bS_ ec;have k14:∀b u,H1 b=some u->H4 b=some u:=λb u h=>k4 b u (k3 b u h);have kn4:∀a,H3 a≠none->H4 a≠none:=λa z=>by
      cases e:H3 a with
      |none=>exact absurd e z
      |some u=>rw[k4 a u e];simp
     have R4:=Io (cap:=cap) (T:=T) R1 k14 (λa z=>(tf a z).1) (λa z=>kn4 a (tf a z).2);have no:∀a,¬Gw [] (λ_=>[]) a:=λa z=>z.elim (λy=>nomatch y) λ⟨_,y⟩=>nomatch y;refine⟨_,_,_,_,ds[i],as2,R4,(rp _ (zzE hi)).less λa z=>?_,e2,λσ5 ad5 H5 R5 g5 keep5=>⟨λj w hw=>?_,_,_,ad5,as2,b,as3,R5,e3,λad6 H6 R6 g6=>?_⟩⟩
     . rcases z with(z|z)|z
       . exact z
       . exact z.elim
       . exact(no a z).elim
     . rw[keep5 j λz=>?_]
       . exact hw
       . have:=hS j z;unfold wD at hw;rw[zzI,this]at hw;cases hw
     . -- what stood is kept
       have g46:=g5.trans g6;have k46:∀b u,H4 b=some u->H6 b=some u:=λb u h=>g46.keep b u h (no b);have k36:∀b u,H3 b=some u->H6 b=some u:=λb u h=>k46 b u (k4 b u h);have kn6:∀a,H3 a≠none->H6 a≠none:=λa z=>by
        cases e:H3 a with
        |none=>exact absurd e z
        |some u=>rw[k36 a u e];simp
       have up:∀{H7:Hp}{T2:List Addr},(∀b u,H3 b=some u->H7 b=some u)->(∀a ∈ T2,H3 a=none)->RoL (λ_ v d=>Rp K kd (WU (Lv F B (Gw [] ad1) true) (· ∈ T++T2)) H7 v d) (λa=>¬WU (Lv F B (Gw [] ad1) true) (· ∈ T++T2) a) H7 ys os1 T:=λ{H7 T2} k7 f7=>
        RoL.mono (λst v d r=>(r.since k7 f7).less λa z=>z.elim (λy=>.inl (.inl y)) λy=>(zzM.mp y).elim (λx=>.inl (.inr x)) .inr)
         (λa vs n e=>⟨λz=>z.elim (λy=>n (.inl y)) λy=>(zzM.mp y).elim (λx=>n (.inr x)) λx=>(by have:=f7 a x;rw[this]at e;cases e),k7 _ _ e⟩) (λa _ u h=>k7 a u h) rl
       cases b with
       |false=>
        have:=up (T2:=[]) k36 (λ_ m=>nomatch m);rw[zyE]at this;exact⟨m-1,by omega,by omega,T,os1,os2,eo,ec,Nat.le_succ_of_le hl,tnd,λa z=>⟨(tf a z).1,kn6 a (tf a z).2⟩,λb u h=>k36 b u (k3 b u h),this⟩
       |true=>
        rw[if_pos rfl]at ec;obtain⟨⟨p,as7⟩,e7,ec⟩:=bS_ ec;obtain⟨⟨o,as8⟩,e8,ec⟩:=bS_ ec
        by_cases hs:o.str=true
        . have ec:(if o.str=true then(yR g tt fe (wk cap as') (ds.drop (i+1))).bind λos=>some (o::os)else none)=some os2:=ec;rw[if_pos hs]at ec;obtain⟨os3,e9,ec⟩:=bS_ ec;cases ec;refine⟨by omega,_,_,ad6,as3,p,as7,R6,e7,λy T2 ad7 H7 R7 rv7 g7=>?_⟩;obtain⟨ad8,R8,ro8,le8⟩:=RU R7 rv7 e8;have g47:=g46.trans g7;have k47:∀b u,H4 b=some u->H7 b=some u:=λb u h=>g47.keep b u h (no b);have k37:∀b u,H3 b=some u->H7 b=some u:=λb u h=>k47 b u (k4 b u h);have f42:∀a ∈ T2,H4 a=none:=λa z=>(g47.own a (.inl z)).resolve_left (no a);have f32:∀a ∈ T2,H3 a=none:=λa z=>by
             cases e:H3 a with
             |none=>rfl
             |some u=>have:=k4 a u e;rw[f42 a z]at this;cases this
          have rt:=Ej R8 R8.tnd (λa z=>.inl z) ro8 hs;have ro9:Ro (λ_ v d=>Rp K kd (WU (Lv F B (Gw [] ad1) true) (· ∈ T++T2)) H7 v d) (λa=>¬WU (Lv F B (Gw [] ad1) true) (· ∈ T++T2) a) H7 y o T2:=
             Ro.mono (λst v d r=>r.less λa z=>z.elim (λy=>.inl (.inl y)) λy=>(zzM.mp y).elim (λx=>.inl (.inr x)) .inr)
              (λa vs n e=>⟨λz=>n (z.elim (λy=>.inl (.inl y)) λy=>(zzM.mp y).elim (λx=>.inl (.inr x)) .inr),e⟩) (λ_ _ _ h=>h) rt.ro
          refine⟨m-1,by omega,by omega,T++T2,os1++[o],os3,by rw[eo,zxD];rfl,e9,by rw[zzJ,List.length_singleton];omega,zxF.mpr ⟨tnd,rt.nd,λa z b z' e=>?_⟩,λa z=>?_,λb u h=>k37 b u (k3 b u h),(up k37 f32).append (RoL.one ro9)⟩
          . subst e;exact(tf a z).2 (f32 a z')
          . rcases zzM.mp z with z|z
            . refine⟨(tf a z).1, ?_⟩;cases e:H3 a with
              |none=>exact absurd e (tf a z).2
              |some u=>rw[k37 a u e];simp
            . refine⟨?_,rt.tr a z⟩;cases e:H1 a with
              |none=>rfl
              |some u=>have:=k3 a u e;rw[f32 a z]at this;cases this
        . have ec:(if o.str=true then(yR g tt fe (wk cap as') (ds.drop (i+1))).bind λos=>some (o::os)else none)=some os2:=ec;rw[if_neg hs]at ec;cases ec
   . refine .inl ⟨i2 (by omega),λp hp=>?_⟩;rw[List.drop_eq_nil_of_le (by omega)]at ec;cases ec;rw[zyE]at eo;subst eo;have pT:p ∉ T:=λz=>(tf p z).2 hp;have H1p:H1 p=none:=by
      cases e:H1 p with
      |none=>rfl
      |some u=>have:=k3 p u e;rw[hp]at this;cases this
     have kp:∀b u,H3 b=some u->upd H3 p (.lst ys) b=some u:=λb u h=>by rw[zK (yq h hp)];exact h
     obtain⟨R9,g9⟩:=R1.news (T':=p::T) (H':=upd H3 p (.lst ys)) (zzW.mpr ⟨pT,tnd⟩) (λa z=>(zzC.mp z).elim (λe=>by rw[e];exact H1p) λz=>(tf a z).1) (λb u h=>kp b u (k3 b u h)) (λa z=>by
      rcases zzC.mp z with e|z
      . rw[e,yd];simp
      . cases e:H3 a with
        |none=>exact absurd e (tf a z).2
        |some u=>rw[kp a u e];simp)
     refine q _ (p::T) ad1 _ R9 (.ls yd ?_) (g1.trans g9);have le:∀st a,Lv F B (Gw (p::T) ad1) st a->WU (WU (Lv F B (Gw [] ad1) true) (· ∈ T)) (· = p) a:=λst a z=>by
      rcases z with(z|z)|z|z
      . exact .inl (.inl (.inl (.inl ⟨rfl,z.2⟩)))
      . exact .inl (.inl (.inl (.inr z)))
      . exact(zzC.mp z).elim .inr λy=>.inl (.inr y)
      . exact .inl (.inl (.inr (.inr z)))
     exact RoL.mono (λst v d r=>(r.since kp (T:=(· = p)) λa z=>by rw[z];exact hp).less (le st)) (λa vs n e=>⟨λz=>(le true a z).elim n λy=>(by rw[y,hp]at e;cases e),kp _ _ e⟩) (λa _ u h=>kp a u h) rl
 . have e:(if ds.length<=sizeLine then(yR g tt fe (wk cap as1) ds).bind λos=>some (RV.ow (.nd .ls os),as1)else none)=some (r,as'):=e;rw[if_neg hz]at e;cases e
end
section
variable{X:Cx}{kd:KD}{elt tg iter e a b c:Expr}{es ifs:List Expr}{scope:Scope}{pos:Pos}{N:List Str}{cap:List (Option Nat)}{g:GF}{tt:TF}{fe fa fb:EF}{fi:IF}{S:List Nat}{fr:AF}{fd:DF}
def U6:B5 X [] (Ci X.K kd zH):=λa s σ H Q I h=>by
 obtain⟨F,B,c,as,b,d,R,e,q⟩:=h;cases e;exact Cf a s σ H Q I (q c H R Grow.refl)
def IC(h:AT X kd c tt):B5 X [c] (Ci X.K kd tt):=by with_unfolding_all exact(IJ h)
def EZ(hc:X.calm=true)(hi:O6 X kd tg iter fi)(hk:scope.kind = .function)(hcap:Wr N X.N scope.names X.env.scope.names cap=true)(hS:S.all (λi=>cap[i]? == some none)=true)
 (hg:∀cl s H fp,AG (yT X N scope cl s H fp) kd tg S g) (ht:∀cl s H fp,B5 (yT X N scope cl s H fp) ifs (Ci X.K kd tt)) (he:∀cl s H fp,AE (yT X N scope cl s H fp) kd elt fe)
 (hs:∀x,foldedSetIterable iter X.env x=pure x):AE X kd (.ListComp elt [⟨tg,iter,ifs,0⟩] scope pos) (zq fi cap g tt fe):=by with_unfolding_all exact(yE (O7 (g:=sV X.K kd S g) (te:=al X.K kd fe) hc hi hk hcap hg ht he hs) λσ H Q h=>Hl (λi m=>by simpa using List.all_eq_true.mp hS i m) h)
def KQ(hN:X.N.Nodup)(hiy:X.N[i]? = some y)(hy:Loc X.env.scope y)(hf:X.fn y=true\/X.env.scope.names.lookup y=some .local)
 (hsw:swapsWith (.ListComp elt [⟨tg,iter,ifs,0⟩] scope pos) (some (.Name y py)) spos.line X.env=pure true)
 (hc:X.calm=true) (hi:O6 X kd tg iter fi) (hk:scope.kind = .function) (hcap:Wr N X.N scope.names X.env.scope.names cap=true) (hS:S.all (λi=>cap[i]? == some none)=true)
 (hg:∀cl s H fp,AG (yT X N scope cl s H fp) kd tg S g) (ht:∀cl s H fp,B5 (yT X N scope cl s H fp) ifs (Ci X.K kd tt)) (he:∀cl s H fp,AE (yT X N scope cl s H fp) kd elt fe)
 (hs:∀x,foldedSetIterable iter X.env x=pure x):Tt X kd (.Assign [.Name y py] (.ListComp elt [⟨tg,iter,ifs,0⟩] scope pos) spos) (zz z i (zq fi cap g tt fe)):=by with_unfolding_all exact(wo (Ii (g:=sV X.K kd S g) (te:=al X.K kd fe) hN hiy hy hf hsw hc hi hk hcap hg ht he hs) λD σ H h=>by
 obtain⟨F,B,c,as,o,R,e,q⟩:=h;obtain⟨⟨p,a⟩,d,e⟩:=bS_ (show(zq fi cap g tt fe as).bind _=_ from e);obtain⟨⟨y,f⟩,j,e⟩:=bS_ e;obtain⟨k,e⟩:=zM e;cases e;refine Hl (Q:=λx l=>Nm i x σ l D.nx) (λi m=>by simpa using List.all_eq_true.mp hS i m) ⟨F,B,c,as,p,a,R,d,λv A n r t u g=>?_⟩;obtain⟨b,R2,w⟩:=ML t u j k;exact q _ b r R2 (g.trans (Grow.less w)))
def CN(F:FnOk X.prog X.w X.K X.mg X.base B4 k f fdt ps (JQ X.K kd gg))(hr:Room k X.A)(hg:Gl X x)(hm:X.mg x=some (.ref f))(hk:PySem.W.keepIn X.K (.ref f)=true)
 (hb:Binds X.K fdt ps []) (hx:Ls B4 X (λ_ _ _=>False)) (ha:AA X kd (e::es) fr) (hdb:(x==("__debug__":Str))=false) (he:starEach (e::es) X.env=(false,eval e X.env)::starEach es X.env) (hpl:(backTo pos (starEach es X.env)).any (·.1)=false):
 AE X kd (.Call (.Name x p) (e::es) [] pos) (zp fr gg):=by with_unfolding_all exact(yE (IK F hr hg hm hk hb .nil hx ha hdb he hpl) λσ H Q h=>uf h)
def D3{id:String}{gg:List D->Option R0}{x:Str}{p:Pos}(hc:YJ X kd (.builtin id) gg)(hg:Gl X x)(hm:X.mg x=none)(hv:bootBuiltins x=some (.builtin id))(ha:AA X kd (e::es) fr)(hn:x≠"__name__")(hdb:(x==("__debug__":Str))=false)
 (he:starEach (e::es) X.env=(false,eval e X.env)::starEach es X.env) (hpl:(backTo pos (starEach es X.env)).any (·.1)=false):AE X kd (.Call (.Name x p) (e::es) [] pos) (fP fr gg):=by with_unfolding_all exact(yE (RB hc hg hm hv ha hn hdb he hpl) λσ H Q h=>pG (λ_ _ _ z=>z) h)
def Aa(hc:YJ X kd (.type T) gg)(hg:Gl X x)(hm:X.mg x=none)(hv:bootBuiltins x=some (.type T))(ha:AA X kd (e::es) fr)(hn:x≠"__name__")(hdb:(x==("__debug__":Str))=false)
 (he:starEach (e::es) X.env=(false,eval e X.env)::starEach es X.env) (hpl:(backTo pos (starEach es X.env)).any (·.1)=false):AE X kd (.Call (.Name x p) (e::es) [] pos) (fP fr gg):=by with_unfolding_all exact(yE (BU hc hg hm hv ha hn hdb he hpl) λσ H Q h=>pG (λ_ _ _ z=>z) h)
noncomputable def Eo(fa:EF)(c:String):EF:=λas=>(fa as).bind λp=>(p.1.frz.view p.2).bind λx=>if Mu x.1=true then some (.ow (.lf true (.bl (G4 (Dx x.1) c))),p.2)else none
def SV(hk:KdOk X kd):Y1 X (.builtin "isinstance") (λxs H Q=>∃x c O d,xs=[x,.ty c]/\VN c=true/\Vw X.K kd O H x d/\Mu d=true/\Q (.bl (G4 (Dx d) c)) H):=by
 intro b s σ H l m Q I r h;obtain⟨x,c,O,d,rfl,e,f,g,q⟩:=h;cases r with
 |cons i a=>
  cases a with
  |cons a j=>
   cases j;cases(show _=Value.type c from a);exact D4 hk I i f e g λk=>⟨.bl _,H,I.tok k,rfl,q⟩
def MA{c:String}{x y:Str}{p p2:Pos}(hkd:KdOk X kd)(hc:VN c=true)(hg:Gl X x)(hm:X.mg x=none)(hv:bootBuiltins x=some (.builtin "isinstance"))(hg2:Gl X y)(hm2:X.mg y=none)(hv2:bootBuiltins y=some (.type c))(ha:AE X kd a fa)
 (hn:x≠"__name__") (hdb:(x==("__debug__":Str))=false) (hn2:y≠"__name__") (hdb2:(y==("__debug__":Str))=false)
 (he:starEach [a,.Name y p2] X.env=(false,eval a X.env)::starEach [.Name y p2] X.env) (he2:starEach [.Name y p2] X.env=(false,eval (.Name y p2) X.env)::starEach [] X.env) (hpl:(backTo pos (starEach [.Name y p2] X.env)).any (·.1)=false):
 AE X kd (.Call (.Name x p) [a,.Name y p2] [] pos) (Eo fa c):=by with_unfolding_all exact(yE (RB (SV hkd) hg hm hv (Z3 ha (Z3 (Ib (v:=.ty c) hg2 hm2 hv2 rfl hn2 hdb2) Qu he2) he) hn hdb he hpl) λσ H Q h=>by
 obtain⟨F,B,s,as,r,i,R,e,q⟩:=h;obtain⟨⟨p,j⟩,k,e⟩:=bS_ (show(fa as).bind _=_ from e);obtain⟨⟨d,t⟩,l,e⟩:=bS_ e;obtain⟨m,e⟩:=zM e;cases e;exact wH R k λv b n g f o=>⟨v,c,_,d,rfl,hc,xq.vw g f l,m,q _ [] b n g (.lf (.bl _)) o⟩)
noncomputable def y9:MG:=λos es=>match es with | [o]=>if os.length<sizeLine then some (os++[o],.lf true .non)else none|_=>none
noncomputable def WV:MG:=λos es=>match es with | [.lf _ (.int i)]=>if -(2 ^ 63)<=i/\i<2 ^ 63 then(seqIndex? i os.length).bind λk=>(os[k]?).bind λo=>some (os.eraseIdx k,o)else none|_=>none
noncomputable def BL:MG:=λos es=>match es with | [.nd .ls ps]=>if os.length+ps.length<=sizeLine then some (os++ps,.lf true .non)else none|_=>none
def O2{l f fo g:List Addr}(h:l.Nodup)(e:l=f++(fo++g)):((f++g)++fo).Nodup/\∀a ∈ (f++g)++fo,a ∈ l:=by
 subst e;have p:(f++(fo++g)).Perm ((f++g)++fo):=by
  rw[zxD];exact(List.perm_append_comm).append_left f
 exact⟨p.nodup_iff.mp h,λa m=>p.mem_iff.mpr m⟩
def Az:tI X kd Fv y9:=by
 intro F B G l f p q r g o s t H Q h c b d e k;unfold y9 at e
 split at e
 . obtain⟨i,e⟩:=zM e;cases e;cases b with
   |cons j n=>
    cases n;rw[zyE]at d k;exact⟨l,f,_,rfl,rfl,h,by rw[c.length];exact i,k _ _ _ [] (c.append (RoL.one j)) (.lf .non) (λa m=>by rwa [zyE]at m) (by rw[zyE];exact d)⟩
 . cases e
def OK:tI X kd HA WV:=by
 intro F B G l g E I J h o K L H Q m b a c e k;unfold WV at e
 split at e
 . rename_i M i
   split at e
   . rename_i d;obtain⟨j,n,e⟩:=bS_ e;obtain⟨N,p,e⟩:=bS_ e;cases e;obtain⟨v,f,q,r,s,t,u,w,x⟩:=b.at_ p;cases a with
     |cons y z=>
      cases z;cases y with
      |lf A=>
       cases A;rw[zyE,zyE]at c k;obtain⟨C,D⟩:=O2 c t;refine⟨l,g,i,j,v,rfl,rfl,m,d.1,d.2,by rw[b.length];exact n,s,k v _ (f++r) q ?_ u D C⟩;rw[UI,UI];exact w.append x
   . cases e
 . cases e
def J0:tI X kd EW BL:=by
 intro F B G l h y z A i o C D H Q j d c f e k;unfold BL at e
 split at e
 . rename_i E;obtain⟨n,e⟩:=zM e;cases e;cases c with
   |cons p q=>
    cases q;cases p with
    |ls r g=>
     rename_i b s I;rw[zyE]at f k;obtain⟨t,u,v⟩:=zxF.mp f;obtain⟨J,w⟩:=zzW.mp u;refine⟨l,b,h,s,rfl,rfl,j,r,by rw[d.length,g.length];exact n,k .non _ _ [] (d.append g) (.lf .non) (λa m=>?_) ?_⟩
     . rw[zyE]at m
       rcases zzM.mp m with m|m
       . exact zzP _ m
       . exact zzL _ (zzD _ m)
     . rw[zyE];exact zxF.mpr ⟨t,w,λa m b x=>v a m b (zzD _ x)⟩
 . cases e
def Mv{i:Nat}{x:Str}{gg:MG}{r:V->List V->Hp->VK->Prop}{name:Str}{id:String}{apos cpos p:Pos}(hm:tB X id r)(hr:tI X kd r gg)(slot:Slot "list" name id)(hty:typeOf (.builtin id)=pure (.type "method_descriptor"))(ho:PE X (.Name x p) (WZ i))(ha:AD X kd (e::es) fd)
 (hbase:attributeBase (.Name x p) name X.env (eval (.Name x p) X.env)=eval (.Name x p) X.env)
 (hfew:((backTo cpos (starEach (e::es) X.env)).all (λx=>!x.1)&&(backToKw cpos (keywordEach [] X.env)).all (λx=>x.1.isSome)
  && decide ((e::es).length+([]:List Keyword).length+(if([]:List Keyword).isEmpty then 0 else 1)<30))=true)
 (hline:(apos.endLine==cpos.line)=true) (hs:starEach (e::es) X.env=(false,eval e X.env)::starEach es X.env) (hplain:(backTo cpos (starEach es X.env)).any (·.1)=false):
 AE X kd (.Call (.Attribute (.Name x p) name apos) (e::es) [] cpos) (yZ i fd gg):=by with_unfolding_all exact(yE (Jx PySem.F.plainAttrs_list slot hty hm ho ha hbase hfew hline hs hplain) λσ H Q h=>sA hr h)
end
inductive Ty where
 |str|lst|dct|int
def Ty.nm:Ty->String
 | .str=>"str" | .lst=>"list" | .dct=>"dict" | .int=>"int"
noncomputable def OQ:Ty->D->Bool
 | .str,.str _=>true
 | .lst,.lst _=>true
 | .dct,.dct _=>true
 | .int,.int _=>true
 |_,_=>false
def pV(X:Cx)(T:String)(x:V)(H:Hp):Prop:=∀(pins:List (Addr×Obj)) (σ:St) (s:Shared) (v:Value),Inv X pins σ H s->RelV x v->s.TypeIs v T/\∀a,v = .ref a->∃ob,s.heap.get? a=some ob/\ob.dict=none
def pw(X:Cx)(T:String)(r:V->List V->Hp->VK->Prop)(to:TE)(t:TA):TE:=λσ H Q=>to σ H λx H1=>pV X T x H1/\t σ H1 λxs H2=>r x xs H2 Q
section
variable{X:Cx}{kd:KD}{o e:Expr}{es:List Expr}{to:TE}{t:TA}{name:Str}{apos cpos:Pos}{T id:String}{r:V->List V->Hp->VK->Prop}
def uN(pa:PlainAttrs T)(slot:Slot T name id)(hty:typeOf (.builtin id)=pure (.type "method_descriptor"))(hm:rz X id r)(ho:PE X o to)(ha:PA X (e::es) t)
 (hbase:attributeBase o name X.env (eval o X.env)=eval o X.env)
 (hfew:((backTo cpos (starEach (e::es) X.env)).all (λx=>!x.1)&&(backToKw cpos (keywordEach [] X.env)).all (λx=>x.1.isSome)
  && decide ((e::es).length+([]:List Keyword).length+(if([]:List Keyword).isEmpty then 0 else 1)<30))=true)
 (hline:(apos.endLine==cpos.line)=true) (hs:starEach (e::es) X.env=(false,eval e X.env)::starEach es X.env) (hplain:(backTo cpos (starEach es X.env)).any (·.1)=false):
 PE X (.Call (.Attribute o name apos) (e::es) [] cpos) (pw X T r to t):=by
 intro a s σ H Q I h;refine wpAny_Call_method_late hbase hfew hline rfl (thn (ho a s σ H _ I h) λv f ⟨x,g,b,c,i,j⟩=>?_);obtain⟨k,l⟩:=i _ _ _ _ b c;refine⟨T,id,pa,slot,hty,k,l, ?_⟩;have d:=ha cpos a f σ g _ b j;rw[hs]at d ⊢;refine Calls.callWith_builtin (by show(false||(backTo cpos (starEach es X.env)).any (·.1))=false;rw[hplain]<;>rfl) (Calls.evalArgs_plain ?_);exact thn d λm n ⟨p,q,u,w,y⟩=>hm a n σ q x p v m Q u c w y
def qp(X:Cx)(kd:KD)(id:String)(g:D->List D->Option R0):Prop:=
 rz X id (λx xs H Q=>∃O d ds r,(∀a,O a->H a≠none)/\Vw X.K kd O H x d/\VwL X.K kd O H xs ds/\g d ds=some r/\RQ X.K kd O H Q r)
def tY(hk:KdOk X kd){O:Addr->Prop}{H:Hp}{x:V}{d:D}{ty:Ty}(h:Vw X.K kd O H x d)(e:OQ ty d=true):pV X ty.nm x H:=by
 intro pins σ s v I rx;cases h with
 |str z=>
  obtain⟨t,rfl⟩:=rx;cases ty<;>first|(cases e;done)|exact⟨typeIs_str s z t,λ_ e=>nomatch e⟩
 |int z=>
  obtain⟨t,rfl⟩:=rx;cases ty<;>first|(cases e;done)|exact⟨typeIs_int s z t,λ_ e=>nomatch e⟩
 |lst hr rl=>
  cases rx;obtain⟨its,_,pl,_⟩:=I.list hr.sq;cases ty<;>first|(cases e;done)|skip
  refine⟨pl.isList.typeIs,λa e=>?_⟩;cases e;obtain⟨o,n,e,c,hd,_⟩:=pl;exact⟨o,e,hd⟩
 |dct hr rm=>
  cases rx;obtain⟨z,hd,vs,rel,dd⟩:=GY I hk hr;cases ty<;>first|(cases e;done)|skip
  refine⟨dd.typeIs,λb q=>?_⟩;cases q;obtain⟨ob,_,_,h1,h2,_⟩:=dd;exact⟨ob,h1,h2.2.1⟩
 |non=>cases ty<;>cases e
 |bl=>cases ty<;>cases e
 |tup=>cases ty<;>cases e
 |cl=>cases ty<;>cases e
 |ob=>cases ty<;>cases e
 |dt=>cases ty<;>cases e
noncomputable def wm(ty:Ty)(fa:EF)(fr:AF)(g:D->List D->Option R0):EF:=λas=>(fa as).bind λp=>(p.1.frz.view p.2).bind λw=>if OQ ty w.1=true then(fr p.2).bind λq=>(p.1.frz.view q.2).bind λx=>(views q.2 q.1).bind λy=>(g x.1 y.1).bind λr=>(wrap (meet x.2 y.2) r).bind λz=>some (z,q.2)else none
def D6(hk:KdOk X kd)(h:al X.K kd (wm ty fa fr g) σ H Q):
 pw X ty.nm (λx xs H Q=>∃O d ds r,(∀a,O a->H a≠none)/\Vw X.K kd O H x d/\VwL X.K kd O H xs ds/\g d ds=some r/\RQ X.K kd O H Q r) (al X.K kd fa) (ux X.K kd fr) σ H Q:=by
 obtain⟨F,B,U,as,r,o,R,e,q⟩:=h;obtain⟨⟨p,c⟩,s,e⟩:=bS_ (show(fa as).bind _=_ from e);obtain⟨⟨V,W⟩,t,e⟩:=bS_ e;obtain⟨f,e⟩:=ite_some' e;obtain⟨⟨u,y⟩,A,e⟩:=bS_ e;obtain⟨⟨d,Y⟩,C,e⟩:=bS_ e;obtain⟨⟨D,E⟩,G,e⟩:=bS_ e;obtain⟨I,J,e⟩:=bS_ e;obtain⟨z,L,e⟩:=bS_ e;cases e;refine wH R s λv i Z m b M=>⟨tY hk (xq.vw m b t) f,F,B,i,c,u,_,m,A,λvs j H2 R2 k n=>?_⟩;exact⟨_,d,D,I,R2.tr _,(xq.vw R2 (b.grow n) C).less Qn.meet1,(XA R2 k G).less Qn.meet2,J,Za R2 L λw N P S l T=>q w N j P S l ((M.trans n).trans T)⟩
def EM(hk:KdOk X kd)(hm:qp X kd id g)(pa:PlainAttrs ty.nm)(slot:Slot ty.nm name id)(hty:typeOf (.builtin id)=pure (.type "method_descriptor"))(ho:AE X kd a fa)(ha:AA X kd (e::es) fr)
 (hbase:attributeBase a name X.env (eval a X.env)=eval a X.env)
 (hfew:((backTo cpos (starEach (e::es) X.env)).all (λx=>!x.1)&&(backToKw cpos (keywordEach [] X.env)).all (λx=>x.1.isSome)
  && decide ((e::es).length+([]:List Keyword).length+(if([]:List Keyword).isEmpty then 0 else 1)<30))=true)
 (hline:(apos.endLine==cpos.line)=true) (hs:starEach (e::es) X.env=(false,eval e X.env)::starEach es X.env) (hplain:(backTo cpos (starEach es X.env)).any (·.1)=false):
 AE X kd (.Call (.Attribute a name apos) (e::es) [] cpos) (wm ty fa fr g):=by with_unfolding_all exact(yE (uN pa slot hty hm ho ha hbase hfew hline hs hplain) λσ H Q h=>D6 hk h)
end
section
variable{K:zzA}{kd:KD}{F B G:Addr->Prop}{T:List Addr}{ad:Ad}{as:AS}{σ:St}{H H':Hp}
def Rel.wrT(R:Rel K kd F B T ad as σ H)(hp:p ∈ T):Rel K kd F B T ad as σ (upd H p u)/\Grow (Gw T ad) H (Gw T ad) (upd H p u):=by
 have g:Grow (Gw T ad) H (Gw T ad) (upd H p u):=Grow.wr (.inl hp);have b:∀a,H a≠none->upd H p u a≠none:=λa z=>by
  by_cases e:a=p
  . subst e;rw[yd];simp
  . rw[zK e];exact z
 exact⟨⟨R.len,R.out,R.nd,R.inj,R.tnd,R.dis,λa z=>b a (R.ftr a z),λa z=>⟨b a (R.btr a z).1,(R.btr a z).2⟩,λa z=>⟨b a (R.gtr a z).1,(R.gtr a z).2⟩,λi s e=>(R.sl i s e).grow g λa m w h=>by
  rw[zK (λz=>R.dis i a m (by rw[z];exact hp))];exact h⟩,g⟩
inductive RPs(K:zzA)(kd:KD)(F B G:Addr->Prop)(H:Hp):List (V×V)->List (Key×O)->Prop
 |nil:RPs K kd F B G H [] []
 |cons {k:Key}{v:V}{o:O}{ps:List (V×V)}{kos:List (Key×O)}:w5 K kd F B G H v o []->RPs K kd F B G H ps kos->RPs K kd F B G H ((kV k,v)::ps) ((k,o)::kos)
end
section
variable{X:Cx}{kd:KD}{e a b c o i:Expr}{pos pos':Pos}{fa fb fk fv:EF}
def Qf{κ:Type}[DecidableEq κ](ks:List κ)(k:κ):Bool:=ks.any λx=>decide (x=k)
def X7{κ:Type}[DecidableEq κ](ks:List κ)(k:κ):List κ:=if Qf ks k=true then ks else ks++[k]
def ZE{κ α:Type}[DecidableEq κ](ks:List κ)(os:List α)(k:κ)(o:α):List α:=if Qf ks k=true then(ks.zip os).map (λp=>if p.1=k then o else p.2)else os++[o]
theorem Lb[DecidableEq κ](k:κ):∀(ks:List κ) (vs:List α),ks.length=vs.length->((ks.zip vs).any λkv=>decide (kv.1=k))=Qf ks k
 | [],_,_=>rfl
 |x::r,[],h=>by simp at h
 |x::r,v::a,h=>by
  show(decide (x=k)||(r.zip a).any _)=(decide (x=k)||_);rw[Lb k r a (by simpa using h)];rfl
theorem Fs[DecidableEq κ]:∀(ks:List κ) (vs:List V),ks.length=vs.length->(ks.zip vs).map (λkv=>if kv.1=k then(kv.1,v)else kv)=ks.zip ((ks.zip vs).map λp=>if p.1=k then v else p.2)
 | [],_,_=>rfl
 |x::r,[],h=>by simp at h
 |x::r,w::a,h=>by
  show _::(r.zip a).map _=(x,_)::r.zip ((r.zip a).map _);rw[Fs r a (by simpa using h)]
  congr 1
  by_cases e:x=k
  . simp[e]
  . simp[e]
def Md{κ:Type}[DecidableEq κ]{ks:List κ}{vs:List V}{k:κ}{v:V}(h:ks.length=vs.length):putK (ks.zip vs) k v=(X7 ks k).zip (ZE ks vs k v):=by
 unfold putK X7 ZE;rw[Lb k ks vs h]
 split
 . exact Fs ks vs h
 . rw[List.zip_append h];rfl
def Kr{κ α:Type}[DecidableEq κ]{ks:List κ}{os:List α}{k:κ}{o:α}(h:ks.length=os.length):(X7 ks k).length=(ZE ks os k o).length:=by
 unfold X7 ZE
 split
 . rw[zzB,List.length_zip,h];simp
 . rw[zzJ,zzJ,h];rfl
theorem Hi{L:Bool->V->D->Prop}{Nn:Addr->Prop}{κ:Type}[DecidableEq κ]{H:Hp}{k:κ}{v:V}{o:O}(ho:Ro L Nn H v o []):∀{ks:List κ}{vs:List V}{os:List O}{fp:List Addr},ks.length=vs.length->RoL L Nn H vs os fp->
 ∃fp',fp'.Sublist fp/\RoL L Nn H ((ks.zip vs).map λp=>if p.1=k then v else p.2) ((ks.zip os).map λp=>if p.1=k then o else p.2) fp'
 | [],[],_,_,_,.nil=>⟨[],.slnil,.nil⟩
 |x::r,_,_,_,b,.cons (fp:=f) (fq:=g) h t=>by
  obtain⟨a,s,q⟩:=Hi ho (ks:=r) (by simpa using b) t
  by_cases e:x=k
  . refine⟨a,s.trans (List.sublist_append_right _ _), ?_⟩;have:=RoL.cons ho q;simpa[e]using this
  . refine⟨f++a,List.Sublist.append (List.Sublist.refl _) s, ?_⟩;have:=RoL.cons h q;simpa[e]using this
 | [],_::_,_,_,b,_=>by simp at b
end
abbrev Fn:=List (Bool×D)->Option O
section
variable{P:Program}{w:World}{K:zzA}{mg:Str->Option Value}{base:Heap}{kd:KD}
def Ml(hr:Room k A):A.units+100<cLine:=by have:=hr.un;omega
def vd(P:Program)(w:World)(K:zzA)(kd:KD):Prop:=∀X:Cx,X.prog=P->X.w=w->X.K=K->KdOk X kd
theorem Xa{O:Addr->Prop}{H:Hp}:∀ns:List Int,RpL K kd O H (ns.map V.int) (ns.map D.int)
 | []=>.nil
 |_::r=>.cons (.int _) (Xa r)
def J5{H:Hp}{a:Addr}{ns:List Int}{g:Fn}{E:XK}(hg:g [(true,.lst (ns.map D.int))]=some (.lf true (.bl true)))(hS:SY K H a (ns.map V.int)):JQ K kd g [.ref a] H (λv _=>v = .bl true) E:=by
 refine⟨λ_=>False,[(true,.lst (ns.map D.int))],.lf true (.bl true),(λ_ z=>z.elim),.cons ?_ .nil,hg,λv T e _ _ _ _ b=>?_⟩
 . rcases hS with h|⟨c,n,k,z,r⟩
   . exact .lst (λz=>z.2) h (Xa ns)
   . exact .lstK k z r (Xa ns)
 . cases b with
   |lf d=>cases d;rfl
end
namespace Bt
theorem len:bootBuiltins "len"=some (.builtin "len"):=by decide +kernel
theorem max:bootBuiltins "max"=some (.builtin "max"):=by decide +kernel
theorem sorted:bootBuiltins "sorted"=some (.builtin "sorted"):=by decide +kernel
theorem divmod:bootBuiltins "divmod"=some (.builtin "divmod"):=by decide +kernel
theorem isinstance:bootBuiltins "isinstance"=some (.builtin "isinstance"):=by decide +kernel
theorem all:bootBuiltins "all"=some (.builtin "all"):=by decide +kernel
theorem int:bootBuiltins "int"=some (.type "int"):=by decide +kernel
theorem bool:bootBuiltins "bool"=some (.type "bool"):=by decide +kernel
theorem list:bootBuiltins "list"=some (.type "list"):=by decide +kernel
theorem tuple:bootBuiltins "tuple"=some (.type "tuple"):=by decide +kernel
def n(x:Str)(h:(x==("__name__":Str))=false):x≠"__name__":=λe=>by subst e;simp at h
end Bt
def WD(f:EF)(as:AS)(st:Bool)(d:D):Prop:=f as=some (.ow (.lf st d),as)
def WT(f:TF)(as:AS)(b:Bool):Prop:=f as=some (b,as)
def WA(f:AF)(as:AS)(rs:List (Bool×D)):Prop:=f as=some (rs.map (λx=>.ow (.lf x.1 x.2)),as)
def WO(f:DF)(as:AS)(os:List O):Prop:=f as=some (os,as)
section
variable{as:AS}{f a b:EF}{s t:Bool}{x y z:D}{i j:Int}
def zb:WD (fC x) as true x:=rfl
def za{i:Nat}(h:as[i]? = some (some (.lf s x))):WD (fV i) as s x:=by unfold WD fV;rw[h]
def Jq(ha:WD a as s x)(hb:WD b as t y)(hg:g x y=some (.im z)):WD (f2 a b g) as (zN z||(s&&t)) z:=by
 unfold WD f2 at *;rw[ha];show((b as).bind _)=_;rw[hb];show((g x y).bind _)=_;rw[hg];show(if(zN z||(meet (some s) (some t)).isSome)=true then _ else _:Option RV).bind _=_;rw[if_pos (by unfold meet;simp)];rfl
def t6(ha:a as=some (.ow oa,as))(hb:b as=some (.ow ob,as))(hg:g oa.toD ob.toD=some (.im z)):WD (f2 a b g) as (zN z||(oa.str&&ob.str)) z:=by
 unfold WD f2 at *;rw[ha];show((b as).bind _)=_;rw[hb];show((g oa.toD ob.toD).bind _)=_;rw[hg];show(if(zN z||(meet (some oa.str) (some ob.str)).isSome)=true then _ else _:Option RV).bind _=_;rw[if_pos (by unfold meet;simp)];rfl
def zi(ha:WD a as s x)(hb:WD b as t y)(hg:g x y=some (.im z))(e:zN z=true):WD (f2 a b g) as true z:=by
 have:=Jq ha hb hg;rw[e]at this;exact this
def yC(ha:WD a as s (.int i))(hb:WD b as t (.int j)):WD (f2 a b (WJ .Add)) as true (.int (i+j)):=zi ha hb rfl rfl
def Kx(ha:WD a as s (.int i))(hb:WD b as t (.int j)):WD (f2 a b (WJ .Sub)) as true (.int (i-j)):=zi ha hb rfl rfl
def yV(ha:WD a as s (.int i))(hb:WD b as t (.int j))(h1:i.natAbs<big)(h2:j.natAbs<big):WD (f2 a b (WJ .Mult)) as true (.int (i*j)):=zi ha hb (by show(if _ then _ else _)=_;rw[if_pos ⟨h1,h2⟩]) rfl
def wN(ha:WD a as s (.int i))(hb:WD b as t (.int j))(h1:0<j)(h2:j.natAbs<big):WD (f2 a b (WJ .FloorDiv)) as true (.int (i/j)):=zi ha hb (by show(if _ then _ else _)=_;rw[if_pos ⟨h1,h2⟩]) rfl
def yc(ha:WD a as s (.int i))(hb:WD b as t (.int j))(h1:0<j):WD (f2 a b (WJ .Mod)) as true (.int (i%j)):=zi ha hb (by show(if _ then _ else _)=_;rw[if_pos h1]) rfl
def yo(ha:WD a as s x)(hb:WD b as t y)(h:xk 60 x y=some c):WD (f2 a b (zy .Eq)) as true (.bl c):=zi ha hb (by show(xk 60 x y).bind _=_;rw[h];rfl) rfl
def Wg(ha:WD a as s x)(hb:WD b as t y)(h:xk 60 x y=some c):WD (f2 a b (zy .NotEq)) as true (.bl (!c)):=zi ha hb (by show(xk 60 x y).bind _=_;rw[h];rfl) rfl
def G7(ha:WD a as s (.int i))(hb:WD b as t (.int j)):WD (f2 a b (zy .Lt)) as true (.bl (decide (i<j))):=zi ha hb rfl rfl
def V0(ha:WD a as s (.int i))(hb:WD b as t (.int j)):WD (f2 a b (zy .Gt)) as true (.bl (decide (j<i))):=zi ha hb rfl rfl
def zF(h:WD f as s x)(e:truth x=some c):WT (fT f) as c:=by
 unfold WT fT;unfold WD at h;rw[h];show((truth x).bind _)=_;rw[e];rfl
def Ti(h:WT c as k):WT (YN c) as (!k):=by unfold WT YN at *;rw[h];rfl
def ZK(h:WT c as k)(h2:k=true->WT e as l)(h3:k=false->l=false):WT (Wp c e) as l:=by
 unfold WT Wp at *;rw[h];cases k with
 |true=>exact h2 rfl
 |false=>rw[h3 rfl];rfl
def Us(h:WT c as k)(h2:k=false->WT e as l)(h3:k=true->l=true):WT (XM c e) as l:=by
 unfold WT XM at *;rw[h];cases k with
 |false=>exact h2 rfl
 |true=>rw[h3 rfl];rfl
def RS(h:WD a as s (.bl k))(h2:k=true->WD b as true (.bl l))(h3:k=false->l=false):WD (Nl a b) as true (.bl l):=by
 unfold WD Nl at *;rw[h];cases k with
 |true=>exact h2 rfl
 |false=>rw[h3 rfl];rfl
def zt:WA aN as []:=rfl
def zg(ha:WD a as s x)(hr:WA fr as rs):WA (aC a fr) as ((s,x)::rs):=by
 unfold WA aC at *;unfold WD at ha;rw[ha];show((fr as).bind _)=_;rw[hr];rfl
theorem QI:∀rs:List (Bool×D),Z1 as (rs.map (λx=>.ow (.lf x.1 x.2)))=some (rs.map λx=>(zN x.2||x.1,x.2))
 | []=>rfl
 |r::a=>by
  show(Os as (.ow (.lf r.1 r.2))).bind _=_;show(Z1 as (a.map _)).bind _=_;rw[QI a];rfl
theorem Y3:∀rs:List (Bool×D),views as (rs.map (λx=>.ow (.lf x.1 x.2)))=some (rs.map (·.2),some (rs.all (·.1)))
 | []=>rfl
 |r::a=>by
  show(views as (a.map _)).bind _=_;rw[Y3 a];rfl
def yX(ha:WA fr as rs)(hg:g (rs.map λx=>(zN x.2||x.1,x.2))=some (.lf s x)):WD (zp fr g) as s x:=by
 unfold WD zp;unfold WA at ha;rw[ha];show(Z1 as _).bind _=_;rw[QI];show(g _).bind _=_;rw[hg];rfl
def Zq(ha:WA fr as rs)(hg:g (rs.map λx=>(zN x.2||x.1,x.2))=some o):zp fr g as=some (.ow o,as):=by
 unfold zp;unfold WA at ha;rw[ha];show(Z1 as _).bind _=_;rw[QI];show(g _).bind _=_;rw[hg];rfl
def EL(ha:WA fr as rs)(hg:g (rs.map (·.2))=some (.im x)):WD (fP fr g) as (zN x||rs.all (·.1)) x:=by
 unfold WD fP;unfold WA at ha;rw[ha];show(views as _).bind _=_;rw[Y3];show(g _).bind _=_;rw[hg];show(if(zN x||(some (rs.all (·.1))).isSome)=true then _ else _:Option RV).bind _=_;rw[if_pos (by simp)];rfl
def xh(ha:WA fr as rs)(hg:g (rs.map (·.2))=some (.im x))(e:zN x=true):WD (fP fr g) as true x:=by
 have:=EL ha hg;rw[e]at this;exact this
def zJ:WO dN as []:=rfl
def ze{fr:DF}{os:List O}(ha:WD a as s x)(hr:WO fr as os):WO (dC a fr) as (.lf s x::os):=by
 unfold WO dC at *;unfold WD at ha;rw[ha];show((fr as).bind _)=_;rw[hr];rfl
def xt{fr:DF}{os:List O}(h:WO fr as os)(hl:os.length<=sizeLine):yF fr as=some (.ow (.nd .ls os),as):=by
 unfold yF;unfold WO at h;rw[h];show(if os.length<=sizeLine then _ else _)=_;rw[if_pos hl]
def zV{f g:SF}{as1:AS}{o:Option Out}(h1:f as=some (.nx as1))(h2:g as1=o):zm f g as=o:=by unfold zm;rw[h1];exact h2
def UZ{f g:SF}{o:O}(h1:f as=some (.rt o)):zm f g as=some (.rt o):=by unfold zm;rw[h1];rfl
def wd{c:TF}{f g:SF}{o:Option Out}(h:WT c as true)(h1:f as=o):xx c f g as=o:=by unfold xx;unfold WT at h;rw[h];exact h1
def zL{c:TF}{f g:SF}{o:Option Out}(h:WT c as false)(h1:g as=o):xx c f g as=o:=by unfold xx;unfold WT at h;rw[h];exact h1
def yj{i:Nat}{st:Bool}(h:WD f as s x)(hi:i<as.length):zz st i f as=some (.nx (as.set i (some (.lf s x)))):=by
 unfold zz;unfold WD at h;rw[h];cases st<;>exact if_pos hi
def yI{i:Nat}{o:O}(h:f as=some (.ow o,as))(hi:i<as.length):zz false i f as=some (.nx (as.set i (some o))):=by
 unfold zz;rw[h];exact if_pos hi
def Cm{i:Nat}{o:O}(h:f as=some (.ow o,as))(hi:i<as.length):zz true i f as=some (.nx (as.set i (some o.frz))):=by
 unfold zz;rw[h];exact if_pos hi
def wq(h:WD f as true x):zT f as=some (.rt (.lf true x)):=by unfold zT;unfold WD at h;rw[h];rfl
def vr(hl:ds.length=m)(h:c (ZV n ds)=some (.rt o)):wK n m c ds=some o:=by unfold wK;rw[if_pos hl,h];rfl
theorem yJ{g:GF}{f:SF}(I:Nat->AS->Prop):∀(xs:List wx) (k:Nat) (as:AS),(∀i x as,xs[i]? = some x->I (k+i) as->∃as1,g x as=some as1/\∃as2,f as1=some (.nx as2)/\I (k+i+1) as2)->I k as->∃as',forL g f xs as=some (.nx as')/\I (k+xs.length) as'
 | [],k,as,_,h=>⟨as,rfl,h⟩
 |x::r,k,as,d,h=>by
  obtain⟨a,j,b,l,m⟩:=d 0 x as rfl h;obtain⟨c,n,o⟩:=yJ I r (k+1) b (λi y as e q=>by
   obtain⟨u,p,v,s,t⟩:=d (i+1) y as e (by rw[show k+(i+1)=k+1+i by omega];exact q);exact⟨u,p,v,s,by rw[show k+1+i+1=k+(i+1)+1 by omega];exact t⟩) m
  refine⟨c, ?_,by rw[zzT,show k+(r.length+1)=k+1+r.length by omega];exact o⟩;show(g x as).bind _=_;rw[j];show(f a).bind _=_;rw[l];exact n
def yH{fi:IF}{g:GF}{f:SF}{xs:List wx}{as':AS}{o:Option Out}(h:fi as=some (xs,as'))(h2:forL g f xs as'=o):yM fi g f as=o:=by unfold yM;rw[h];exact h2
def xg{lo:Int}{n i:Nat}{x:wx}(h:(y6 lo n)[i]? = some x):x=(true,.int (lo+i))/\i<n:=by
 unfold y6 at h;rw[zzI]at h;cases e:(List.range n)[i]? with
 |none=>rw[e]at h;cases h
 |some k=>
  rw[e]at h;obtain⟨a,b⟩:=zzG.mp e;rw[zyU]at a;rw[List.getElem_range]at b;subst b;exact⟨(zzZ h).symm,a⟩
def yO(h:WA fr as [(u,.int j)])(h0:0<=j)(h1:j<1000000):ya fr yb as=some (y6 0 j.toNat,as):=by
 unfold ya;unfold WA at h;rw[h];simp only[zyL,Y3];show((if -(2 ^ 62)<=j/\j<2 ^ 62 then some (y6 0 j.toNat)else none).bind _)=_;rw[if_pos ⟨by omega,by omega⟩];rfl
def Sh(ha:a as=some (.ow o,as))(hr:WA fr as rs):WA (aC a fr) as ((o.str,o.toD)::rs):=by
 unfold WA aC at *;rw[ha];show((fr as).bind _)=_;rw[hr];rfl
def Zo{i:Nat}{o:O}(h:as[i]? = some (some o)):RV.view as (.bo i)=some (o.toD,o.kl):=by simp only[RV.view,h]
def Se{i:Nat}{o:O}(h:as[i]? = some (some o)):OO as (.bo i)=some (o.frz,as.set i (some o.frz)):=by simp only[OO,h]
def CY{i:Nat}{o:O}(h:as[i]? = some (some o))(hs:o.str=true):OC as (.bo i)=some o:=by simp only[OC,h,hs,if_true]
def Xc{i:Nat}{k:Kind}{os:List O}(h:as[i]? = some (some (.nd k os))):fV i as=some (.bo i,as):=by unfold fV;rw[h]
def DV{i:Nat}{os:List O}(h:as[i]? = some (some (.nd .ls os))):WD (fP (aC (fV i) aN) vm) as true (.int os.length):=by
 have e:views as [.bo i]=some ([.lst (O.toDs os)],meet (O.nd .ls os).kl (some true)):=by
  show(RV.view as (.bo i)).bind _=_;rw[Zo h];rfl
 unfold WD fP aC;rw[Xc h];simp only[zyL,aN,RV.frz,e];rw[show vm [.lst (O.toDs os)]=some (.im (.int os.length)) by show some (R0.im (.int ((O.toDs os).length:Nat)))=_;rw[Xd]];rfl
def y8{g:GF}{f:SF}{d:wx}{r:List wx}{as1 as2:AS}{o:Option Out}(h1:g d as=some as1)(h2:f as1=some (.nx as2))(h3:forL g f r as2=o):forL g f (d::r) as=o:=by
 show(g d as).bind _=_;rw[h1];show(f as1).bind _=_;rw[h2];exact h3
def L6{g:GF}{f:SF}{d:wx}{r:List wx}{as1:AS}{o:O}(h1:g d as=some as1)(h2:f as1=some (.rt o)):forL g f (d::r) as=some (.rt o):=by
 show(g d as).bind _=_;rw[h1];show(f as1).bind _=_;rw[h2];rfl
def Hs{i:Nat}{os:List O}(h:as[i]? = some (some (.nd .ls os)))(hl:os.length<sizeLine)(ha:WD a as s x):yB (yZ i (dC a dN) y9) as=some (.nx (as.set i (some (.nd .ls (os++[.lf s x]))))):=by
 unfold yB yZ;rw[h];have e:dC a dN as=some ([.lf s x],as):=ze ha zJ;show((dC a dN as).bind _).bind _=_;rw[e];show(Option.bind (match as[i]? with|some (some (.nd .ls os))=>_|_=>none) _)=_;rw[h];show((y9 os [.lf s x]).bind _).bind _=_;have e2:y9 os [.lf s x]=some (os++[.lf s x],.lf true .non):=by unfold y9;exact if_pos hl
 rw[e2];rfl
def HU{i:Nat}{os:List O}{k:Int}{o:O}(h:as[i]? = some (some (.nd .ls os)))(ha:WD a as s (.int k))(h0:0<=k)(h1:k<os.length)(hs:os.length<2 ^ 60)(ho:os[k.toNat]? = some o):yZ i (dC a dN) WV as=some (.ow o,as.set i (some (.nd .ls (os.eraseIdx k.toNat)))):=by
 unfold yZ;rw[h];have e:dC a dN as=some ([.lf s (.int k)],as):=ze ha zJ;show((dC a dN as).bind _)=_;rw[e];show(match as[i]? with|some (some (.nd .ls os))=>_|_=>none)=_;rw[h];show((WV os [.lf s (.int k)]).bind _)=_;have e2:WV os [.lf s (.int k)]=some (os.eraseIdx k.toNat,o):=by
  unfold WV;show(if -(2 ^ 63)<=k/\k<2 ^ 63 then _ else _)=_;rw[if_pos ⟨by omega,by omega⟩];have e3:seqIndex? k os.length=some k.toNat:=by unfold seqIndex?;simp;omega
  rw[e3];show((os[k.toNat]?).bind _)=_;rw[ho];rfl
 rw[e2];rfl
def Du(h:f as=some (.ow o,as))(hg:g (o.str,o.toD) as=some as'):vS f g as=some (.nx as'):=by
 unfold vS;rw[h];show(g (o.str,o.toD) as).bind _=_;rw[hg];rfl
def FC{i:Nat}{o:O}(h:as[i]? = some (some o))(hs:o.str=true):zT (fV i) as=some (.rt o):=by
 cases o with
 |lf a d=>unfold zT fV;rw[h];have:a=true:=hs;subst this;rfl
 |nd k b=>
  unfold zT;rw[Xc h];show(OC as (.bo i)).bind _=_;rw[CY h hs];rfl
def WI{fr:DF}{os:List O}(h:WO fr as os)(hl:os.length<=sizeLine)(ha:os.all O.isLf=true):WD (zY fr) as (O.strs os) (.tup (O.toDs os)):=by
 unfold WD zY;unfold WO at h;rw[h];show(if os.length<=sizeLine then some (RV.ow (Zw os),as)else _)=_;rw[if_pos hl];unfold Zw;rw[if_pos ha]
def JW(ha:a as=some (.ow oa,as1))(hb:b as1=some (.ow ob,as2))(hg:g oa.toD ob.toD=some (.fl zs)):f2 a b g as=some (.ow (.nd .ls (zs.map (K8 (oa.str&&ob.str)))),as2):=by
 unfold f2;rw[ha];show((b as1).bind _)=_;rw[hb];show((g oa.toD ob.toD).bind _)=_;rw[hg];show(if(zs.all zN||(meet (some oa.str) (some ob.str)).isSome)=true then _ else _:Option RV).bind _=_;rw[if_pos (by unfold meet;simp)];rfl
def zZ(ha:WD a as true x)(hb:WD b as true y)(hg:g x y=some (.im z)):WD (f2 a b g) as true z:=by
 have:=Jq ha hb hg;rw[show(zN z||(true&&true))=true by simp]at this;exact this
theorem Xy:∀zs:List D,zs.map (K8 true)=zs.map (O.lf true)
 | []=>rfl
 |z::r=>by
  show K8 true z::r.map (K8 true)=_;rw[Xy r];unfold K8;rw[zyD];rfl
def CH(ha:a as=some (.ow oa,as1))(hb:b as1=some (.ow ob,as2))(hg:g oa.toD ob.toD=some (.fl zs))(h1:oa.str=true)(h2:ob.str=true):f2 a b g as=some (.ow (.nd .ls (zs.map (O.lf true))),as2):=by
 have:=JW ha hb hg;rw[h1,h2,show(true&&true)=true from rfl,Xy]at this;exact this
def yD{fr:DF}{o:O}{os:List O}{as1 as2:AS}(ha:a as=some (.ow o,as1))(hr:fr as1=some (os,as2)):dC a fr as=some (o::os,as2):=by
 unfold dC;rw[ha];show((fr as1).bind _)=_;rw[hr];rfl
def add_lists(h:xs.length+ys.length<=sizeLine):WJ .Add (.lst xs) (.lst ys)=some (.fl (xs++ys)):=if_pos h
def QE(lo:Int)(n:Nat):y6 lo (n+1)=(true,.int lo)::y6 (lo+1) n:=by
 unfold y6;rw[List.range_succ_eq_map,zyS,zyB]
 congr 1
 . simp
 . apply List.map_congr_left;intro i _;show(true,D.int _)=(true,D.int _)
   congr 2
   show lo+((i+1:Nat):Int)=_;omega
def N_(ha:WA fr as rs)(hg:g (rs.map (·.2))=some (.im x))(e:rs.all (·.1)=true):WD (fP fr g) as true x:=by
 have:=EL ha hg;rw[e,zyD]at this;exact this
def Vi(ha:WD a as s y)(ht:OQ ty y=true)(hr:WA fr as rs)(hg:g y (rs.map (·.2))=some (.im x))(e:zN x=true):WD (wm ty a fr g) as true x:=by
 unfold WD wm;unfold WD at ha;unfold WA at hr;rw[ha];show(if OQ ty y=true then _ else _:Option (RV×AS))=_;rw[if_pos ht,hr];simp only[zyL,Y3];show((g y (rs.map (·.2))).bind _)=_;rw[hg];show(if(zN x||_)=true then _ else _:Option RV).bind _=_;rw[if_pos (by rw[e];rfl)];show some (RV.ow (.lf (zN x||_) x),as)=_;rw[e];rfl
def Ss{fl fh:OF}{lo hi:Option Int}{g:D->Option Int->Option Int->Option R0}(ha:WD a as s y)(hl:fl as=some (lo,as))(hh:fh as=some (hi,as))(hg:g y lo hi=some (.im x)):WD (Qr a fl fh g) as (zN x||s) x:=by
 unfold WD Qr;unfold WD at ha;rw[ha];show((fl as).bind _)=_;rw[hl];show((fh as).bind _)=_;rw[hh];show((g y lo hi).bind _)=_;rw[hg];show(if(zN x||(some s).isSome)=true then _ else _:Option RV).bind _=_;rw[if_pos (by simp)];rfl
def ZX{fi:IF}{cap:List (Option Nat)}{g:GF}{tt:TF}{fe:EF}{xs:List wx}{os:List O}(h1:fi as=some (xs,as))(hl:xs.length<=sizeLine)(h2:yR g tt fe (wk cap as) xs=some os):zq fi cap g tt fe as=some (.ow (.nd .ls os),as):=by
 unfold zq;rw[h1];show(if xs.length<=sizeLine then _ else _)=_;rw[if_pos hl];show(yR g tt fe (wk cap as) xs).bind _=_;rw[h2];rfl
def He(ha:fr as=some (rs,as))(hx:Z1 as rs=some xs)(hg:g xs=some o):zp fr g as=some (.ow o,as):=by
 unfold zp;rw[ha];show(Z1 as rs).bind _=_;rw[hx];show(g xs).bind _=_;rw[hg];rfl
end
def wC(h:Nat.ble n 1000=true):n<=sizeLine:=Nat.le_of_lt (xF (Nat.le_of_ble_eq_true h))
def zl(h:Nat.ble (a+1) b=true):a<b:=Nat.le_of_ble_eq_true h
def zO(h0 : -(10 ^ 200)<i)(h1:i<10 ^ 200):i.natAbs<big:=by
 have:(10:Nat) ^ 200<big:=by unfold big;decide +kernel
 have e:((10 ^ 200:Nat):Int)=(10:Int) ^ 200:=by norm_cast
 have:(i.natAbs:Int)<((10 ^ 200:Nat):Int):=by rw[e];omega
 omega
def Cs{ns:List Int}{k:Int}(h0:0<=k)(h1:k<ns.length):∃x,zk (.lst (ns.map D.int)) (.int k)=some (.im (.int x)):=by
 have a:k.toNat<ns.length:=by omega
 refine⟨ns[k.toNat], ?_⟩;have h:=vZ (xs:=ns.map D.int) (j:=k.toNat) (v:=D.int ns[k.toNat]) (by rw[zzI,zzE a];rfl);rw[show((k.toNat:Nat):Int)=k by omega]at h;show BZ (La _ _)=_;rw[h];rfl
section
variable{X:Cx}{kd:KD}{K:zzA}{mg:Str->Option Value}
def qL(K:zzA)(g:Fn):Sp:=λvs H Q E=>∀kd:KD,JQ K kd g vs H Q E
end
noncomputable def Ks(fa fb fc:EF)(g g':D->D->Option R0):EF:=λas=>(fa as).bind λp=>(fb p.2).bind λq=>(p.1.frz.view q.2).bind λx=>(q.1.frz.view q.2).bind λy=>(g x.1 y.1).bind λr=>match r with
 | .im (.bl true)=>(fc q.2).bind λt=>(q.1.frz.view t.2).bind λy'=>(t.1.frz.view t.2).bind λz=>(g' y'.1 z.1).bind λr'=>(wrap (meet y'.2 z.2) r').bind λo=>some (o,t.2)
 | .im (.bl false)=>some (.ow (.lf true (.bl false)),q.2)
 |_=>none
section
variable{X:Cx}{kd:KD}{a b c:Expr}{fa fb fc:EF}{pos:Pos}
def Ht(ho:J3 X kd (compareOp op) g)(ho':J3 X kd (compareOp op') g')(ha:AE X kd a fa)(hb:AE X kd b fb)(hc:AE X kd c fc)(hm:lastMarks [op,op'] [b,c]=false):
 AE X kd (.Compare a [op,op'] [b,c] pos) (Ks fa fb fc g g'):=by with_unfolding_all exact(yE (ON ho ho' ha hb hc hm) λσ H Q h=>by
 obtain⟨F,B,ad,as,r,O,R,e,q⟩:=h;obtain⟨⟨p,P⟩,S,e⟩:=bS_ (show(fa as).bind _=_ from e);obtain⟨⟨z,j⟩,T,e⟩:=bS_ e;obtain⟨⟨x,U⟩,V,e⟩:=bS_ e;obtain⟨⟨y,W⟩,Y,e⟩:=bS_ e;obtain⟨K,Z,e⟩:=bS_ e;refine wH R S λv ad1 H1 R1 k L=>wH R1 T λu l H2 R2 d m=>⟨_,x,y,K,R2.tr (meet U W),(xq.vw R2 (k.grow m) V).less Qn.meet1,(xq.vw R2 d Y).less Qn.meet2,Z, ?_⟩
 match K,e with
 | .im (.bl true),e=>
  obtain⟨⟨t,as3⟩,h6,e⟩:=bS_ (show(fc j).bind _=_ from e);obtain⟨⟨y',n⟩,h7,e⟩:=bS_ e;obtain⟨⟨z',s⟩,h8,e⟩:=bS_ e;obtain⟨r1,h9,e⟩:=bS_ e;obtain⟨o,A,e⟩:=bS_ e;cases e;intro w M C D;cases D;obtain⟨E,f⟩:=R2.more C;refine⟨true,rfl, ?_⟩;rw[if_pos rfl];refine wH E h6 λw' G H4 i I N=>⟨_,y',z',r1,i.tr (meet n s),(xq.vw i ((d.grow f).grow N) h7).less Qn.meet1,(xq.vw i I h8).less Qn.meet2,h9, ?_⟩;exact Za i A λw T' H' R' J g'=>q w T' G H' R' J ((((L.trans m).trans f).trans N).trans g')
 | .im (.bl false),e=>
  cases e;intro w M C D;cases D;obtain⟨E,f⟩:=R2.more C;refine⟨false,rfl, ?_⟩;rw[if_neg zyW];exact q _ [] l M E (.lf (.bl _)) ((L.trans m).trans f))
end
noncomputable def Wz:List D->Option (List Bool)
 | []=>some []
 | .bl b::r=>(Wz r).bind λs=>some (b::s)
 |_::_=>none
noncomputable def Ea:List D->Option R0
 | [.lst ds]=>(Wz ds).bind λbs=>some (.im (.bl (bs.all id)))
 |_=>none
theorem Mb{K:zzA}{kd:KD}{O:Addr->Prop}{H:Hp}:∀{vs:List V}{us:List Value}{ds:List D}{bs:List Bool},RpL K kd O H vs ds->z_ vs us->Wz ds=some bs->LSm.BoolsAre us bs
 |_,_,_,_,.nil,.nil,e=>by cases e;exact .nil
 |_,_,_,_,.cons (d:=d) a r,.cons b t,e=>by
  cases d with
  |bl c=>
   obtain⟨s,f,g⟩:=bS_ (show(Wz _).bind _=_ from e);cases g;cases a;cases b;exact .cons _ (Mb r t f)
  |_=>cases e
section
variable{X:Cx}{kd:KD}
def FW{h h':Heap}{ob:Obj}(hk:∀b x,b ∉ [h.objs.size]->(h.push ob).get? b=some x->h'.get? b=some x)(b:Addr)(x:Obj)(e:h.get? b=some x):h'.get? b=some x:=by
 refine hk b x (λm=>?_) (zxI _ e);have:=zxJ e;rw[zzR.mp m]at this;exact absurd this (Nat.lt_irrefl _)
def FV(hc:X.calm=true):YJ X kd (.builtin "all") Ea:=by
 intro g s σ H E F Q I r h;obtain⟨O,G,z,J,m,c,q⟩:=h;unfold Ea at c
 split at c
 . obtain⟨bs,n,c⟩:=bS_ c;cases c;obtain⟨x,rfl,o⟩:=U7 m;cases o with
   |lst t w=>
    rename_i l K;obtain⟨u,rfl,y⟩:=vals1 r;cases y;obtain⟨a,B,p,_⟩:=I.list t.sq;have j:=Mb w B n;have d:=p.isList;have f:l<s.heap.objs.size:=by obtain⟨_,e,_⟩:=d;exact zxJ e
    refine call_all_walk (wpAny_pyIter_list d ?_);refine⟨s.heap.objs.size,[s.heap.objs.size,l],[s.heap.objs.size],a.toArray.size,_,_,(λi=>(bs[i]?).getD true),rfl,Walks.list (A:=X.A.in1) (I.ok.hd hc) _ l (zzQ f) a.toArray,⟨⟨_,zxK _ rfl,rfl,rfl⟩,d.push _⟩, ?_, ?_⟩
    . intro i v L M N C k;obtain⟨b,e,rfl⟩:=j.get i v (by simpa using C);simp only[e,Option.getD_some]at k;exact wpAny_truthy_bool k
    . intro P R D;have e:((List.range a.toArray.size).all λi=>(bs[i]?).getD true)=bs.all id:=by
       rw[zzH,j.length];exact LSm.range_all bs
      rw[e];exact⟨.bl (bs.all id),H,I.kept (FW D),rfl,yg q (.bl _)⟩
 . cases c
end
def ql:O->Option (Bool×D)
 | .lf s d=>some (s,d)
 |_=>none
def SW(h:ql o=some p):o = .lf p.1 p.2:=by
 cases o with
 |lf s d=>cases h;rfl
 |nd k a=>cases h
noncomputable def B8(i j:Nat)(fd:DF):SF:=λas=>(fd as).bind λp=>(C9 p.1).bind λo=>(ql o.1).bind λa=>(ql o.2).bind λb=>if i<p.2.length/\j<p.2.length then some (.nx ((p.2.set i (some (.lf a.1 a.2))).set j (some (.lf b.1 b.2))))else none
section
variable{X:Cx}{kd:KD}{a b:Expr}{fd:DF}{pos:Pos}
def DM(hc:X.calm=true)(hN:X.N.Nodup)(hi:X.N[i]? = some x)(hj:X.N[j]? = some y)(hij:i≠j)
 (hx:X.env.scope.names.lookup x=some .local) (hy:X.env.scope.names.lookup y=some .local) (ha:AD X kd [a,b] fd)
 (hw:swappedStores [.Tuple [.Name x px,.Name y py] kt pt] (.Tuple [a,b] k2 pt2) X.env=pure (some [x,y]))
 (hs:swapsWithSole [.Tuple [.Name x px,.Name y py] kt pt] (.Tuple [a,b] k2 pt2) pos.line X.env=pure false):
 Tt X kd (.Assign [.Tuple [.Name x px,.Name y py] kt pt] (.Tuple [a,b] k2 pt2) pos) (B8 i j fd):=by with_unfolding_all exact(wo (DT hc hN hi hj hij hx hy ha hw hs) λD σ H h=>by
 obtain⟨F,B,k,as,o,R,e,q⟩:=h;obtain⟨⟨J,d⟩,l,e⟩:=bS_ (show(fd as).bind _=_ from e);obtain⟨⟨K,L⟩,m,e⟩:=bS_ e;obtain⟨⟨n,p⟩,r,e⟩:=bS_ e;obtain⟨⟨s,t⟩,u,e⟩:=bS_ e;cases KG m;cases SW r;cases SW u
 . obtain⟨⟨v,w⟩,e⟩:=zM e;cases e;refine⟨F,B,k,as,_,d,R,l,λM O A P C E g=>?_⟩;cases E with
   |cons f c=>
    cases c with
    |cons c G=>
     cases G;cases f with
     | lf f =>
            cases c with
            |lf c=>
             refine⟨_,_,rfl, ?_⟩;have R2:=C.put (T:=[]) (i:=i) (o:=.lf n p) v (.lf f);have I:=R2.put (T:=[]) (i:=j) (o:=.lf s t) (by rw[zzU];exact w) (w5.less xG (.lf c));exact q _ _ _ I (g.trans (Grow.less λa z=>xG a (xG a z))))
end
inductive Ents(w:World):List DictEntry->List (Key×V)->Prop
 |nil:Ents w [] []
 |str {x:Str}{t:Tok}{v:V}{u:Value}{r:List DictEntry}{s:List (Key×V)}:RelV v u->Ents w r s->Ents w (⟨PyData.keyHash w.params x,.str x t,u⟩::r) ((.inr x,v)::s)
theorem Ents.keys:∀{es:List DictEntry}{kvs:List (Key×V)},Ents w es kvs->∀e ∈ es,∃k,(yN P w).is k e.key=true/\e.hash=(yN P w).hash k
 |_,_,.nil,_,m=>nomatch m
 |_,_,.str (x:=x) (t:=t) _ r,e,m=>by
  rcases zzC.mp m with rfl|m
  . exact⟨.inr x,YX P w x t,rfl⟩
  . exact r.keys e m
theorem Ents.pairs:∀{es:List DictEntry}{kvs:List (Key×V)},Ents w es kvs->∃vs,KV kvs vs/\Pairs (yN P w) es vs/\vs.map (·.1)=kvs.map (·.1)
 |_,_,.nil=>⟨[],.nil,.nil,rfl⟩
 |_,_,.str (x:=x) (t:=t) (u:=u) h r=>by
  obtain⟨a,b,c,d⟩:=r.pairs (P:=P);exact⟨(.inr x,u)::a,.cons ⟨rfl,h⟩ b,.cons (YX P w x t) rfl c,by rw[zyS,zyS,d]⟩
structure DctAt(w:World)(K:zzA)(a:Addr)(kvs:List (Key×V)):Prop where
 ex:∃es ep,K.lookup a=some {cls:=.type "dict",data:=.dict es ep}/\Ents w es.toList kvs
 nd:(kvs.map (·.1)).Nodup
 le:kvs.length<=sizeLine
 ns:(a==sysModules)=false
def rZ(l:List (Addr×List (Key×V)))(c:Str->Addr:=λ_=>0):KD:=⟨λa k=>l.lookup a=some k,c⟩
def lookup_mem{l:List (Addr×List (Key×V))}{a:Addr}{k:List (Key×V)}(h:l.lookup a=some k):(a,k) ∈ l:=by
 induction l with
 |nil=>cases h
 |cons p r b=>
  rw[List.lookup_cons]at h
  by_cases e:a=p.1
  . subst e;rw[beq_self_eq_true]at h;cases h;exact zzF
  . rw[show(a==p.1)=false from beq_eq_false_iff_ne.mpr e]at h;exact zzD _ (b h)
def Aj{P:Program}{w:World}{K:zzA}{l:List (Addr×List (Key×V))}{c:Str->Addr}(h:∀p ∈ l,DctAt w K p.1 p.2):vd P w K (rZ l c):=λX n o r=>by
 subst n;subst o;subst r;refine⟨λa k v b d=>zzZ (b.symm.trans d),λa k b=>?_,λa k y b f=>?_⟩
 . obtain⟨g,i,e,_⟩:=(h _ (lookup_mem b)).ex;exact⟨_,e⟩
 . have q:=h _ (lookup_mem b);obtain⟨g,i,e,j⟩:=q.ex;obtain⟨s,d,t,u⟩:=j.pairs (P:=X.prog);refine⟨q.le,q.ns,s,d,_,g,i,f _ _ e,⟨rfl,rfl,rfl⟩,rfl,λx m=>j.keys x (by simpa using m),t,by rw[u];exact q.nd⟩
def isStar:Expr->Bool
 | .Starred .. => true
 |_=>false
def GN(h:isStar a=false):starEach (a::es) env=(false,eval a env)::starEach es env:=by
 cases a<;>first|rfl|cases h
section
variable{as:AS}{f a b c:EF}{s t u:Bool}{x y z:D}{i j k:Int}
def AC(h:WD f as s x)(ho:Mu x=true:=by rfl):WD (Eo f cl) as true (.bl (G4 (Dx x) cl)):=by
 unfold WD Eo at *;rw[h];show(if Mu x=true then _ else _)=_;rw[if_pos ho];rfl
def Mq(h:WD f as s x)(e:G4 (Dx x) cl=q)(ho:Mu x=true:=by rfl):WD (Eo f cl) as true (.bl q):=by subst e;exact AC h ho
def GC{fl fh:OF}{lo hi:Option Int}{g:D->Option Int->Option Int->Option R0}(ha:WD a as true y)(hl:fl as=some (lo,as))(hh:fh as=some (hi,as))(hg:g y lo hi=some (.im x)):WD (Qr a fl fh g) as true x:=by
 have:=Ss ha hl hh hg;rw[zyD]at this;exact this
def Ah(h:WD f as s (.bl q)):WD (OW f) as true (.bl (!q)):=by
 unfold WD OW at *;rw[h];rfl
def Ke(h:WT cc as true)(h1:g as=some (.nx as1))(h2:Mn cc g n as1=o):Mn cc g (n+1) as=o:=by
 unfold WT at h;show(cc as).bind _=_;rw[h];show(g as).bind _=_;rw[h1];exact h2
def K1(h:WT cc as false):Mn cc g (n+1) as=some (.nx as):=by
 unfold WT at h;show(cc as).bind _=_;rw[h];rfl
def Am(h:WT cc as true)(h1:g as=some (.rt o)):Mn cc g (n+1) as=some (.rt o):=by
 unfold WT at h;show(cc as).bind _=_;rw[h];show(g as).bind _=_;rw[h1];rfl
def Av(h:WO fd as [.lf s x,.lf t y])(hi:p<as.length)(hj:q<as.length):B8 p q fd as=some (.nx ((as.set p (some (.lf s x))).set q (some (.lf t y)))):=by
 unfold B8;unfold WO at h;rw[h];show(if _ then _ else _)=_;rw[if_pos ⟨hi,hj⟩]
def GK(h1:g w as0=some as1)(h2:WT tt as1 false)(h3:yR g tt fe as0 r=o):yR g tt fe as0 (w::r)=o:=by
 unfold WT at h2;show(g w as0).bind _=_;rw[h1];show(tt as1).bind _=_;rw[h2];exact h3
def Bd{g:GF}{tt:TF}{fe:EF}{as0 as1:AS}{w:wx}{r:List wx}{os:List O}(h1:g w as0=some as1)(h2:WT tt as1 true)(h3:WD fe as1 true x)(h4:yR g tt fe as0 r=some os):yR g tt fe as0 (w::r)=some (.lf true x::os):=by
 unfold WT at h2;unfold WD at h3;show(g w as0).bind _=_;rw[h1];show(tt as1).bind _=_;rw[h2];show(fe as1).bind _=_;rw[h3];show(yR g tt fe as0 r).bind _=_;rw[h4];rfl
def WE(f:EF)(as:AS)(x:D):Prop:=∃o,f as=some (.ow o,as)/\o.str=true/\o.toD=x
def RE(r:Option O)(x:D):Prop:=∃o,r=some o/\o.str=true/\o.toD=x
def WD.e(h:WD f as true x):WE f as x:=⟨_,h,rfl,rfl⟩
def xu{fr:DF}{os:List O}(h:WO fr as os)(hl:os.length<=sizeLine)(hs:O.strs os=true)(e:D.lst (O.toDs os)=x):WE (yF fr) as x:=⟨_,xt h hl,hs,e⟩
def vk(h:WE a as x)(hr:WA fr as rs):WA (aC a fr) as ((true,x)::rs):=by
 obtain⟨o,b,c,rfl⟩:=h;have:=Sh b hr;rw[c]at this;exact this
def xp(ha:WE a as x)(hg:RE (g [(true,x)]) z):WE (zp (aC a aN) g) as z:=by
 obtain⟨o,b,c,d⟩:=hg;exact⟨o,Zq (vk ha zt) (by show g [(zN x||true,x)]=_;rw[zyD];exact b),c,d⟩
def vU(ha:WE a as x)(hb:WE b as y)(hg:RE (g [(true,x),(true,y)]) z):WE (zp (aC a (aC b aN)) g) as z:=by
 obtain⟨o,c,d,e⟩:=hg;exact⟨o,Zq (vk ha (vk hb zt)) (by show g [(zN x||true,x),(zN y||true,y)]=_;rw[zyD,zyD];exact c),d,e⟩
def vf(ha:WE a as x)(hb:WE b as y)(hc:WE c as w)(hg:RE (g [(true,x),(true,y),(true,w)]) z):WE (zp (aC a (aC b (aC c aN))) g) as z:=by
 obtain⟨o,d,e,f⟩:=hg;exact⟨o,Zq (vk ha (vk hb (vk hc zt))) (by show g [(zN x||true,x),(zN y||true,y),(zN w||true,w)]=_;rw[zyD,zyD,zyD];exact d),e,f⟩
def JO(ha:WE a as x)(hb:WE b as y)(hc:WE c as w)(hg:g [(true,x),(true,y),(true,w)]=some (.lf s z)):WD (zp (aC a (aC b (aC c aN))) g) as s z:=Zq (vk ha (vk hb (vk hc zt))) (by show g [(zN x||true,x),(zN y||true,y),(zN w||true,w)]=_;rw[zyD,zyD,zyD];exact hg)
def FN(ha:WE a as x)(hb:WE b as y)(hg:g x y=some (.im z)):WD (f2 a b g) as true z:=by
 obtain⟨o,c,d,rfl⟩:=ha;obtain⟨p,e,f,rfl⟩:=hb;have:=t6 c e hg;rw[d,f,Bool.and_true,zyD]at this;exact this
def oj(ha:WE a as x)(hb:WE b as y)(hg:g x y=some (.fl zs)):f2 a b g as=some (.ow (.nd .ls (zs.map (O.lf true))),as):=by
 obtain⟨o,c,d,rfl⟩:=ha;obtain⟨p,e,f,rfl⟩:=hb;exact CH c e hg d f
theorem RT:∀zs:List D,O.strs (zs.map (O.lf true))=true
 | []=>rfl
 |_::r=>RT r
theorem QY:∀zs:List D,O.toDs (zs.map (O.lf true))=zs
 | []=>rfl
 |z::r=>congrArg (z :: ·) (QY r)
def IR(ha:WE a as x)(hb:WE b as y)(hg:g x y=some (.fl zs)):WE (f2 a b g) as (.lst zs):=⟨_,oj ha hb hg,RT zs,congrArg D.lst (QY zs)⟩
def yU(h:WE f as x)(hi:p<as.length):zz true p f as=some (.nx (as.set p (some (.lf true x)))):=by
 obtain⟨o,a,b,rfl⟩:=h;have:=Cm a hi;rw[show o.frz = .lf true o.toD by unfold O.frz;rw[b]]at this;exact this
def WQ(ha:WE a as x)(hb:WE b as y)(h:xk 60 x y=some q):WD (f2 a b (zy .Eq)) as true (.bl q):=FN ha hb (by show(xk 60 x y).bind _=_;rw[h];rfl)
def uk(ha:WE a as x)(hb:WE b as y)(h:xk 60 x y=some q):WD (f2 a b (zy .NotEq)) as true (.bl (!q)):=FN ha hb (by show(xk 60 x y).bind _=_;rw[h];rfl)
def Pg(ha:WE a as x)(hg:g [x]=some (.im z)):WD (fP (aC a aN) g) as true z:=N_ (vk ha zt) hg rfl
def vV{fr:DF}{o:O}{os:List O}(ha:a as=some (.ow o,as))(hr:WO fr as os):WO (dC a fr) as (o::os):=yD ha hr
def Mw{fr:DF}{os:List O}(h:WO fr as os)(hl:os.length<=sizeLine):zY fr as=some (.ow (Zw os),as):=by
 unfold zY;unfold WO at h;rw[h];show(if os.length<=sizeLine then some (RV.ow (Zw os),as)else _)=_;rw[if_pos hl]
def U_{fl fh:OF}{lo hi:Option Int}{g:D->Option Int->Option Int->Option R0}{zs:List D}(ha:WE a as y)(hl:fl as=some (lo,as))(hh:fh as=some (hi,as))(hg:g y lo hi=some (.fl zs)):WE (Qr a fl fh g) as (.lst zs):=by
 obtain⟨o,b,c,rfl⟩:=ha;refine⟨.nd .ls (zs.map (O.lf true)), ?_,RT zs,congrArg D.lst (QY zs)⟩;unfold Qr;rw[b];show((fl as).bind _)=_;rw[hl];show((fh as).bind _)=_;rw[hh];show((g o.toD lo hi).bind _)=_;rw[hg];show(if(zs.all zN||(some o.str).isSome)=true then some (RV.ow (.nd .ls (zs.map (K8 ((some o.str).getD false)))))else none:Option RV).bind _=_;rw[if_pos (by simp),c];show some (RV.ow (.nd .ls (zs.map (K8 true))),as)=_;rw[Xy]
def OE:T6 (.lst (xs++ys)) (some (xs.length:Int)) none=some (.fl ys):=by
 show some (R0.fl (cutD (xs++ys) (some (xs.length:Int)) none))=_
 congr 2
 unfold cutD;rw[HT.U5,HT.NN,zzJ,Nat.min_eq_left (by omega),List.drop_left,List.take_of_length_le (by omega)]
theorem Lc:∀ds:List D,kids true ds=ds.map λd=>(true,d)
 | []=>rfl
 |d::r=>by show(zN d||true,d)::kids true r=_;rw[Lc r,zyD];rfl
def P8(h:WE f as (.lst ds)):yw f as=some (ds.map λd=>(true,d),as):=by
 obtain⟨o,a,b,c⟩:=h;unfold yw;rw[a];show(L5 (o.str,o.toD)).bind _=_;rw[b,c];show some (kids true ds,as)=_;rw[Lc]
def GH(h:WD f as true (.lst ds)):Vd f as=some (ds.map λd=>(true,d),as):=by
 unfold Vd;unfold WD at h;rw[h];show some (kids true ds,as)=_;rw[Lc]
end
noncomputable def Q9:List D->Option (List Str)
 | []=>some []
 | .str x::r=>(Q9 r).bind λs=>some (x::s)
 |_::_=>none
def IT{K:zzA}{kd:KD}{O:Addr->Prop}{H:Hp}{vs:List V}{us:List Value}{ds:List D}{ns:List Str}(h:RpL K kd O H vs ds)(hv:z_ vs us)(e:Q9 ds=some ns):StrsAre us ns:=
 RpL.ind (P:=λvs ds=>∀us ns,z_ vs us->Q9 ds=some ns->StrsAre us ns) (λus ns hv e=>by cases e;cases hv;exact .nil) (λ{v d vs ds} a _ ih us ns hv e=>by
  cases hv with
  |cons b t=>
   cases a with
   |str x=>
    obtain⟨ys,h1,h2⟩:=bS_ (show(Q9 _).bind _=_ from e);cases h2;obtain⟨tk,rfl⟩:=b;exact .cons _ _ (ih _ _ t h1)
   |_=>cases e) h us ns hv e
noncomputable def EK:D->List D->Option R0
 | .str sep,[.lst ds]=>(Q9 ds).bind λys=>if(ys.map (·.length)).sum+ys.length*sep.length<=16777216 then some (.im (.str (Txt.join sep ys)))else none
 |_,_=>none
section
variable{X:Cx}{kd:KD}
def Cj:qp X kd "str.join" EK:=by
 intro b s σ H x B v C Q I c r h;obtain⟨O,d,D,E,F,e,f,a,q⟩:=h;unfold EK at a
 split at a
 . rename_i g G;obtain⟨J,i,a⟩:=bS_ a;obtain⟨j,a⟩:=zM a;cases a;cases e;obtain⟨t,rfl⟩:=c;obtain⟨y,rfl,l⟩:=U7 f;cases l with
   |lst m n=>
    obtain⟨u,rfl,o⟩:=vals1 r;cases o;obtain⟨p,w,z,_⟩:=I.list m.sq;exact join_list z.isList (IT n (by simpa using w) i) j λA k=>⟨.str _,H,I.tok _,⟨A,rfl⟩,yg q (.str _)⟩
 . cases a
noncomputable def qK:D->Option R0
 | .str x=>if x.length<=640 then(PySem.intText? x).bind λn=>some (.im (.int n))else none
 |d=>qm d
def Nw:List D->Option R0:=DI qK
def MW:YJ X kd (.type "int") Nw:=by
 intro c s σ H m e Q I r h;obtain⟨O,o,z,p,f,a,q⟩:=h;obtain⟨x,d,rfl,g,a⟩:=Qk f a;cases g with
 |str y=>
  obtain⟨j,a⟩:=ite_some' a;obtain⟨n,k,a⟩:=bS_ a;cases a;obtain⟨u,rfl,l⟩:=vals1 r;obtain⟨t,rfl⟩:=l;exact PySem.W.KIN.call_text k j ⟨.int _,H,I.tok _,⟨_,rfl⟩,yg q (.int _)⟩
 |int i=>cases a;exact GE c s σ H _ e Q I r (.inl ⟨_,rfl,yg q (.int _)⟩)
 |bl b=>cases a;exact GE c s σ H _ e Q I r (.inr ⟨_,rfl,yg q (.int _)⟩)
 |_=>cases a
end
section
variable{X:Cx}{pins:List (Addr×Obj)}{σ:List (Option V)}{H:Hp}{s:Shared}{h':Heap}
def Z0{t':Nat}{ch:List Addr}{T:Addr}{o:HO}(I:Inv X pins σ H s)(hf:∀b ∈ ch,UL X pins H b)(k:∀b u,b ∉ ch->s.heap.get? b=some u->h'.get? b=some u)(hp:s.heap.objs.size<=T)
 (new:xi X.prog X.w (upd H T o) h' T o):Inv X pins σ (upd H T o) {s with heap:=h',toks:=t'}:=by
 have d:H T=none:=I.hok.fresh hp;have h:∀b u,s.heap.get? b=some u->b≠T:=λb u e z=>absurd (zzK (zxJ e) (by rw[z];exact hp)) (Nat.lt_irrefl _);have g:∀b u,H b=some u->b ∉ ch:=λb u e z=>by have:=(hf b z).1;rw[e]at this;cases this
 refine I.step (g':=s.gens) (d':=s.drawn) (ch:=ch) (λb f=>?_) (λb o _ _ a e _=>k b o a e) (λb o _ _ a e _=>⟨o.slots,k b o a e⟩) (λb o _ e n=>by rw[zK (h b o e)];exact n)
  (λb o a e=>⟨o,k b o a e⟩) (λb i e=>by rw[zK (yq e d)];exact e) (λb o u e=>by rw[zK (yq e d)];exact e) (λb B e=>⟨#[],by rw[zK (yq e d),e];simp⟩) (λm j=>?_) (λb u e=>?_) I.bare
 . obtain⟨C,f1,f2,l,p,t⟩:=hf b f;exact⟨l,f1,p,t⟩
 . obtain⟨o,x,y,A,r⟩:=j;exact⟨o,x,y,k _ o (λz=>(hf _ z).2.1 rfl) A,r⟩
 . by_cases f:b=T
   . subst f;rw[yd]at e;cases e;exact new
   . rw[zK f]at e;refine(I.hok b u e).stay (λc v a q=>k c v ?_ q) (λc q=>by rw[zK (yq q d)];exact q) λc i q=>by rw[zK (yq q d)];exact q
     rcases a with z|z
     . rw[z];exact g b u e
     . exact g c _ z
end
def qQ(K:zzA)(a:Addr):It:=
 ⟨λi H=>∃xs x,Z5 K H a xs/\xs[i]? = some x,λi H v H'=>∃T x,H T=none/\v = .ref T/\H'=upd H T (.tup [.int i,x])/\∀xs,Z5 K H a xs->xs[i]? = some x,λi H=>∃xs,Z5 K H a xs/\xs.length<=i⟩
def FL{P:Program}{w:World}{K:zzA}{elts:List Expr}{k:Nat}{pos:Pos}(a e it:Addr)(hei:e≠it):Turn P w K (.Tuple elts k pos) (qQ K a) [e,it] e (λi h=>(∃old,IsEnum h e it i old)/\h.IsListIter it a i)where
 mem:=by simp
 obj:=λi h f b g=>by
  obtain⟨⟨m,n⟩,⟨o,O,c,d⟩⟩:=f
  rcases zzC.mp g with rfl|g
  . exact⟨_,n,λv z=>by cases z⟩
  . rw[zzR.mp g];exact⟨o,O,λv z=>by rw[d]at z;cases z⟩
 keep:=λi h h' f L=>⟨f.1.imp λm n=>L e (by simp) _ n,f.2.at λo q=>L it (by simp) o q⟩
 item:=by
  intro X B Q R S i C s σ H E I M f U;subst B Q R;obtain⟨xs,x,N,V⟩:=U;obtain⟨j,Y,p,hz⟩:=I.list N;obtain⟨u,hu,ru⟩:=Y.get V;have Z:i<j.toArray.size:=by have:=(zzG.mp hu).1;simpa using this
  obtain⟨ol,l,y,_⟩:=p.isList;have hae:a≠e:=λz=>by
   obtain⟨⟨m,n⟩,_⟩:=f;rw[z]at l;rw[show s.heap.get? e=_ from n]at l;cases l;injection y with q;exact absurd q (by decide)
  have hai:a≠it:=λz=>by
   obtain⟨_,⟨o,O,c,d⟩⟩:=f;rw[z,O]at l;cases l;rw[c]at y;injection y with q;exact absurd q (by decide)
  have W:=WalksT.enumerate (prog:=X.prog) (w:=X.w) (A:=X.A) (I.ok.hd S) e it a hei hae hai j.toArray;refine W.item i s _ _ Z ⟨f.1,f.2,p.isList⟩ λT vals h1 tk B hT D r L=>?_;obtain⟨t,v,hv,rfl⟩:=B;have:v=u:=by rw[show j.toArray[i]? = j[i]? by simp,hu]at hv;cases hv;rfl
  subst this;refine⟨_,rfl,W.go elts k pos i T {s with heap:=h1,toks:=tk} _ _ r λh2 F G=>?_⟩;have hn:H T=none:=I.hok.fresh hT;have J:=W.apart i T h1 r;have k2:∀b o,b ∉ [e,it]->s.heap.get? b=some o->h2.get? b=some o:=λb o g q=>G b o g (L b o g q);have hT2:IsTup h2 T #[.int i t,v]:=by
   obtain⟨o,q1,q2⟩:=D;exact⟨o,G T o J q1,q2⟩
  refine⟨.ref T,upd H T (.tup [.int i,x]),Z0 (s:=s) (t':=tk) (ch:=[e,it]) I M k2 hT ⟨by show 2<=sizeLine;decide,[.int i t,v],.cons ⟨t,rfl⟩ (.cons ru .nil),hT2⟩,rfl,⟨T,x,hn,rfl,rfl,λys hy=>by rw[I.list_inj hy N];exact V⟩,⟨F.1,F.2.1⟩,λb g=>?_⟩;have hbT:b≠T:=λz=>J (by rw[<-z];exact g);rw[zK hbT];exact(M b g).1
 done:=by
  intro X B Q R S i C s σ H E I M f U;subst B Q R;obtain⟨xs,N,V⟩:=U;obtain⟨j,Y,p,hz⟩:=I.list N;have hl:=Y.length;obtain⟨⟨m,n⟩,hit⟩:=f;obtain⟨f0,f1,f2,f3,f4,f5⟩:=M it (by simp);exact wpAny_pyNext_enum_end (I.ok.hd S) n hit p.isList (by simp;omega) λh' eb=>⟨rfl,I.turned (t':=s.toks) (λb o g e=>eb b o g e) f0 f1 f3 f4 f5⟩
 self:=λ_ _ _ _ _ f h=>by
  obtain⟨⟨m,n⟩,_⟩:=f;exact wpAny_pyIter_enum n h
section
variable{X:Cx}{tg:Expr}
def Df(K:zzA)(ta:TA):TI:=λσ H R=>ta σ H λvs H1=>∃a,vs=[.ref a]/\(∃xs,Z5 K H1 a xs)/\R (qQ K a) H1
def Im{l:Expr}{ta:TA}{p pos pos':Pos}{elts:List Expr}{k:Nat}(hg:Gl X "enumerate")(hm:X.mg "enumerate"=none)(ha:PA X [l] ta)(hs:starEach [l] X.env=[(false,eval l X.env)]):
 PI X (.Tuple elts k pos') (.Call (.Name "enumerate" p) [l] [] pos) (Df X.K ta):=by
 intro c s σ H R I h;refine Call_ (vQ I hg hm boot_enumerate (PyProof.Rows.callWith_type1 (thn (ha pos c s σ H _ I h) λz d ⟨A,m,f,n,o⟩=>?_) hs rfl));obtain⟨a,rfl,⟨B,t⟩,q⟩:=o;cases n with
 |cons r u=>
  cases u;cases r;obtain⟨v,C,w,D⟩:=f.list t;refine call_enumerate_list w.isList λE j g x y=>?_;refine wpAny_pyIter_enum j ⟨d.heap.objs.size+1,[d.heap.objs.size+1,d.heap.objs.size],_,_,m,rfl,f.kept (t':=d.toks) y,FL a _ _ (Nat.succ_ne_self _),⟨⟨_,j⟩,g⟩,λb i=>?_,q⟩;have e:d.heap.objs.size<=b:=by
   rcases zzC.mp i with rfl|i
   . exact zyX _
   . rw[zzR.mp i];exact zzN _
  exact f.fpOk e (f.hok.fresh e)
end
section
variable{X:Cx}{kd:KD}{tg e:Expr}{fa:EF}
noncomputable def Yq(st:Bool):Nat->List D->List wx
 |_,[]=>[]
 |i,d::r=>(st,.tup [.int i,d])::Yq st (i+1) r
theorem GV(st:Bool):∀(i:Nat) (ds:List D),(Yq st i ds).length=ds.length
 |_,[]=>rfl
 |i,_::r=>congrArg (· + 1) (GV st (i+1) r)
theorem GT{st:Bool}:∀{j:Nat}{ds:List D}{i:Nat}{y:wx},(Yq st j ds)[i]? = some y->∃d,ds[i]? = some d/\y=(st,.tup [.int ((j+i:Nat):Int),d])
 |_,[],_,_,h=>by simp[Yq]at h
 |j,d::r,0,y,h=>by
  simp only[Yq,List.getElem?_cons_zero]at h;cases h;exact⟨d,rfl,rfl⟩
 |j,d::r,i+1,y,h=>by
  simp only[Yq,List.getElem?_cons_succ]at h;obtain⟨a,b,c⟩:=GT h;exact⟨a,by simpa using b,by rw[c,show j+1+i=j+(i+1) by omega]⟩
noncomputable def BC(f:EF):IF:=λas=>(f as).bind λp=>(YU p.2 p.1).bind λq=>match q.1 with
 |(st,.lst ds)=>some (Yq st 0 ds,q.2)
 |_=>none
end
def Oy(sep:Str)(ys:List Str):Txt.join sep ys=Str.join sep ys:=StrLaws.glued_eq_join sep ys
section
variable{as:AS}{f a b:EF}{s t:Bool}{x y z:D}
def OB:T6 (.lst (xs++ys)) none (some (xs.length:Int))=some (.fl xs):=by
 show some (R0.fl (cutD (xs++ys) none (some (xs.length:Int))))=_
 congr 2
 unfold cutD;rw[HT.U5,HT.NN,zzJ,Nat.min_eq_left (by omega),List.drop_zero,Nat.sub_zero,List.take_left]
end
def rA(K:zzA)(a b:Addr):It:=
 ⟨λi H=>∃xs ys x y,Z5 K H a xs/\Z5 K H b ys/\xs[i]? = some x/\ys[i]? = some y,
  λi H v H'=>∃T x y,H T=none/\v = .ref T/\H'=upd H T (.tup [x,y])/\(∀xs,Z5 K H a xs->xs[i]? = some x)/\∀ys,Z5 K H b ys->ys[i]? = some y,
  λi H=>∃xs ys,Z5 K H a xs/\Z5 K H b ys/\(xs.length<=i\/ys.length<=i)⟩
def Ta{X:Cx}{pins:List (Addr×Obj)}{σ:List (Option V)}{H:Hp}{s:Shared}{h':Heap}{t':Nat}{ch:List Addr}(I:Inv X pins σ H s)(hf:∀b ∈ ch,UL X pins H b)(k:∀b u,b ∉ ch->s.heap.get? b=some u->h'.get? b=some u):Inv X pins σ H {s with heap:=h',toks:=t'}:=by
 have d:∀b u,H b=some u->b ∉ ch:=λb u e z=>by have:=(hf b z).1;rw[e]at this;cases this
 refine I.step (g':=s.gens) (d':=s.drawn) (ch:=ch) (λb f=>?_) (λb o _ _ a e _=>k b o a e) (λb o _ _ a e _=>⟨o.slots,k b o a e⟩) (λb o _ e n=>n)
  (λb o a e=>⟨o,k b o a e⟩) (λb g e=>e) (λb o u e=>e) (λb x e=>⟨#[],by rw[e];simp⟩) (λm h=>?_) (λb u e=>?_) I.bare
 . obtain⟨y,f1,f2,i,j,l⟩:=hf b f;exact⟨i,f1,j,l⟩
 . obtain⟨o,p,t,w,r⟩:=h;exact⟨o,p,t,k _ o (λz=>(hf _ z).2.1 rfl) w,r⟩
 . refine(I.hok b u e).stay (λc v a q=>k c v ?_ q) (λc q=>q) λc g q=>q
   rcases a with z|z
   . rw[z];exact d b u e
   . exact d c _ z
def Sk{P:Program}{w:World}{K:zzA}{elts:List Expr}{k:Nat}{pos:Pos}(a b z TI TO i1 i2:Addr)(D:ZipApart z TI TO i1 i2 a b):Turn P w K (.Tuple elts k pos) (rA K a b) [z,TI,TO,i1,i2] z
 (λi h=>IsZip h z TI TO .none/\IsPair h TI (.ref i1) (.ref i2)/\(∃p q,IsPair h TO p q)/\h.IsListIter i1 a i/\h.IsListIter i2 b i)where
 mem:=by simp
 obj:=λi h st c hc=>by
  obtain⟨hz,hTI,⟨p,q,hTO⟩,⟨o1,e1,c1,d1⟩,⟨o2,e2,c2,d2⟩⟩:=st;simp only[zzC,zxC,or_false]at hc
  rcases hc with rfl|rfl|rfl|rfl|rfl
  . exact⟨_,hz,λv z=>by cases z⟩
  . exact⟨_,hTI,λv z=>by cases z⟩
  . exact⟨_,hTO,λv z=>by cases z⟩
  . exact⟨o1,e1,λv z=>by rw[d1]at z;cases z⟩
  . exact⟨o2,e2,λv z=>by rw[d2]at z;cases z⟩
 keep:=λi h h' st kk=>by
  obtain⟨hz,hTI,⟨p,q,hTO⟩,h1,h2⟩:=st;exact⟨kk z (by simp) _ hz,kk TI (by simp) _ hTI,⟨p,q,kk TO (by simp) _ hTO⟩,h1.at λo e=>kk i1 (by simp) o e,h2.at λo e=>kk i2 (by simp) o e⟩
 item:=by
  intro X hP hw hK hc i pins s σ H E I hf st hg;subst hP hw hK;obtain⟨xs,ys,x,y,hq,hr,hx,hy⟩:=hg;obtain⟨its,rv,p,hz⟩:=I.list hq;obtain⟨jts,rw',p',hz'⟩:=I.list hr;obtain⟨u,hu,ru⟩:=rv.get hx;obtain⟨u',hu',ru'⟩:=rw'.get hy;have W:=WalksT.zip2 (prog:=X.prog) (w:=X.w) (A:=X.A) (I.ok.hd hc) z TI TO i1 i2 a b D its.toArray jts.toArray;obtain⟨s1,s2,s3,s4,s5⟩:=st;have hil:i<min its.toArray.size jts.toArray.size:=by
   have:=(zzG.mp hu).1;have:=(zzG.mp hu').1;simp only[zzH];omega
  refine W.item i s _ _ hil ⟨s1,s2,s3,s4,s5,p.isList,p'.isList⟩ λT vals h1 tk hP hT hTup hMid kk=>?_;obtain⟨v,v',hv,hv',rfl⟩:=hP;have e1:v=u:=by rw[show its.toArray[i]? = its[i]? by simp,hu]at hv;cases hv;rfl
  have e2:v'=u':=by rw[show jts.toArray[i]? = jts[i]? by simp,hu']at hv';cases hv';rfl
  subst e1 e2;refine⟨_,rfl,W.go elts k pos i T {s with heap:=h1,toks:=tk} _ _ hMid λh2 hSt kk2=>?_⟩;have hn:H T=none:=I.hok.fresh hT;have hTw:=W.apart i T h1 hMid;have sub:∀c,c ∉ [z,TI,TO,i1,i2]->c ∉ [z,TO,i1,i2]:=λc hc m=>hc (by simp only[zzC,zxC,or_false]at m ⊢;rcases m with rfl|rfl|rfl|rfl<;>simp);have k2:∀c o,c ∉ [z,TI,TO,i1,i2]->s.heap.get? c=some o->h2.get? c=some o:=λc o hb q=>kk2 c o (sub c hb) (kk c o (sub c hb) q);have hT2:IsTup h2 T #[v,v']:=by
   obtain⟨o,q1,q2⟩:=hTup;exact⟨o,kk2 T o hTw q1,q2⟩
  obtain⟨t1,t2,t3,t4,t5,_,_⟩:=hSt;refine⟨.ref T,upd H T (.tup [x,y]),Z0 (s:=s) (t':=tk) (ch:=[z,TI,TO,i1,i2]) I hf k2 hT ⟨by show 2<=sizeLine;decide,[v,v'],.cons ru (.cons ru' .nil),hT2⟩,rfl,⟨T,x,y,hn,rfl,rfl,λq hq'=>by rw[I.list_inj hq' hq];exact hx,λq hq'=>by rw[I.list_inj hq' hr];exact hy⟩,⟨t1,t2,t3,t4,t5⟩,λc hc=>?_⟩;have hcT:c≠T:=λe=>by
   have:c<s.heap.objs.size:=by
    have hob:∀d ∈ [z,TI,TO,i1,i2],∃o,s.heap.get? d=some o:=λd hd=>by
     obtain⟨pp,qq,hTO⟩:=s3;obtain⟨o1,e1,_⟩:=s4;obtain⟨o2,e2,_⟩:=s5;simp only[zzC,zxC,or_false]at hd
     rcases hd with rfl|rfl|rfl|rfl|rfl
     . exact⟨_,s1⟩
     . exact⟨_,s2⟩
     . exact⟨_,hTO⟩
     . exact⟨_,e1⟩
     . exact⟨_,e2⟩
    obtain⟨o,ho⟩:=hob c hc;exact zxJ ho
   rw[e]at this;exact absurd (zzK this hT) (Nat.lt_irrefl _)
  rw[zK hcT];exact(hf c hc).1
 done:=by
  intro X hP hw hK hc i pins s σ H E I hf st hg;subst hP hw hK;obtain⟨xs,ys,hq,hr,hx⟩:=hg;obtain⟨its,rv,p,hz⟩:=I.list hq;obtain⟨jts,rw',p',hz'⟩:=I.list hr;have hl:=rv.length;have hl':=rw'.length;obtain⟨s1,s2,⟨pp,qq,s3⟩,s4,s5⟩:=st;refine wpAny_pyNext_zip_end (I.ok.hd hc) D s1 s2 s3 s4 s5 p.isList p'.isList (hx.imp (λh=>by simp;omega) (λh=>by simp;omega)) λh' eb=>⟨rfl,Ta (t':=s.toks) (ch:=[z,TI,TO,i1,i2]) I hf λc o hc q=>eb c o ?_ ?_ ?_ ?_ q⟩<;>(intro e;exact hc (by simp[e]))
 self:=λ_ _ _ _ _ st h=>wpAny_pyIter_zip st.1 h
section
variable{X:Cx}{tg:Expr}
def sf(K:zzA)(ta:TA):TI:=λσ H R=>ta σ H λvs H1=>∃a b,vs=[.ref a,.ref b]/\(∃xs,Z5 K H1 a xs)/\(∃ys,Z5 K H1 b ys)/\R (rA K a b) H1
def Gk(I l1 l2:Nat)(h1:l1<I)(h2:l2<I):ZipApart (I+4) (I+2) (I+3) I (I+1) l1 l2:=by
 constructor<;>(show(_:Nat)≠_;omega)
def De{l l':Expr}{ta:TA}{p pos pos':Pos}{elts:List Expr}{k:Nat}(hg:Gl X "zip")(hm:X.mg "zip"=none)(ha:PA X [l,l'] ta)(hs:starEach [l,l'] X.env=[(false,eval l X.env),(false,eval l' X.env)])(hs2:starEach [l'] X.env=[(false,eval l' X.env)]):
 PI X (.Tuple elts k pos') (.Call (.Name "zip" p) [l,l'] [] pos) (sf X.K ta):=by
 intro e s σ H R I h;refine Call_ (vQ I hg hm boot_zip (PyProof.Rows.callWith_type1 (thn (ha pos e s σ H _ I h) λO d ⟨P,z,f,A,B⟩=>?_) (by rw[hs,hs2]) (by rw[hs2];rfl)));obtain⟨a,b,rfl,⟨Q,C⟩,⟨S,D⟩,q⟩:=B;cases A with
 |cons r j=>
  cases j with
  |cons E j=>
   cases j;cases r;cases E;obtain⟨F,T,w,U⟩:=f.list C;obtain⟨G,J,g,L⟩:=f.list D;obtain⟨V,m,_⟩:=w.isList;obtain⟨W,n,_⟩:=g.isList;refine call_zip_2 w.isList g.isList λY x o t u v M N=>?_;refine wpAny_pyIter_zip x ⟨d.heap.objs.size+4,[d.heap.objs.size+4,d.heap.objs.size+2,d.heap.objs.size+3,d.heap.objs.size,d.heap.objs.size+1],_,_,z,rfl,f.kept (t':=d.toks) N,Sk a b _ _ _ _ _ (Gk _ _ _ (zxJ m) (zxJ n)),⟨x,o,⟨_,_,t⟩,u,v⟩,λc y=>?_,q⟩;have i:d.heap.objs.size<=c:=by
    simp only[zzC,zxC,or_false]at y
    rcases y with rfl|rfl|rfl|rfl|rfl<;>first|exact zzN _|exact Nat.le_add_right _ _
   exact f.fpOk i (f.hok.fresh i)
end
section
variable{X:Cx}{kd:KD}{tg e:Expr}{fa:EF}
noncomputable def vR(st:Bool):List D->List D->List wx
 |x::r,y::t=>(st,.tup [x,y])::vR st r t
 |_,_=>[]
theorem Xn(st:Bool):∀(xs ys:List D),(vR st xs ys).length=min xs.length ys.length
 | [],_=>by simp[vR]
 |_::_,[]=>by simp[vR]
 |_::r,_::t=>by simp only[vR,zzT,Xn st r t];omega
theorem ZH{st:Bool}:∀{xs ys:List D}{i:Nat}{y:wx},(vR st xs ys)[i]? = some y->∃d e,xs[i]? = some d/\ys[i]? = some e/\y=(st,.tup [d,e])
 | [],_,_,_,h=>by simp[vR]at h
 |_::_,[],_,_,h=>by simp[vR]at h
 |x::r,y::t,0,z,h=>by
  simp only[vR,List.getElem?_cons_zero]at h;cases h;exact⟨x,y,rfl,rfl,rfl⟩
 |x::r,y::t,i+1,z,h=>by
  simp only[vR,List.getElem?_cons_succ]at h;obtain⟨d,e,a,b,c⟩:=ZH h;exact⟨d,e,by simpa using a,by simpa using b,c⟩
def uo{K:zzA}{F B:Addr->Prop}{ad:Ad}{H:Hp}{a b:Addr}{vs ws:List V}{st:Bool}{ds es:List D}(hs:∀(ad3:Ad) (H3:Hp),Grow (Gw [] ad) H (Gw [] ad3) H3->Z5 K H3 a vs)(hs':∀(ad3:Ad) (H3:Hp),Grow (Gw [] ad) H (Gw [] ad3) H3->Z5 K H3 b ws)
 (r:RpL K kd (Lv F B (Gw [] ad) st) H vs ds) (r':RpL K kd (Lv F B (Gw [] ad) st) H ws es):ItOk K kd F B ad H (rA K a b) (vR st ds es):=⟨λc j k C i=>by
 have f:=hs c j k;have g:=hs' c j k;have m:RpL K kd (Lv F B (Gw [] c) st) j vs ds:=RpL.grow k r;have n:RpL K kd (Lv F B (Gw [] c) st) j ws es:=RpL.grow k r';have w:=Xn st ds es;have O:vs.length=ds.length:=r.length;have P:ws.length=es.length:=r'.length;refine⟨λE=>?_,λE=>⟨_,_,f,g,by omega⟩,λv Q G=>?_⟩
 . obtain⟨u,p,_⟩:=r.get (zzE (show i<ds.length by omega));obtain⟨A,h,_⟩:=r'.get (zzE (show i<es.length by omega));exact⟨_,_,u,A,f,g,p,h⟩
 . obtain⟨T,x,y,l,rfl,rfl,I,s⟩:=G;refine⟨xy l,λq J=>?_⟩;obtain⟨d,e,L,M,rfl⟩:=ZH J;obtain⟨u,p,N⟩:=m.get L;obtain⟨A,h,t⟩:=n.get M;have:=I _ f;rw[p]at this;cases this;have:=s _ g;rw[h]at this;cases this;exact .tup (λz=>C _ _ z l) yd (.cons (Rp.grow ⟨λb o q _=>xy l b o q,λb z=>.inl z⟩ N) (.cons (Rp.grow ⟨λb o q _=>xy l b o q,λb z=>.inl z⟩ t) .nil))⟩
noncomputable def Me(fr:AF):IF:=λas=>(fr as).bind λp=>(C9 p.1).bind λo=>(rG o.1).bind λa=>(rG o.2).bind λb=>some (vR (a.1&&b.1) a.2 b.2,p.2)
def K7{K:zzA}{F B:Addr->Prop}{ad:Ad}{H:Hp}{v:V}{st q:Bool}{ds:List D}(rp:Rp K kd (Lv F B (Gw [] ad) st) H v (.lst ds))(hq:q=true->st=true):∃a vs,v = .ref a/\(∀(ad3:Ad) (H3:Hp),Grow (Gw [] ad) H (Gw [] ad3) H3->Z5 K H3 a vs)/\RpL K kd (Lv F B (Gw [] ad) q) H vs ds:=by
 have le:∀a,Lv F B (Gw [] ad) q a->Lv F B (Gw [] ad) st a:=λa z=>z.imp (λy=>y.imp (λx=>⟨hq x.1,x.2⟩) id) id;cases rp with
 |lst hn hr rl=>exact⟨_,_,rfl,λad3 H3 g3=>.inl (Qa g3 (λz=>hn (.inr z)) hr),rl.less le⟩
 |lstK a b c rl=>exact⟨_,_,rfl,λad3 H3 g3=>.inr ⟨_,_,_,a,rfl,rfl,rfl,b,c⟩,rl.less le⟩
def DA{l l':Expr}{fr:AF}{p pos pos':Pos}{elts:List Expr}{k:Nat}(hg:Gl X "zip")(hm:X.mg "zip"=none)(ha:AA X kd [l,l'] fr)(hs:starEach [l,l'] X.env=[(false,eval l X.env),(false,eval l' X.env)])(hs2:starEach [l'] X.env=[(false,eval l' X.env)]):
 AI X kd (.Tuple elts k pos') (.Call (.Name "zip" p) [l,l'] [] pos) (Me fr):=by
 with_unfolding_all (
 intro pins s σ H R I h;obtain⟨F,B,ad,as,ds,as',Rl,e',q⟩:=h;obtain⟨⟨rs,as1⟩,h1,e'⟩:=bS_ (show(fr as).bind _=_ from e');obtain⟨⟨o1,o2⟩,e1,e'⟩:=bS_ e';obtain⟨⟨s1,d1⟩,e2,e'⟩:=bS_ e';obtain⟨⟨s2,d2⟩,e3,e'⟩:=bS_ e';cases KG e1;cases HI e2;cases HI e3
 . cases e';refine De hg hm ha hs hs2 pins s σ H R I ⟨F,B,ad,as,_,as1,Rl,h1,λvs ad1 H1 R1 rv1 g1=>?_⟩;cases rv1 with
   |cons r1 rr=>
    cases rr with
    |cons r2 rr=>
     cases rr;cases r1 with
     |lf rp1=>
      cases r2 with
      |lf rp2=>
       obtain⟨a,vs,rfl,ha,ra⟩:=K7 (q:=s1&&s2) rp1 (λz=>(Bool.and_eq_true_iff.mp z).1);obtain⟨b,ws,rfl,hb,rb⟩:=K7 (q:=s1&&s2) rp2 (λz=>(Bool.and_eq_true_iff.mp z).2);exact⟨a,b,rfl,⟨_,ha _ _ Grow.refl⟩,⟨_,hb _ _ Grow.refl⟩,q _ ad1 H1 R1 g1 (uo ha hb ra rb)⟩)
end
noncomputable def insI(x:Int):List Int->List Int
 | []=>[x]
 |y::r=>if x<=y then x::y::r else y::insI x r
def sortI:List Int->List Int
 | []=>[]
 |x::r=>insI x (sortI r)
theorem insI_perm(x:Int):∀l:List Int,(insI x l).Perm (x::l)
 | []=>List.Perm.refl _
 |y::r=>by
  unfold insI
  split
  . exact List.Perm.refl _
  . exact((insI_perm x r).cons y).trans (List.Perm.swap x y r)
theorem sortI_perm:∀l:List Int,(sortI l).Perm l
 | []=>List.Perm.refl _
 |x::r=>(insI_perm x (sortI r)).trans ((sortI_perm r).cons x)
theorem Uu(x:Int):∀l:List Int,l.Pairwise (· <= ·)->(insI x l).Pairwise (· <= ·)
 | [],_=>by simp[insI]
 |y::r,h=>by
  unfold insI;rw[List.pairwise_cons]at h
  split
  . rename_i a;rw[List.pairwise_cons,List.pairwise_cons];refine⟨λz b=>?_,h⟩
    rcases zzC.mp b with rfl|b
    . exact a
    . exact Int.le_trans a (h.1 z b)
  . rename_i a;rw[List.pairwise_cons];refine⟨λz b=>?_,Uu x r h.2⟩
    rcases zzC.mp ((insI_perm x r).mem_iff.mp b)with rfl|b
    . omega
    . exact h.1 z b
theorem wu:∀l:List Int,(sortI l).Pairwise (· <= ·)
 | []=>List.Pairwise.nil
 |x::r=>Uu x _ (wu r)
theorem Xv:∀(a b:List Int),a.Perm b->a.Pairwise (· <= ·)->b.Pairwise (· <= ·)->a=b
 | [],b,p,_,_=>by rw[List.nil_perm]at p;exact p.symm
 |x::r,[],p,_,_=>by rw[List.perm_nil]at p;cases p
 |x::r,y::t,p,c,d=>by
  rw[List.pairwise_cons]at c d;have f:x=y:=by
   have h:x ∈ y::t:=p.mem_iff.mp (zzF ..);have i:y ∈ x::r:=p.mem_iff.mpr (zzF ..)
   rcases zzC.mp h with e|e
   . exact e
   . rcases zzC.mp i with g|g
     . exact g.symm
     . have:=d.1 x e;have:=c.1 y g;omega
  subst f;rw[Xv r t (List.Perm.cons_inv p) c.2 d.2]
def Yc{K:zzA}{kd:KD}{O:Addr->Prop}{H:Hp}{vs:List V}{us:List Value}{ds:List D}{ns:List Int}(h:RpL K kd O H vs ds)(hv:z_ vs us)(e:wL ds=some ns):IntsAre us ns:=
 RpL.ind (P:=λvs ds=>∀us ns,z_ vs us->wL ds=some ns->IntsAre us ns) (λus ns hv e=>by cases e;cases hv;exact .nil) (λ{v d vs ds} a _ ih us ns hv e=>by
  cases hv with
  |cons b t=>
   cases a with
   |int x=>
    obtain⟨ys,h1,h2⟩:=bS_ (show(wL _).bind _=_ from e);cases h2;obtain⟨tk,rfl⟩:=b;exact .cons _ _ (ih _ _ t h1)
   |_=>cases e) h us ns hv e
theorem Zy:∀{us:List Value}{ns:List Int},IntsAre us ns->z_ (ns.map V.int) us
 |_,_,.nil=>.nil
 |_,_,.cons n t r=>.cons ⟨t,rfl⟩ (Zy r)
theorem NY{K:zzA}{kd:KD}{O:Addr->Prop}{H:Hp}:∀ns:List Int,RpL K kd O H (ns.map V.int) (ns.map D.int)
 | []=>.nil
 |y::r=>.cons (.int y) (NY r)
def Yy:List D->Option R0:=DI λx=>(ER x).bind λds=>(wL ds).bind λns=>if ns.length<64 then some (.fl ((sortI ns).map .int))else none
section
variable{X:Cx}{kd:KD}
def MK:YJ X kd (.builtin "sorted") Yy:=by
 intro pins s σ H xs us Q I r h;obtain⟨O,ds,z,ht,vl,he,q⟩:=h;obtain⟨x,d,rfl,vx,he⟩:=Qk vl he;obtain⟨ds,h0,he2⟩:=bS_ (show(ER d).bind _=_ from he);cases WH h0
 . obtain⟨ns,h1,he⟩:=bS_ he2;obtain⟨hz,he⟩:=zM he;cases he;cases vx with
   |lst hr rl=>
    obtain⟨u,rfl,ru⟩:=vals1 r;cases ru;obtain⟨its,rv,pl,_⟩:=I.list hr.sq;have hI:=Yc rl rv h1;have hl:=hI.length;refine sorted_ints pl.isList hI (by omega) λout ns' a1 a2 a3=>?_;have e:ns'=sortI ns:=Xv _ _ (a2.trans (sortI_perm ns).symm) a3 (wu ns);subst e;obtain⟨ee,hob⟩:=sortedAll_at s.heap its out;have hn:H (s.heap.objs.size+1)=none:=I.hok.fresh (zyX _);refine⟨.ref (s.heap.objs.size+1),_,I.laid (t':=s.toks) (λb o e=>sortedAll_old e) (zyX _) (show xi X.prog X.w _ _ _ (.lst ((sortI ns).map V.int))from⟨?_,out.toList,ee,Zy a1,by simpa[seqObj]using hob⟩),rfl,Ql q (NY _) _ hn⟩;rw[zzB,(sortI_perm ns).length_eq];exact Nat.le_of_lt (xF (by omega))
end
noncomputable def VY(f:D->Option Bool):List D->Option Nat
 | []=>none
 |x::r=>(f x).bind λb=>if b=true then(anyF f r).bind λ_=>some 0 else(VY f r).bind λj=>some (j+1)
def x6(d:D):List D->Option R0:=DI λx=>(ER d).bind λds=>(VY (λy=>xk 50 y x) ds).bind λj=>if ds.length<=1000 then some (.im (.int j))else none
theorem NB:∀{ds:List D}{j:Nat},VY f ds=some j->∀d ∈ ds,∃c,f d=some c
 | [],_,h,_,m=>nomatch m
 |x::r,j,h,d,m=>by
  obtain⟨b,e,h⟩:=bS_ (show(f x).bind _=_ from h)
  rcases zzC.mp m with rfl|m
  . exact⟨b,e⟩
  . cases b with
    |true=>
     obtain⟨c,a,_⟩:=bS_ (show(anyF f r).bind _=_ from h);exact Zx a d m
    |false=>
     obtain⟨k,a,_⟩:=bS_ (show(VY f r).bind _=_ from h);exact NB a d m
section
variable{X:Cx}{kd:KD}{pins:List (Addr×Obj)}{σ:St}{H:Hp}{s:Shared}{O:Addr->Prop}
def IG(I:Inv X pins σ H s)(hk:KdOk X kd)(hv:z_ vs us)(h:RpL X.K kd O H vs ds)(e:VY (λy=>xk n y x) ds=some j):∃h:j<us.length,Li X.K kd O H n x us[j]=true/\∀m (hm:m<us.length),m<j->Li X.K kd O H n x us[m]=false:=
 RpL.ind (P:=λvs ds=>∀us j,z_ vs us->VY (λy=>xk n y x) ds=some j->∃h:j<us.length,Li X.K kd O H n x us[j]=true/\∀m (hm:m<us.length),m<j->Li X.K kd O H n x us[m]=false) (λus j hv e=>by cases e) (λ{v d vs ds} a _ ih us j hv h=>by
  cases hv with
  |cons r t=>
   obtain⟨b,h1,h⟩:=bS_ (show(xk n _ x).bind _=_ from h);cases b with
   |true=>
    obtain⟨c,h2,h3⟩:=bS_ (show(anyF _ _).bind _=_ from h);cases h3;exact⟨by simp,LN I hk r a h1,λm hm hlt=>by omega⟩
   |false=>
    obtain⟨k,h2,h3⟩:=bS_ (show(VY _ _).bind _=_ from h);cases h3;obtain⟨hk',e1,e2⟩:=ih _ _ t h2;refine⟨by simpa using hk',by simpa using e1,λm hm hlt=>?_⟩;cases m with
    |zero=>exact LN I hk r a h1
    |succ m=>simpa using e2 m (by simpa using hm) (by omega)) h us j hv e
def Hu(hk:KdOk X kd)(hu:X.A.units+100<cLine):qp X kd "list.index" x6:=by
 intro k s σ H x Y v Z Q I C r h;obtain⟨O,d,ds,r0,ht,D,E,a,q⟩:=h;obtain⟨y',y,rfl,G,a⟩:=Qk E a;obtain⟨es,J,b⟩:=bS_ (show(ER d).bind _=_ from a);cases WH J
 . obtain⟨j,l,a⟩:=bS_ b;obtain⟨hz,a⟩:=zM a;cases a;obtain⟨u,rfl,L⟩:=vals1 r;cases D with
   |lst M c=>
    cases C;obtain⟨e,f,N,_⟩:=I.list M.sq;obtain⟨⟨cls,P,o,R⟩,p,t,n,z⟩:=N.isList;simp only at t z;subst t z;obtain⟨S,T,U⟩:=IG I hk f c l;have B:=f.length;have g:=c.length;refine call_meets PySem.F.slot_list_index ⟨_,p,rfl⟩ PySem.F.entry_list_index (PySem.F.args_list_index_2 _ _)
     (SeqAt.list_indexAt _ e.toArray n P R _ (Li X.K kd O H 50 y) j (by simpa using S) (by omega) (by simpa using T) (λm V i=>by simpa using U m (by simpa using V) i))
     ⟨p,λw W=>Vu I hk (by show X.A.units+1+50<cLine;omega) G L f c (NB l) w (by simpa using W),⟨.int j,H,I.tok _,⟨_,rfl⟩,yg q (.int _)⟩⟩
end
theorem Q7:∀{vs:List V}{us:List Value},vs.length=us.length->(∀(i:Nat) v u,vs[i]? = some v->us[i]? = some u->RelV v u)->z_ vs us
 | [],[],_,_=>.nil
 | [],_::_,h,_=>by simp at h
 |_::_,[],h,_=>by simp at h
 |v::c,u::d,h,k=>.cons (k 0 v u rfl rfl) (Q7 (by simpa using h) λi a b x y=>k (i+1) a b (by simpa using x) (by simpa using y))
section
variable{X:Cx}{tg:Expr}
def sr(ta:TA):TE:=λσ H Q=>ta σ H λvs H1=>∃j:Int,vs=[.int j] /\ -(2 ^ 62)<=j/\j<2 ^ 62/\∀r,H1 r=none->Q (.ref r) (upd H1 r (.rng 0 j))
def Oj(hg:Gl X "range")(hm:X.mg "range"=none)(ha:PA X [a] ta)(hs:starEach [a] X.env=[(false,eval a X.env)]):PE X (.Call (.Name "range" p) [a] [] pos) (sr ta):=by
 intro c s σ H Q I h;refine Call_ (vQ I hg hm boot_range (PyProof.Rows.callWith_type1 (thn (ha pos c s σ H _ I h) λl f ⟨m,n,d,g,i⟩=>?_) hs rfl));obtain⟨j,e,u,v,q⟩:=i;subst e;cases g with
 |cons r k=>
  cases k;obtain⟨t,rfl⟩:=r;exact call_range_1 ⟨.ref f.heap.objs.size,_,d.laid (λb o e=>zxI _ e) (zzN _) (show xi X.prog X.w _ _ _ (.rng 0 j)from⟨_,_,_,zxK _ rfl⟩),rfl,q _ (d.hok.fresh (zzN _))⟩
def ox(ta:TA):TE:=λσ H Q=>JN (sr ta) u9 σ H λvs H2=>∃r H1,∃j:Int,vs=[.ref r]/\H1 r=none/\H2=upd H1 r (.rng 0 j)/\0<=j/\j<=100000/\∀l,H2 l=none->Q (.ref l) (upd H2 l (.lst ((List.range j.toNat).map λ(i:Nat)=>V.int i)))
def Bx(hc:X.calm=true)(hg:Gl X "range")(hm:X.mg "range"=none)(hgl:Gl X "list")(hml:X.mg "list"=none)(ha:PA X [a] ta)(hs:starEach [a] X.env=[(false,eval a X.env)])
 (hs':starEach [.Call (.Name "range" p) [a] [] pos] X.env=[(false,eval (.Call (.Name "range" p) [a] [] pos) X.env)]):PE X (.Call (.Name "list" p') [.Call (.Name "range" p) [a] [] pos] [] pos') (ox ta):=by
 intro b s σ H Q I h;refine Call_ (vQ I hgl hml Bt.list (PyProof.Rows.callWith_type1 (thn ((Z3 (Oj hg hm ha hs) Qu hs') pos' b s σ H (λD g=>∃r o,∃j:Int,D=[.ref r]/\o r=none/\g=upd o r (.rng 0 j)/\0<=j/\j<=100000/\∀l,g l=none->Q (.ref l) (upd g l (.lst ((List.range j.toNat).map λ(i:Nat)=>V.int i)))) I ?_) λP E ⟨D,g,m,F,G⟩=>?_) hs' rfl))
 . exact h
 obtain⟨r,o,j,rfl,R,rfl,S,T,q⟩:=G;cases F with
 |cons J K=>
  cases K;cases J;obtain⟨t,u,v,L⟩:=m.hok r _ (yd ..);have z:Builtin.Range.rangeSize 0 j 1=(j.toNat:Nat):=by rw[rangeSize_one];split<;>omega
  refine call_list_range (m.ok.hd hc) L (small_one (by omega) (by omega) (by omega) (by omega)) (n:=j.toNat) (by exact_mod_cast z) (by omega) λU W A M N B c=>?_;refine⟨.ref E.heap.objs.size,_,m.laid N (zzN _) (show xi X.prog X.w _ _ _ (.lst ((List.range j.toNat).map λ(i:Nat)=>V.int i))from⟨?_,A.toList,M, ?_,by simpa using B⟩),rfl,q _ (m.hok.fresh (zzN _))⟩
  . rw[zzB,zyU];exact zzO (show j.toNat<=100000 by omega) (by decide)
  . refine Q7 (by rw[zzB,zyU];simpa using c.1.symm) λi x y d O=>?_;rw[zzI]at d;obtain⟨C,e⟩:=c.2 i y (by simpa using O);cases hr:(List.range j.toNat)[i]? with
    |none=>rw[hr]at d;cases d
    |some k=>
     rw[hr]at d;obtain⟨_,f⟩:=zzG.mp hr;rw[List.getElem_range]at f;subst f;cases d;exact⟨C,by rw[e];simp⟩
end
section
variable{X:Cx}{kd:KD}
noncomputable def Bw:List D->Option R0
 | [.int j]=>if 0<=j/\j<=100000 then some (.fl ((List.range j.toNat).map λ(i:Nat)=>.int i))else none
 |_=>none
theorem ED{K:zzA}{O:Addr->Prop}{H:Hp}:∀l:List Nat,RpL K kd O H (l.map λ(i:Nat)=>V.int i) (l.map λ(i:Nat)=>D.int i)
 | []=>.nil
 |y::r=>.cons (.int y) (ED r)
def Bi(hc:X.calm=true)(hg:Gl X "range")(hm:X.mg "range"=none)(hgl:Gl X "list")(hml:X.mg "list"=none)(ha:AA X kd [a] fr)(hs:starEach [a] X.env=[(false,eval a X.env)])
 (hs':starEach [.Call (.Name "range" p) [a] [] pos] X.env=[(false,eval (.Call (.Name "range" p) [a] [] pos) X.env)]):AE X kd (.Call (.Name "list" p') [.Call (.Name "range" p) [a] [] pos] [] pos') (fP fr Bw):=by
 with_unfolding_all exact(yE (Bx hc hg hm hgl hml ha hs hs') λσ H Q h=>by
  obtain⟨F,B,y,as,r,A,R,e,q⟩:=h;obtain⟨⟨C,d⟩,D,e⟩:=bS_ (show(fr as).bind _=_ from e);obtain⟨⟨E,Z⟩,f,e⟩:=bS_ e;obtain⟨G,g,e⟩:=bS_ e;obtain⟨z,I,e⟩:=bS_ e;cases e
  match E,g,f with
  | [.int j],g,f=>
   obtain⟨⟨J,L⟩,M⟩:=zM (show(if 0<=j/\j<=100000 then some (R0.fl ((List.range j.toNat).map λ(i:Nat)=>.int i))else none)=some G from g);cases M;refine(show ux X.K kd fr σ H _ from⟨F,B,y,as,C,d,R,D,λvs k u v m N=>?_⟩);have O:=XA v m f;have P:=Za v I (Q:=Q) λw S T U n V=>q w S k T U n (N.trans V);cases O with
   |cons W Y=>
    cases Y;cases W;refine⟨j,rfl,by omega,by omega,λr x=>⟨r,u,j,rfl,x,rfl,J,L,λl c=>?_⟩⟩;have s:l≠r:=λe=>by rw[e,yd]at c;cases c
    have t:u l=none:=by rw[zK s]at c;exact c
    exact P l _ _ t (λb o q=>xy c b o (xy x b o q)) yd (ED _))
end
def Fy(h:RoL L N H vs ls fp):vs.length=ls.length:=RoL.length h
section
variable{K:zzA}{kd:KD}{F B G:Addr->Prop}{H:Hp}
def W7(hp:G p):Grow G H G (upd H p u):=⟨λb w h n=>by rw[zK (λe=>n (by subst e;exact hp))];exact h,λb z=>.inl z⟩
theorem Kh:∀(os:List O) {vs:List V}{fp:List Addr}{n:Nat}{o:O},x9 K kd F B G H vs os fp->fp.Nodup->(∀a ∈ fp,G a)->os[n]? = some o->
 ∃v f,vs[n]? = some v/\w5 K kd F B G H v o f/\f.Nodup/\(∀a ∈ f,a ∈ fp)/\∀(p:Addr) (u:HO) (o':O),p ∈ f->w5 K kd F B G (upd H p u) v o' f->x9 K kd F B G (upd H p u) vs (os.set n o') fp
 | [],_,_,_,_,_,_,_,e=>by simp at e
 |E::k,_,_,n,o,r,l,c,e=>by
  cases r with
  |cons a r=>
   rename_i v I q J;obtain⟨s,t,i⟩:=zxF.mp l;cases n with
   |zero=>
    simp at e;subst e;exact⟨v,q,rfl,a,s,λx m=>zzP _ m,λp u j b d=>.cons d (x9.grow (W7 (c p (zzP _ b))) (λx m w h=>by rw[zK (λe=>i p b x m e.symm)];exact h) r)⟩
   |succ n=>
    obtain⟨y,f,z,A,C,g,D⟩:=Kh k (n:=n) (o:=o) r t (λx m=>c x (zzL _ m)) (by simpa using e);exact⟨y,f,by simpa using z,A,C,λx m=>zzL _ (g x m),λp u j b d=>.cons (w5.grow (W7 (c p (zzL _ (g p b)))) (λx m w h=>by rw[zK (λe=>i x m p (g p b) e)];exact h) a) (D p u j b d)⟩
theorem Gu(h:L st' v d'):∀(os:List O) {vs:List V}{fp:List Addr}{n:Nat}{st:Bool}{d:D},RoL L N H vs os fp->os[n]? = some (.lf st d)->RoL L N H (vs.set n v) (os.set n (.lf st' d')) fp
 | [],_,_,_,_,_,_,e=>by simp at e
 |f::b,_,_,n,c,d,r,e=>by
  cases r with
  |cons a r=>
   cases n with
   |zero=>
    simp at e;subst e;cases a with
    |lf _=>exact .cons (.lf h) r
   |succ n=>exact .cons a (Gu h b (n:=n) (st:=c) (d:=d) r (by simpa using e))
def Kg{v:V}{inner:List O}{fp:List Addr}{n:Nat}{st:Bool}{d:D}(c:Int)(r:w5 K kd F B G H v (.nd .ls inner) fp)(hn:fp.Nodup)(hG:∀a ∈ fp,G a)(e:inner[n]? = some (.lf st d)):
 ∃p ivs,v = .ref p/\p ∈ fp/\H p=some (.lst ivs)/\n<ivs.length/\w5 K kd F B G (upd H p (.lst (ivs.set n (.int c)))) v (.nd .ls (inner.set n (.lf true (.int c)))) fp:=by
 cases r with
 |ls hp ir=>
  rename_i p ivs ifp;have hpfp:p ∉ ifp:=(zzW.mp hn).1;refine⟨p,ivs,rfl,zzF ..,hp,by rw[Fy ir];exact(zzG.mp e).1,.ls yd (Gu (.int c) inner (x9.grow (W7 (hG p (zzF ..))) (λx m w h=>by rw[zK (λe=>hpfp (by subst e;exact m))];exact h) ir) e)⟩
def M5{v:V}{os:List O}{fp:List Addr}{n:Nat}{o:O}(r:w5 K kd F B G H v (.nd .ls os) fp)(hn:fp.Nodup)(hG:∀a ∈ fp,G a)(e:os[n]? = some o):
 ∃l vs w f,v = .ref l/\H l=some (.lst vs)/\vs[n]? = some w/\w5 K kd F B G H w o f/\f.Nodup/\(∀a ∈ f,a ∈ fp)/\∀(p:Addr) (u:HO) (o':O),p ∈ f->w5 K kd F B G (upd H p u) w o' f->w5 K kd F B G (upd H p u) v (.nd .ls (os.set n o')) fp:=by
 cases r with
 |ls c g=>
  rename_i l h i;obtain⟨w,f,j,k,q,d,s⟩:=Kh os g (zzW.mp hn).2 (λa m=>hG a (zzD _ m)) e;exact⟨l,h,w,f,rfl,c,j,k,q,λa m=>zzD _ (d a m),λp u t b x=>.ls (by rw[zK (λe=>(zzW.mp hn).1 (by rw[e];exact d p b))];exact c) (s p u t b x)⟩
def JP{v:V}{os:List O}{fp:List Addr}{n:Nat}{o:O}(r:w5 K kd F B G H v (.nd .tp os) fp)(hn:fp.Nodup)(hG:∀a ∈ fp,G a)(e:os[n]? = some o):
 ∃l vs w f,v = .ref l/\H l=some (.tup vs)/\vs[n]? = some w/\w5 K kd F B G H w o f/\f.Nodup/\(∀a ∈ f,a ∈ fp)/\∀(p:Addr) (u:HO) (o':O),p ∈ f->w5 K kd F B G (upd H p u) w o' f->w5 K kd F B G (upd H p u) v (.nd .tp (os.set n o')) fp:=by
 cases r with
 |tp c d h=>
  rename_i l i;obtain⟨w,f,j,k,m,g,q⟩:=Kh os h hn hG e;exact⟨l,i,w,f,rfl,d,j,k,m,g,λp u s b t=>.tp c (by rw[zK (λe=>c (.inr (by rw[e];exact hG p (g p b))))];exact d) (q p u s b t)⟩
end
section
variable{K:zzA}{kd:KD}{F B:Addr->Prop}{ad:Ad}{as:AS}{σ:St}{H:Hp}{i:Nat}{o:O}
def Rel.slotU(R:Rel K kd F B [] ad as σ H)(k:as[i]? = some (some o)):
 ∃v,σ[i]? = some (some v)/\w5 K kd F B (Gw [] ad) H v o (ad i)/\(ad i).Nodup/\(∀a ∈ ad i,Gw [] ad a)/\
  ∀(p:Addr) (u:HO) (o':O),p ∈ ad i->w5 K kd F B (Gw [] ad) (upd H p u) v o' (ad i)->Rel K kd F B [] ad (as.set i (some o')) σ (upd H p u)/\Grow (Gw [] ad) H (Gw [] ad) (upd H p u):=by
 obtain⟨v,d,n⟩:=R.sl i _ k;have r:i<as.length:=(zzG.mp k).1;refine⟨v,d,n,R.nd i,λa m=>.inr ⟨i,m⟩,λp u t f b=>?_⟩;have g:Grow (Gw [] ad) H (Gw [] ad) (upd H p u):=W7 (.inr ⟨i,f⟩);have c:∀a,H a≠none->upd H p u a≠none:=λa z=>by
  by_cases e:a=p
  . subst e;rw[yd];simp
  . rw[zK e];exact z
 refine⟨⟨by rw[zzU];exact R.len,λj l=>R.out j (by rw[zzU]at l;exact l),R.nd,R.inj,R.tnd,R.dis,λa z=>c a (R.ftr a z),λa z=>⟨c a (R.btr a z).1,(R.btr a z).2⟩,λa z=>⟨c a (R.gtr a z).1,(R.gtr a z).2⟩,λj s e=>?_⟩,g⟩
 by_cases q:j=i
 . subst q;rw[zyK r]at e;cases e;exact⟨v,d,b⟩
 . rw[zzY (Ne.symm q)]at e;exact(R.sl j s e).grow g λa m u h=>by rw[zK (λe=>q (R.inj j i a m (by rw[e];exact f)))];exact h
def Rel.any(R:Rel K kd F B [] ad as σ H)(hy:as[y]? = some none):Rel K kd F B [] ad as (σ.set y v) H:=by
 refine⟨by rw[zzU];exact R.len,R.out,R.nd,R.inj,R.tnd,R.dis,R.ftr,R.btr,R.gtr,λj s e=>?_⟩
 by_cases q:j=y
 . subst q;rw[hy]at e;cases e;exact R.sl j none hy
 . rw[zzY (Ne.symm q)];exact R.sl j s e
end
abbrev KS:=AS->Option Int
def oG(K:zzA)(kd:KD)(f:KS):TE:=λσ H Q=>∃F B ad as k,Rel K kd F B [] ad as σ H/\f as=some k/\Q (.int k) H
@[irreducible] def AK(X:Cx)(kd:KD)(e:Expr)(f:KS):Prop:=PE X e (oG X.K kd f)
def xC(c:Int):KS:=λ_=>some c
def YY:O->Option (List O)
 | .nd .ls os=>some os
 |_=>none
def IE:O->Option (List O)
 | .nd .tp os=>some os
 |_=>none
def Qm:O->Option D
 | .lf _ d=>some d
 |_=>none
def KH{α:Type}(f:O->Option α)(os:List O)(k:Nat):Option α:=os[k]?.bind f
def M4{α:Type}(f:O->Option α)(as:AS)(i:Nat):Option α:=as[i]?.bind λs=>s.bind f
def Fw{o:O}{os:List O}(h:YY o=some os):o = .nd .ls os:=by
 cases o with
 |lf s d=>cases h
 |nd k a=>cases k<;>cases h;rfl
def CG{o:O}{os:List O}(h:IE o=some os):o = .nd .tp os:=by
 cases o with
 |lf s d=>cases h
 |nd k a=>cases k<;>cases h;rfl
def E_(h:Qm o=some d):∃st,o = .lf st d:=by
 cases o with
 |lf s d=>cases h;exact⟨s,rfl⟩
 |nd k a=>cases h
def MC{α:Type}{f:O->Option α}{os:List O}{k:Nat}{a:α}(h:KH f os k=some a):∃o,os[k]? = some o/\f o=some a:=bS_ h
def HM(h:M4 f as k=some a):∃o,as[k]? = some (some o)/\f o=some a:=by
 obtain⟨s,b,h⟩:=bS_ h;obtain⟨o,rfl,h⟩:=bS_ h;exact⟨o,b,h⟩
def AY{os inner:List O}{k:Nat}(h:KH YY os k=some inner):os[k]? = some (.nd .ls inner):=by
 obtain⟨o,a,h⟩:=MC h;cases Fw h;exact a
def qD{os inner:List O}{k:Nat}(h:KH IE os k=some inner):os[k]? = some (.nd .tp inner):=by
 obtain⟨o,a,h⟩:=MC h;cases CG h;exact a
def D8{os:List O}{d:D}{k:Nat}(h:KH Qm os k=some d):∃st,os[k]? = some (.lf st d):=by
 obtain⟨o,a,h⟩:=MC h;obtain⟨b,rfl⟩:=E_ h;exact⟨b,a⟩
def IA{as:AS}{inner:List O}{k:Nat}(h:M4 YY as k=some inner):as[k]? = some (some (.nd .ls inner)):=by
 obtain⟨o,a,h⟩:=HM h;cases Fw h;exact a
def uJ(h:M4 Qm as k=some d):∃st,as[k]? = some (some (.lf st d)):=by
 obtain⟨o,a,h⟩:=HM h;obtain⟨b,rfl⟩:=E_ h;exact⟨b,a⟩
def Xu{α:Type}{f:O->Option α}{os:List O}{k:Nat}{o:O}{a:α}(h:os[k]? = some o)(e:f o=some a):KH f os k=some a:=by unfold KH;rw[h];exact e
def VC(h:as[k]? = some (some o))(e:f o=some a):M4 f as k=some a:=by unfold M4;rw[h];exact e
def xV(i:Nat):KS:=λas=>(M4 Qm as i).bind QW
noncomputable def Ni(i:Nat)(f:KS):KS:=λas=>(f as).bind λk=>if 0<=k then(M4 Qm as i).bind λd=>(ER d).bind λds=>ds[k.toNat]?.bind QW else none
noncomputable def Xj(f g:KS):KS:=λas=>(f as).bind λa=>(g as).bind λb=>if 0<b then some (a%b)else none
noncomputable def Hy(i:Nat):KS:=λas=>(M4 YY as i).bind λos=>some (os.length:Int)
section
variable{X:Cx}{kd:KD}{f g:KS}{a b:Expr}
def Xr:AK X kd (.Constant (.int c) j pos) (xC c):=by
 with_unfolding_all exact(yE KR λσ H Q h=>by
  obtain⟨F,B,a,as,k,R,e,q⟩:=h;cases e;exact q)
def QG(hv:PE X (.Name x p) (WZ i)):AK X kd (.Name x p) (xV i):=by
 with_unfolding_all exact(yE hv λσ H Q h=>by
  obtain⟨F,B,ad,as,k,R,e,q⟩:=h;obtain⟨d,e1,e⟩:=bS_ (show(M4 Qm as i).bind _=_ from e);cases Ko e;obtain⟨st,k1⟩:=uJ e1;obtain⟨v,hv,ro⟩:=R.sl i _ k1;generalize ad i=fp at ro;cases ro with
  |lf rp=>cases rp;exact⟨_,hv,q⟩)
def Pm(hv:PE X (.Name x p) (WZ i))(hb:AK X kd b f)(hs:v_ b):AK X kd (.Subscript (.Name x p) b pos) (Ni i f):=by
 with_unfolding_all exact(yE (Gv VR hv hb hs) λσ H Q h=>by
  obtain⟨F,B,ad,as,c,R,e,q⟩:=h;obtain⟨k,h1,e⟩:=bS_ (show(f as).bind _=_ from e);obtain⟨hk,e⟩:=ite_some' e;obtain⟨d0,e1,e3⟩:=bS_ e;obtain⟨ds,e2,e4⟩:=bS_ e3;obtain⟨d,k2,e5⟩:=bS_ e4;cases WH e2;cases Ko e5;obtain⟨st,k1⟩:=uJ e1;obtain⟨v,hv,ro⟩:=R.sl i _ k1;generalize ad i=fp at ro;cases ro with
  |lf rp=>
   obtain⟨l,vs,rfl,hq,rl⟩:=K7 (ad:=ad) (q:=st) rp (λz=>z);obtain⟨w,hw,rw'⟩:=rl.get k2;cases rw';refine⟨_,hv,F,B,ad,as,k,R,h1,l,vs,k,_,rfl,rfl,hq ad H Grow.refl, ?_,q⟩;have:=vZ hw;rw[zyZ hk]at this;exact this)
def WN(ha:AK X kd a f)(hb:AK X kd b g):AK X kd (.BinOp a .Mod b pos) (Xj f g):=by
 with_unfolding_all exact(yE (Ji S_ ha hb) λσ H Q h=>by
  obtain⟨F,B,d,as,c,R,e,q⟩:=h;obtain⟨m,i,e⟩:=bS_ (show(f as).bind _=_ from e);obtain⟨n,j,e⟩:=bS_ e;obtain⟨k,e⟩:=zM e;cases e;exact⟨F,B,d,as,m,R,i,F,B,d,as,n,R,j,m,n,rfl,rfl,k,q⟩)
def Dd(hg:Gl X "len")(hm:X.mg "len"=none)(hb:bootBuiltins "len"=some (.builtin "len"))(hv:PE X (.Name x p) (WZ i))(hst:starEach [.Name x p] X.env=(false,eval (.Name x p) X.env)::starEach [] X.env)(hpl:(backTo pos (starEach [] X.env)).any (·.1)=false):AK X kd (.Call (.Name "len" p0) [.Name x p] [] pos) (Hy i):=by
 with_unfolding_all exact(yE (RB Z6 hg hm hb (Z3 hv Qu hst) (by decide) (by decide) hst hpl) λσ H Q h=>by
  obtain⟨F,B,ad,as,c,R,e,q⟩:=h;obtain⟨os,e1,e⟩:=bS_ (show(M4 YY as i).bind _=_ from e);cases e;obtain⟨v,hv,ro⟩:=R.sl i _ (IA e1);generalize ad i=fp at ro;cases ro with
  |ls hH rl=>
   rename_i l vs fp;refine⟨_,hv,l,vs,rfl,.inl (.inl (.inl hH)), ?_⟩;rw[Fy rl];exact q)
end
noncomputable def SK(i:Nat)(f fv:KS):SF:=λas=>(f as).bind λk=>(fv as).bind λc=>if 0<=k then(M4 YY as i).bind λos=>(KH Qm os k.toNat).bind λ_=>some (.nx (as.set i (some (.nd .ls (os.set k.toNat (.lf true (.int c)))))))else none
noncomputable def Nj(i:Nat)(f1 f2 fv:KS):SF:=λas=>(f1 as).bind λk1=>(f2 as).bind λk2=>(fv as).bind λc=>if 0<=k1/\0<=k2 then(M4 YY as i).bind λos=>(KH YY os k1.toNat).bind λinner=>(KH Qm inner k2.toNat).bind λ_=>some (.nx (as.set i (some (.nd .ls (os.set k1.toNat (.nd .ls (inner.set k2.toNat (.lf true (.int c)))))))))else none
def tG(as:AS)(y:Nat):Bool:=match as[y]? with
 |some none=>true
 |_=>false
def Ai(h:tG as y=true):as[y]? = some none:=by
 unfold tG at h;cases k:as[y]? with
 |none=>rw[k]at h;cases h
 |some s=>
  cases s with
  |none=>rfl
  |some _=>rw[k]at h;cases h
noncomputable def Sx(y i:Nat)(f1:KS)(n:Nat)(f2 f3 fv:KS):SF:=λas=>(f1 as).bind λk1=>(f2 as).bind λk2=>(f3 as).bind λk3=>(fv as).bind λc=>if 0<=k1/\0<=k2/\0<=k3/\tG as y=true then
 (M4 YY as i).bind λos=>(KH IE os k1.toNat).bind λps=>(KH YY ps n).bind λrows=>(KH YY rows k2.toNat).bind λinner=>(KH Qm inner k3.toNat).bind λ_=>some (.nx (as.set i (some (.nd .ls (os.set k1.toNat (.nd .tp (ps.set n (.nd .ls (rows.set k2.toNat (.nd .ls (inner.set k3.toNat (.lf true (.int c)))))))))))))else none
def C8(h:j<n):OP n (j:Int)=some j:=by
 unfold OP;rw[if_pos (by omega),if_pos (by omega)];simp
def Kc(h0:0<=k)(h:k.toNat<n):OP n k=some k.toNat:=by
 have:=C8 h;rw[show((k.toNat:Nat):Int)=k by omega]at this;exact this
def K6(h0:0<=k)(h:xs[k.toNat]? = some v):La xs k=some v:=by
 have:=vZ h;rw[show((k.toNat:Nat):Int)=k by omega]at this;exact this
section
variable{X:Cx}{kd:KD}{f f1 f2 f3 fv:KS}{e1 e2 e3 ev:Expr}{i y:Nat}
def Cd(ho:PE X (.Name x p) (WZ i))(h1:AK X kd e1 f)(hv:AK X kd ev fv)
 (ha:∀v,assign (.Subscript (.Name x p) e1 tpos) X.env v=(do
  let ov <-holding [v] (eval (.Name x p) X.env);let iv <-holding [v,ov] (eval e1 X.env)
  standAt tpos
  holding [v,ov,iv] (setItem ov iv v)
  release [v,ov,iv] []))
 (hs:swapsWithSole [.Subscript (.Name x p) e1 tpos] ev pos.line X.env=pure false) (hw:swappedStores [.Subscript (.Name x p) e1 tpos] ev X.env=pure none)
 (hm:(assignEach [.Subscript (.Name x p) e1 tpos] X.env).map (·.2)=[assign (.Subscript (.Name x p) e1 tpos) X.env]):
 Tt X kd (.Assign [.Subscript (.Name x p) e1 tpos] ev pos) (SK i f fv):=by
 with_unfolding_all exact(wo (K2 hv (Eg ho h1 set_list ha) hs hw hm) λD σ H h=>by
  obtain⟨F,B,a,as,o,R,e,q⟩:=h;obtain⟨k,j,e⟩:=bS_ (show(f as).bind _=_ from e);obtain⟨c,l,e⟩:=bS_ e;obtain⟨m,e⟩:=ite_some' e;obtain⟨I,n,e⟩:=bS_ e;obtain⟨d,r,e⟩:=bS_ e;have s:=IA n;obtain⟨J,t⟩:=D8 r;cases e;obtain⟨v,sv,u,w,y,z⟩:=R.slotU s;obtain⟨p,b,rfl,A,C,E,g⟩:=Kg c u w y t;obtain⟨R2,G⟩:=z p _ _ A g;exact⟨F,B,a,as,c,R,l,_,sv,F,B,a,as,k,R,j,p,b,k,k.toNat,rfl,rfl,C,Kc m E,q σ a _ R2 G⟩)
def Cb{x:Str}{p p1 tpos pos:Pos}(ho:PE X (.Name x p) (WZ i))(h1:AK X kd e1 f1)(hp1:v_ e1)(h2:AK X kd e2 f2)(hv:AK X kd ev fv)
 (ha:∀v,assign (.Subscript (.Subscript (.Name x p) e1 p1) e2 tpos) X.env v=(do
  let ov <-holding [v] (eval (.Subscript (.Name x p) e1 p1) X.env);let iv <-holding [v,ov] (eval e2 X.env)
  standAt tpos
  holding [v,ov,iv] (setItem ov iv v)
  release [v,ov,iv] []))
 (hs:swapsWithSole [.Subscript (.Subscript (.Name x p) e1 p1) e2 tpos] ev pos.line X.env=pure false) (hw:swappedStores [.Subscript (.Subscript (.Name x p) e1 p1) e2 tpos] ev X.env=pure none)
 (hm:(assignEach [.Subscript (.Subscript (.Name x p) e1 p1) e2 tpos] X.env).map (·.2)=[assign (.Subscript (.Subscript (.Name x p) e1 p1) e2 tpos) X.env]):
 Tt X kd (.Assign [.Subscript (.Subscript (.Name x p) e1 p1) e2 tpos] ev pos) (Nj i f1 f2 fv):=by
 with_unfolding_all exact(wo (K2 hv (Eg (Gv VR ho h1 hp1) h2 set_list ha) hs hw hm) λD σ H h=>by
  obtain⟨F,B,b,as,o,R,e,q⟩:=h;obtain⟨z,G,e⟩:=bS_ (show(f1 as).bind _=_ from e);obtain⟨f,I,e⟩:=bS_ e;obtain⟨c,J,e⟩:=bS_ e;obtain⟨⟨g,j⟩,e⟩:=ite_some' e;obtain⟨os,K,e⟩:=bS_ e;obtain⟨k,L,e⟩:=bS_ e;obtain⟨d,M,e⟩:=bS_ e;have N:=IA K;have O:=AY L;obtain⟨st,P⟩:=D8 M;cases e;obtain⟨v,sv,Q,S,A,T⟩:=R.slotU N;obtain⟨l,U,w,fw,rfl,V,n,r,W,C,s⟩:=M5 Q S A O;obtain⟨p,t,rfl,E,u,Y,y⟩:=Kg c r W (λa m=>A a (C a m)) P;obtain⟨R2,Z⟩:=T p _ _ (C p E) (s p _ _ E y);exact⟨F,B,b,as,c,R,J,_,sv,F,B,b,as,z,R,G,l,U,z,_,rfl,rfl,.inl (.inl V),K6 g n,F,B,b,as,f,R,I,p,t,f,f.toNat,rfl,rfl,u,Kc j Y,q σ b _ R2 Z⟩)
def C3{x z:Str}{n:Nat}{ec:Expr}{p p1 p2 py pos0 q0 q1 tpos pos:Pos}(hN:X.N.Nodup)(hyi:X.N[y]? = some z)(hyl:Loc X.env.scope z)(hyf:X.fn z=true\/X.env.scope.names.lookup z=some .local)
 (ho:PE X (.Name x p) (WZ i)) (h1:AK X kd e1 f1) (hp1:v_ e1) (hc:PE X ec (tC (.int n))) (hpc:v_ ec) (hsw:swapsWith (.Subscript (.Subscript (.Name x p) e1 p1) ec p2) (some (.Name z py)) pos0.line X.env=pure false)
 (ho2:PE X (.Name z q0) (WZ y)) (h2:AK X kd e2 f2) (hp2:v_ e2) (h3:AK X kd e3 f3) (hv:AK X kd ev fv)
 (ha:∀v,assign (.Subscript (.Subscript (.Name z q0) e2 q1) e3 tpos) X.env v=(do
  let ov <-holding [v] (eval (.Subscript (.Name z q0) e2 q1) X.env);let iv <-holding [v,ov] (eval e3 X.env)
  standAt tpos
  holding [v,ov,iv] (setItem ov iv v)
  release [v,ov,iv] []))
 (hs:swapsWithSole [.Subscript (.Subscript (.Name z q0) e2 q1) e3 tpos] ev pos.line X.env=pure false) (hw:swappedStores [.Subscript (.Subscript (.Name z q0) e2 q1) e3 tpos] ev X.env=pure none)
 (hm:(assignEach [.Subscript (.Subscript (.Name z q0) e2 q1) e3 tpos] X.env).map (·.2)=[assign (.Subscript (.Subscript (.Name z q0) e2 q1) e3 tpos) X.env]):
 MS X kd [.Assign [.Name z py] (.Subscript (.Subscript (.Name x p) e1 p1) ec p2) pos0,.Assign [.Subscript (.Subscript (.Name z q0) e2 q1) e3 tpos] ev pos] (Sx y i f1 n f2 f3 fv):=by
 with_unfolding_all exact(Lw (Nc (SA hN hyi hyl (Gv SU (Gv VR ho h1 hp1) hc hpc) hsw hyf) (Fc (K2 hv (Eg (Gv VR ho2 h2 hp2) h3 set_list ha) hs hw hm))) λD σ H h=>by
  obtain⟨F,B,g,as,o,R,e,q⟩:=h;obtain⟨n1,j1,e⟩:=bS_ (show(f1 as).bind _=_ from e);obtain⟨n2,j2,e⟩:=bS_ e;obtain⟨u,j3,e⟩:=bS_ e;obtain⟨c,j4,e⟩:=bS_ e;obtain⟨⟨A,C,E,f⟩,e⟩:=ite_some' e;have f:=Ai f;obtain⟨os,e1,e⟩:=bS_ e;obtain⟨ps,e2,e⟩:=bS_ e;obtain⟨rows,e3,e⟩:=bS_ e;obtain⟨G,e4,e⟩:=bS_ e;obtain⟨d,e5,e⟩:=bS_ e;have I:=IA e1;have k2:=qD e2;have k3:=AY e3;have k4:=AY e4;obtain⟨st,k5⟩:=D8 e5;cases e;obtain⟨v,sv,ro,hn,s,up⟩:=R.slotU I;obtain⟨l,vs,w,fw,rfl,hH,J,K,fn,t,L⟩:=M5 ro hn s k2;obtain⟨l2,M,w2,fw2,rfl,O,j,P,Q,b,S⟩:=JP K fn (λa m=>s a (t a m)) k3;obtain⟨T,U,w3,fw3,rfl,V,k,W,Y,r,Z⟩:=M5 P Q (λa m=>s a (t a (b a m))) k4;obtain⟨p,ivs,rfl,hp,hHp,hl,ro'⟩:=Kg c W Y (λa m=>s a (t a (b a (r a m)))) k5;have m3:=r p hp;have m2:=b p m3;have m1:=t p m2;obtain⟨R2,g2⟩:=up p _ _ m1 (L p _ _ m2 (S p _ _ m3 (Z p _ _ hp ro')));have yl:y<σ.length:=by rw[<-R.len];exact(zzG.mp f).1
  have R':=R.any (y:=y) (v:=some (.ref T)) f;have niy:i≠y:=λe=>by subst e;rw[f]at I;cases I
  have R2':=R2.any (y:=y) (v:=some (.ref T)) (by rw[zzY niy];exact f);refine⟨_,sv,F,B,g,as,n1,R,j1,l,vs,n1,_,rfl,rfl,.inl (.inl hH),K6 A J,l2,M,(n:Int),_,rfl,rfl,.inl (.inl O),vZ j, ?_⟩;exact⟨F,B,g,as,c,R',j4,_,zyK yl,F,B,g,as,n2,R',j2,T,U,n2,_,rfl,rfl,.inl (.inl V),K6 C k,F,B,g,as,u,R',j3,p,ivs,u,u.toNat,rfl,rfl,hHp,Kc E hl,q _ g _ R2' g2⟩)
end
section
variable{X:Cx}{kd:KD}
def Dm:uw X (λx lo hi H Q=>∃z,x = .str z/\z.length<=sizeLine/\Q (.str (Txt.slice z lo hi)) H):=by
 intro f s σ H x v p r w y A Q I n a o g h;obtain⟨z,rfl,b,q⟩:=h;obtain⟨t,rfl⟩:=n;refine⟨"str",_,F.slot_str_getitem.lookup,typeIs_str _ _ _, ?_⟩;cases o with
 |none=>
  cases g with
  |none=>exact wpAny_getItem_str_slice (l:=none) (u:=none) (st:=none) a rfl (post_val_or_str ⟨zzO (Txt.slice_le z _ _) b,λc k=>⟨.str _,H,I.kept (λ_ _ e=>e),⟨_,rfl⟩,q⟩⟩)
  |int j d=>exact wpAny_getItem_str_slice (l:=none) (u:=some (j,d)) (st:=none) a rfl (post_val_or_str ⟨zzO (Txt.slice_le z _ _) b,λc k=>⟨.str _,H,I.kept (λ_ _ e=>e),⟨_,rfl⟩,q⟩⟩)
 |int i m=>
  cases g with
  |none=>exact wpAny_getItem_str_slice (l:=some (i,m)) (u:=none) (st:=none) a rfl (post_val_or_str ⟨zzO (Txt.slice_le z _ _) b,λc k=>⟨.str _,H,I.kept (λ_ _ e=>e),⟨_,rfl⟩,q⟩⟩)
  |int j d=>exact wpAny_getItem_str_slice (l:=some (i,m)) (u:=some (j,d)) (st:=none) a rfl (post_val_or_str ⟨zzO (Txt.slice_le z _ _) b,λc k=>⟨.str _,H,I.kept (λ_ _ e=>e),⟨_,rfl⟩,q⟩⟩)
noncomputable def Ce:D->Option Int->Option Int->Option R0
 | .str z,lo,hi=>if z.length<=sizeLine then some (.im (.str (Txt.slice z lo hi)))else none
 |_,_,_=>none
def u_:uw X (λx lo hi H Q=>∃O d r,(∀a,O a->H a≠none)/\Vw X.K kd O H x d/\Ce d lo hi=some r/\RQ X.K kd O H Q r):=by
 intro b s σ H x v f g i j k Q I l m n o h;obtain⟨O,d,r,t,p,e,q⟩:=h;unfold Ce at e
 split at e
 . obtain⟨c,rfl⟩:=zM e;cases p;exact Dm b s σ H _ v f g i j k Q I l m n o ⟨_,rfl,c,yg q (.str _)⟩
 . cases e
def BI{a:Expr}{lo hi:Option Expr}{fa:EF}{fl fh:OF}{pos p2:Pos}(ha:AE X kd a fa)(hl:AO X kd lo fl)(hh:AO X kd hi fh):AE X kd (.Subscript a (.Slice lo hi none p2) pos) (Qr fa fl fh Ce):=by with_unfolding_all exact(yE (Nu u_ ha hl hh) λσ H Q h=>by
 obtain⟨F,B,O,as,r,s,R,e,q⟩:=h;obtain⟨⟨p,c⟩,t,e⟩:=bS_ (show(fa as).bind _=_ from e);obtain⟨⟨l,b⟩,x,e⟩:=bS_ e;obtain⟨⟨u,y⟩,A,e⟩:=bS_ e;obtain⟨⟨d,P⟩,C,e⟩:=bS_ e;obtain⟨D,E,e⟩:=bS_ e;obtain⟨z,G,e⟩:=bS_ e;cases e;refine wH R t λv f S I g J=>⟨F,B,f,c,l,b,I,x,λi T R2 n=>⟨F,B,i,b,u,_,R2,A,λj U k o=>?_⟩⟩;exact⟨_,d,D,k.tr _,xq.vw k ((g.grow n).grow o) C,E,Za k G λw K L M m N=>q w K j L M m (((J.trans n).trans o).trans N)⟩)
end
noncomputable def K4:List D->Option R0
 | [.int i,.int j]=>if 0<j/\j<1073741824 then some (.im (.tup [.int (i/j),.int (i%j)]))else none
 |_=>none
def pY{α:Type}{P:List α->Prop}(h:∀a,P [a]):∀us:List α,us.length=1->P us
 | [a],_=>h a
def oe{α:Type}{P:List α->Prop}(h:∀a b,P [a,b]):∀us:List α,us.length=2->P us
 | [a,b],_=>h a b
def oI{α:Type}{P:List α->Prop}(h:∀a b c,P [a,b,c]):∀us:List α,us.length=3->P us
 | [a,b,c],_=>h a b c
def oA{α:Type}{P:List α->Prop}(h:∀a b c d,P [a,b,c,d]):∀us:List α,us.length=4->P us
 | [a,b,c,d],_=>h a b c d
def p7{α:Type}{P:List α->Prop}(h:∀a b c d e,P [a,b,c,d,e]):∀us:List α,us.length=5->P us
 | [a,b,c,d,e],_=>h a b c d e
section
variable{X:Cx}{kd:KD}
def BJ:YJ X kd (.builtin "divmod") K4:=by
 intro a s σ H j c Q I r h;obtain⟨O,k,z,d,e,b,q⟩:=h;unfold K4 at b
 split at b
 . obtain⟨f,rfl⟩:=zM b;obtain⟨x,y,rfl,g,i⟩:=Il e;cases g;cases i;exact NT a s σ H _ c Q I r ⟨_,_,rfl,f,P2 d q (.cons (.int _) (.cons (.int _) .nil))⟩
 . cases b
def aI:AE X kd (.Constant (.int c) j pos) (fC (.int c)):=LB KR λ_ _=>.int _
def aS:AE X kd (.Constant (.str c) j pos) (fC (.str c)):=LB A9 λ_ _=>.str _
def aZ:AE X kd (.Constant .none j pos) (fC .non):=LB ui λ_ _=>.non
noncomputable def aB:AE X kd (.Constant (.bool c) j pos) (fC (.bl c)):=LB tX λ_ _=>.bl _
def ax{P:Program}{w:World}{K:zzA}{a b:Expr}{fa fb:EF}{pos:Pos}(hkd:vd P w K kd)(ha:AE X kd a fa)(hb:AE X kd b fb)(h1:X.prog=P:=by rfl)(h2:X.w=w:=by rfl)(h3:X.K=K:=by rfl)(hm:v_ b:=by exact λ_ _=>rfl):AE X kd (.Subscript a b pos) (f2 fa fb zk):=Jr (qz (hkd _ h1 h2 h3)) ha hb hm
def sv(z:Bool)(i:Nat)(hN:X.N.Nodup)(he:AE X kd e fa)(hi:X.N[i]? = some x:=by rfl)(hx:Loc X.env.scope x:=by first|exact Or.inl rfl|exact Or.inr rfl)(hs:swapsWith e (some (.Name x pos')) pos.line X.env=pure false:=by rfl)(hf:X.fn x=true\/X.env.scope.names.lookup x=some .local:=by first|exact Or.inl rfl|exact Or.inr rfl):
 Tt X kd (.Assign [.Name x pos'] e pos) (zz z i fa):=OI hN hi hx he hs hf
def an(i:Nat)(hN:X.N.Nodup)(hi:X.N[i]? = some x:=by rfl)(hx:Loc X.env.scope x:=by first|exact Or.inl rfl|exact Or.inr rfl)(hf:X.fn x=true\/X.env.scope.names.lookup x=some .local:=by first|exact Or.inl rfl|exact Or.inr rfl):AG X kd (.Name x pos) [i] (gN i):=E4 hN hi hx hf
def av(i:Nat)(hN:X.N[i]? = some x:=by rfl)(hv:uX X.env.scope x:=by first|exact Or.inl rfl|exact Or.inr (Or.inl rfl)|exact Or.inr (Or.inr rfl))(hd:(x==("__debug__":Str))=false:=by decide)
 (hcd:(x==("__classdict__":Str))=false:=by decide):AE X kd (.Name x pos) (fV i):=J4 (B7 hN hv hd hcd)
end
structure CI(K:zzA)(kd:KD)(mg:Str->Option Value)(c:Str)(C:Addr):Prop where
 eq:kd.c c=C
 cl:Cls K C
 mks:PySem.W.makesIn K C=true
 kp:PySem.W.keepIn K (.ref C)=true
 mg:mg c=some (.ref C)
def W4(hit:s.heap.IsTupleIter it l i)(hl:s.heap.IsTuple l items)(hx:items[i]? = some x)
 (h:∀h':Heap,h'.IsTupleIter it l (i+1)->Heap.SameBut it s.heap h'->Q x {s with heap:=h'}):wpAny (model prog w) A (Builtin.SmallTypes.nextOf (.ref it)) Q E s:=by
 obtain⟨o,c,e,b⟩:=id hit;obtain⟨g,d,f,j,a⟩:=hl;refine zxG (wpAny_callSpecial?_slot hit.typeIs F.slot_tuple_iterator_next (zxQ F.slot_tuple_iterator_next hit.typeIs F.entry_tuple_iterator_next ?_));unfold Builtin.«tuple_iterator.__next__»
 wp_walk using wpAny_field c b rfl,wpAny_seqItems d a
 rw[a]
 wp_walk
 rw[zyI,hx];refine zxG (wpAny_setField c b (by simp) ?_);refine zxH ⟨x,rfl,zxH (h _ ⟨_,zxO _ c (Obj.isFreed_of_fields (Obj.data_mapFields b _)),(Obj.cls_mapFields o _).trans e,(Obj.data_mapFields b _).trans (by simp[rawInt])⟩ (Heap.SameBut.update _ _ _))⟩
def Qi(hh:A.handled=none)(hit:s.heap.IsTupleIter it l i)(hl:s.heap.IsTuple l items)(hx:items[i]? = none)
 (h:∀(h':Heap) (e:Addr),Heap.ExtBut it s.heap h'->(∃o,h'.get? e=some o/\o.cls = .type "StopIteration")->E (.ref e) {s with heap:=h'}):wpAny (model prog w) A (Builtin.SmallTypes.nextOf (.ref it)) Q E s:=by
 obtain⟨o,c,g,d⟩:=id hit;obtain⟨j,b,f,k,a⟩:=hl;refine zxG (wpAny_callSpecial?_slot hit.typeIs F.slot_tuple_iterator_next (zxQ F.slot_tuple_iterator_next hit.typeIs F.entry_tuple_iterator_next ?_));unfold Builtin.«tuple_iterator.__next__»
 wp_walk using wpAny_field c d rfl,wpAny_seqItems b a
 rw[a]
 wp_walk
 rw[zyI,hx];refine zxG (wpAny_rule (zxG (wpAny_setField c d (by simp) ?_)))
 wp_walk
 refine wpAny_raiseNew_none hh (h _ _ (((Heap.SameBut.update _ _ _).extBut.push _).push _) ⟨_,zxK _ rfl,rfl⟩)
def YG(b:Bool)(h:Heap)(it l:Addr)(k:Nat):Prop:=if b=true then h.IsTupleIter it l k else h.IsListIter it l k
def Rc(b:Bool)(h:Heap)(l:Addr)(xs:Array Value):Prop:=if b=true then h.IsTuple l xs else h.IsList l xs
def wj:∀{b:Bool},YG b s.heap it l i->Rc b s.heap l items->items[i]? = some x->
 (∀h':Heap,YG b h' it l (i+1)->Heap.SameBut it s.heap h'->Q x {s with heap:=h'})->wpAny (model prog w) A (Builtin.SmallTypes.nextOf (.ref it)) Q E s
 |true,a,c,d,e=>W4 a c d e
 |false,a,c,d,e=>wpAny_nextOf_list_item a c d e
def ZJ(hh:A.handled=none):∀{b:Bool},YG b s.heap it l i->Rc b s.heap l items->items[i]? = none->
 (∀(h':Heap) (e:Addr),Heap.ExtBut it s.heap h'->(∃o,h'.get? e=some o/\o.cls = .type "StopIteration")->E (.ref e) {s with heap:=h'})->wpAny (model prog w) A (Builtin.SmallTypes.nextOf (.ref it)) Q E s
 |true,a,c,d,f=>Qi hh a c d f
 |false,a,c,d,f=>wpAny_nextOf_list_end hh a c d f
def YG.ext:∀{b:Bool},YG b h it l k->Heap.ExtBut a h h'->it≠a->YG b h' it l k
 |true,x,e,n=>Heap.IsTupleIter.extBut x e n
 |false,x,e,n=>Heap.IsListIter.extBut x e n
def Rc.ext:∀{b:Bool},Rc b h l xs->Heap.ExtBut a h h'->l≠a->Rc b h' l xs
 |true,x,e,n=>Heap.IsTuple.extBut x e n
 |false,x,e,n=>Heap.IsList.extBut x e n
def YG.at(k':∀o,h.get? it=some o->h'.get? it=some o):∀{b:Bool},YG b h it l k->YG b h' it l k
 |true,⟨o,e,c⟩=>⟨o,k' o e,c⟩
 |false,⟨o,e,c⟩=>⟨o,k' o e,c⟩
theorem YG.push(x:YG b h it l k):YG b (h.push o) it l k:=x.at λ_ e=>zxI _ e
def T9(h:Q (s.heap.get? a) s):wpAny M A (loadIfAlive a) Q E s:=λΓ p b=>by
 unfold loadIfAlive;rw[Sem.wp_loadIfAlive];exact zxH (M:=M) (A:=A) (E:=E) h Γ p b
def K9(h:Heap)(z TI TO:Addr)(f0:Value)(f1:Bool):Prop:=h.get? z=some {cls:=.type "zip",data:=.fields #[f0,.bool f1,.bool false,.ref TI,.ref TO]}
def Zf(f0:Value):Prop:=f0 = .none\/∃n:Int,f0=rawInt n
def EX{prog:Program}{w:World}{A:Around}{E:Value->Shared->Prop}{s:Shared}{z TI TO:Addr}{f0:Value}{f1:Bool}{Q:Bool->Shared->Prop}(hz:K9 s.heap z TI TO f0 f1)(hf:Zf f0)(h1:Q true s)(h2:∀h' f1',K9 h' z TI TO f0 f1'->Heap.SameBut z s.heap h'->Q false {s with heap:=h'}):
 wpAny (model prog w) A (Builtin.SmallTypes.ownedTupleIsFree (.ref z)) Q E s:=by
 rcases hf with rfl|⟨n,rfl⟩
 . exact zxG (wpAny_field hz rfl rfl (zxH h1))
 . refine zxG (wpAny_field hz rfl rfl ?_);change wpAny (model prog w) A (bind (loadIfAlive n.toNat) _) Q E s;refine zxG (T9 ?_);cases e:s.heap.get? n.toNat with
   |none=>exact zxH h1
   |some o=>
    rw[if_neg (by simp)];refine zxG (wpAny_field hz rfl rfl ?_);cases f1 with
    |true=>exact zxH (h2 s.heap true hz (Heap.SameBut.refl _ _))
    |false=>exact zxG (wpAny_setField_rec hz (by simp) λb a c=>zxH (h2 b true a c))
def HR{b1 b2:Bool}{prog:Program}{w:World}{A:Around}{E:Value->Shared->Prop}{s:Shared}{z TI TO i1 i2 l1 l2:Addr}{k1 k2:Nat}{xs ys:Array Value}{x y a b f0:Value}{f1:Bool}{Q:Value->Shared->Prop}(D:ZipApart z TI TO i1 i2 l1 l2)
 (hz:K9 s.heap z TI TO f0 f1) (hf:Zf f0) (hTI:IsPair s.heap TI (.ref i1) (.ref i2)) (hTO:IsPair s.heap TO a b) (h1:YG b1 s.heap i1 l1 k1) (h2:YG b2 s.heap i2 l2 k2) (q1:Rc b1 s.heap l1 xs) (q2:Rc b2 s.heap l2 ys) (hx:xs[k1]? = some x) (hy:ys[k2]? = some y)
 (h:∀(h':Heap) (g0:Value) (g1:Bool),K9 h' z TI TO g0 g1->Zf g0->(∃p q,IsPair h' TO p q)->YG b1 h' i1 l1 (k1+1)->YG b2 h' i2 l2 (k2+1)->IsPair h' s.heap.objs.size x y->(∀c o,c≠z->c≠TO->c≠i1->c≠i2->s.heap.get? c=some o->h'.get? c=some o)->Q (.ref s.heap.objs.size) {s with heap:=h'}):
 wpAny (model prog w) A (Builtin.«zip.__next__» {pos:=[.ref z]}) (λfin s'=>∃v,fin=Fin.done (Flow.ret v)/\Q v s') E s:=by
 change wpAny (model prog w) A (bind (field (.ref z) 2) _) _ E s;refine zxG (wpAny_field hz rfl rfl ?_);change wpAny (model prog w) A (bind (field (.ref z) 3) _) _ E s;refine zxG (wpAny_field hz rfl rfl (zxG (wpAny_seqItems hTI rfl ?_)));change wpAny (model prog w) A (bind (Builtin.SmallTypes.ownedTupleIsFree (.ref z)) _) _ E s;refine zxG (EX hz hf ?_ λh₁ g1 z1 hs₁=>?_)
 . rw[if_pos rfl];refine zxG (wpAny_rule (zxG (wpAny_field hz rfl rfl ?_)));refine zxG (wpAny_setField_rec hz (by simp) λh₁ hz₁ hs₁=>?_);refine zxG ?_;rw[show(#[Value.ref i1,Value.ref i2].toList.zipIdx)=[(Value.ref i1,0),(Value.ref i2,1)]from rfl,List.forIn_cons];have x1:=h1.ext hs₁.extBut D.i1z;have y1:=q1.ext hs₁.extBut D.l1z;refine zxG (zxG (wpAny_onRaise ?_));change wpAny (model prog w) A (bind (Builtin.SmallTypes.nextOf (.ref i1)) _) _ _ _;refine zxG (wj x1 y1 hx λh₂ x2 hs₂=>zxH ?_);have t2:IsPair h₂ TO a b:=hs₂.extBut TO _ D.TOi1 (hs₁.extBut TO _ D.TOz hTO);refine zxG (wpAny_seqItems t2 rfl (zxG (wpAny_updateSeq_pair t2 λh₃ t3 hs₃=>?_)));refine zxG (wpAny_letGo (zxH ?_));have x3:=((h2.ext hs₁.extBut D.i2z).ext hs₂.extBut D.i12.symm).ext hs₃.extBut D.TOi2.symm;have y3:=((q2.ext hs₁.extBut D.l2z).ext hs₂.extBut D.l2i1).ext hs₃.extBut D.l2TO;change wpAny (model prog w) A (forIn [(Value.ref i2,1)] _ _) _ E _;rw[List.forIn_cons];refine zxG (zxG (wpAny_onRaise ?_));change wpAny (model prog w) A (bind (Builtin.SmallTypes.nextOf (.ref i2)) _) _ _ _;refine zxG (wj x3 y3 hy λh₄ x4 hs₄=>zxH ?_);have t4:IsPair h₄ TO x b:=hs₄.extBut TO _ D.TOi2 t3;refine zxG (wpAny_seqItems t4 rfl (zxG (wpAny_updateSeq_pair t4 λh₅ t5 hs₅=>?_)));refine zxG (wpAny_letGo (zxH ?_));change wpAny (model prog w) A (forIn [] _ _) _ E _;rw[List.forIn_nil];refine zxH ?_;have t5:IsPair h₅ TO x y:=t5;refine zxG (wpAny_seqItems t5 rfl (zxG (wpAny_newTuple ?_)));have e5:h₅.objs.size=s.heap.objs.size:=hs₅.1.trans (hs₄.1.trans (hs₃.1.trans (hs₂.1.trans hs₁.1)));have z1:K9 h₁ z TI TO .ellipsis f1:=hz₁;have z5:K9 h₅ z TI TO .ellipsis f1:=hs₅.extBut z _ D.TOz.symm (hs₄.extBut z _ D.i2z.symm (hs₃.extBut z _ D.TOz.symm (hs₂.extBut z _ D.i1z.symm z1)));refine zxG ?_;change wpAny (model prog w) A (bind (setField (.ref z) 0 (rawInt (h₅.objs.size:Int))) λ_=>setField (.ref z) 1 (.bool false)) _ E {s with heap:=h₅.push {cls:=.type "tuple",data:=.seq #[x,y]}};refine zxG (wpAny_setField_rec (s:={s with heap:=h₅.push {cls:=.type "tuple",data:=.seq #[x,y]}}) (zxI _ z5) (by simp) λh₇ z7 hs₇=>?_);refine wpAny_setField_rec z7 (by simp) λh₆ z6 hs₆'=>zxH ⟨_,rfl, ?_⟩;have hs₆:=hs₇.trans hs₆';have lt:∀c o,h₅.get? c=some o->c≠z->h₆.get? c=some o:=λc o q n=>hs₆.extBut c o n (zxI _ q);have nz:h₅.objs.size≠z:=λe=>by
    have:=zxJ z5;rw[<-e]at this;exact Nat.lt_irrefl _ this
   show Q (.ref h₅.objs.size) {s with heap:=h₆};rw[e5];refine h h₆ (rawInt (h₅.objs.size:Int)) false z6 (.inr ⟨_,rfl⟩) ⟨_,_,lt TO _ t5 D.TOz⟩ ?_ ?_ ?_ λc o c1 c2 c3 c4 q=>?_
   . have:=((x2.ext hs₃.extBut D.TOi1.symm).ext hs₄.extBut D.i12).ext hs₅.extBut D.TOi1.symm;exact(YG.push this).ext hs₆.extBut D.i1z
   . exact(YG.push (x4.ext hs₅.extBut D.TOi2.symm)).ext hs₆.extBut D.i2z
   . rw[<-e5];exact hs₆.extBut _ _ nz (zxK _ rfl)
   . exact lt c o (hs₅.extBut c o c2 (hs₄.extBut c o c4 (hs₃.extBut c o c2 (hs₂.extBut c o c3 (hs₁.extBut c o c1 q))))) c1
 . rw[if_neg (by simp)];change wpAny (model prog w) A (bind (forIn #[Value.ref i1,Value.ref i2] _ _) _) _ E _;rw[<-Array.forIn_toList,show #[Value.ref i1,Value.ref i2].toList=[Value.ref i1,Value.ref i2]from rfl,List.forIn_cons];have x1:=h1.ext hs₁.extBut D.i1z;have y1:=q1.ext hs₁.extBut D.l1z;refine zxG (zxG (zxG (zxM ?_)));change wpAny (model prog w) A (bind (Builtin.SmallTypes.nextOf (.ref i1)) _) _ _ _;refine zxG (wj x1 y1 hx λh₂ x2 hs₂=>zxH (zxH ?_));change wpAny (model prog w) A (forIn [Value.ref i2] _ _) _ E _;rw[List.forIn_cons];have x3:=(h2.ext hs₁.extBut D.i2z).ext hs₂.extBut D.i12.symm;have y3:=(q2.ext hs₁.extBut D.l2z).ext hs₂.extBut D.l2i1;refine zxG (zxG (zxM ?_));change wpAny (model prog w) A (bind (Builtin.SmallTypes.nextOf (.ref i2)) _) _ _ _;refine zxG (wj x3 y3 hy λh₄ x4 hs₄=>zxH (zxH ?_));change wpAny (model prog w) A (forIn [] _ _) _ E _;rw[List.forIn_nil];refine zxH (zxG (wpAny_newTuple ?_ (show 2<=sizeLine by decide)));refine zxH ⟨_,rfl, ?_⟩;have e4:h₄.objs.size=s.heap.objs.size:=hs₄.1.trans (hs₂.1.trans hs₁.1);show Q (.ref h₄.objs.size) {s with heap:=h₄.push {cls:=.type "tuple",data:=.seq #[x,y]}};have z4:K9 h₄ z TI TO f0 g1:=hs₄.extBut z _ D.i2z.symm (hs₂.extBut z _ D.i1z.symm z1);have t4:IsPair h₄ TO a b:=hs₄.extBut TO _ D.TOi2 (hs₂.extBut TO _ D.TOi1 (hs₁.extBut TO _ D.TOz hTO));rw[e4];refine h _ f0 g1 (zxI _ z4) hf ⟨_,_,zxI _ t4⟩ (YG.push (x2.ext hs₄.extBut D.i12)) (YG.push x4) ?_ λc o c1 c2 c3 c4 q=>zxI _ (hs₄.extBut c o c4 (hs₂.extBut c o c3 (hs₁.extBut c o c1 q)));rw[<-e4];exact zxK _ rfl
def II{b1 b2:Bool}{prog:Program}{w:World}{A:Around}{E:Value->Shared->Prop}{s:Shared}{z TI TO i1 i2 l1 l2:Addr}{k1 k2:Nat}{xs ys:Array Value}{a b f0:Value}{f1:Bool}{Q:PySem.Fin->Shared->Prop}(hh:A.handled=none)(D:ZipApart z TI TO i1 i2 l1 l2)
 (hz:K9 s.heap z TI TO f0 f1) (hf:Zf f0) (hTI:IsPair s.heap TI (.ref i1) (.ref i2)) (hTO:IsPair s.heap TO a b) (h1:YG b1 s.heap i1 l1 k1) (h2:YG b2 s.heap i2 l2 k2) (q1:Rc b1 s.heap l1 xs) (q2:Rc b2 s.heap l2 ys) (hx:xs[k1]? = none\/ys[k2]? = none)
 (h:∀(h':Heap) (e:Addr),(∀c o,c≠z->c≠TO->c≠i1->c≠i2->s.heap.get? c=some o->h'.get? c=some o)->(∃o,h'.get? e=some o/\o.cls = .type "StopIteration")->E (.ref e) {s with heap:=h'}):
 wpAny (model prog w) A (Builtin.«zip.__next__» {pos:=[.ref z]}) Q E s:=by
 have fin:∀(h':Heap) (e:Addr),(∃f g,K9 h' z TI TO f g)->(∀c o,c≠z->c≠TO->c≠i1->c≠i2->s.heap.get? c=some o->h'.get? c=some o)->(∃o,h'.get? e=some o/\o.cls = .type "StopIteration")->
  wpAny (model prog w) A (setField (.ref z) 0 Value.none) (λ_ s''=>E (.ref e) s'') E {s with heap:=h'}:=λh' e ⟨f,g,hf⟩ kk ⟨o,ho,hc⟩=>by
  refine wpAny_setField_rec (s:={s with heap:=h'}) hf (by simp) λh'' z'' hs=>?_;have ne:e≠z:=λe'=>by
   subst e';have:=(show h'.get? e=some _ from hf).symm.trans ho;cases this;exact absurd (show Value.type "zip"=Value.type "StopIteration" from hc) (by decide)
  exact h h'' e (λc o c1 c2 c3 c4 q=>hs.extBut c o c1 (kk c o c1 c2 c3 c4 q)) ⟨o,hs.extBut e o ne ho,hc⟩
 change wpAny (model prog w) A (bind (field (.ref z) 2) _) _ E s;refine zxG (wpAny_field hz rfl rfl ?_);change wpAny (model prog w) A (bind (field (.ref z) 3) _) _ E s;refine zxG (wpAny_field hz rfl rfl (zxG (wpAny_seqItems hTI rfl ?_)));change wpAny (model prog w) A (bind (Builtin.SmallTypes.ownedTupleIsFree (.ref z)) _) _ E s;refine zxG (EX hz hf ?_ λh₁ g1 z1 hs₁=>?_)
 . rw[if_pos rfl];refine zxG (wpAny_rule (zxG (wpAny_field hz rfl rfl ?_)));refine zxG (wpAny_setField_rec hz (by simp) λh₁ hz₁ hs₁=>?_);refine zxG ?_;rw[show(#[Value.ref i1,Value.ref i2].toList.zipIdx)=[(Value.ref i1,0),(Value.ref i2,1)]from rfl,List.forIn_cons];have z1:K9 h₁ z TI TO .ellipsis f1:=hz₁;have x1:=h1.ext hs₁.extBut D.i1z;have y1:=q1.ext hs₁.extBut D.l1z;refine zxG (zxG (wpAny_onRaise ?_));change wpAny (model prog w) A (bind (Builtin.SmallTypes.nextOf (.ref i1)) _) _ _ _;cases e1:xs[k1]? with
   |none=>exact zxG (ZJ hh x1 y1 e1 λh' e ex ho=>fin h' e ⟨_,_,ex z _ D.i1z.symm z1⟩ (λc o c1 c2 c3 c4 q=>ex c o c3 (hs₁.extBut c o c1 q)) ho)
   |some x=>
    have hy:ys[k2]? = none:=hx.resolve_left (by rw[e1];simp);refine zxG (wj x1 y1 e1 λh₂ x2 hs₂=>zxH ?_);have t2:IsPair h₂ TO a b:=hs₂.extBut TO _ D.TOi1 (hs₁.extBut TO _ D.TOz hTO);refine zxG (wpAny_seqItems t2 rfl (zxG (wpAny_updateSeq_pair t2 λh₃ t3 hs₃=>?_)));refine zxG (wpAny_letGo (zxH ?_));have x3:=((h2.ext hs₁.extBut D.i2z).ext hs₂.extBut D.i12.symm).ext hs₃.extBut D.TOi2.symm;have y3:=((q2.ext hs₁.extBut D.l2z).ext hs₂.extBut D.l2i1).ext hs₃.extBut D.l2TO;change wpAny (model prog w) A (forIn [(Value.ref i2,1)] _ _) _ E _;rw[List.forIn_cons];refine zxG (zxG (wpAny_onRaise ?_));change wpAny (model prog w) A (bind (Builtin.SmallTypes.nextOf (.ref i2)) _) _ _ _;exact zxG (ZJ hh x3 y3 hy λh' e ex ho=>fin h' e ⟨_,_,ex z _ D.i2z.symm (hs₃.extBut z _ D.TOz.symm (hs₂.extBut z _ D.i1z.symm z1))⟩
     (λc o c1 c2 c3 c4 q=>ex c o c4 (hs₃.extBut c o c2 (hs₂.extBut c o c3 (hs₁.extBut c o c1 q)))) ho)
 . rw[if_neg (by simp)];change wpAny (model prog w) A (bind (forIn #[Value.ref i1,Value.ref i2] _ _) _) _ E _;rw[<-Array.forIn_toList,show #[Value.ref i1,Value.ref i2].toList=[Value.ref i1,Value.ref i2]from rfl,List.forIn_cons];have x1:=h1.ext hs₁.extBut D.i1z;have y1:=q1.ext hs₁.extBut D.l1z;refine zxG (zxG (zxG (zxM ?_)));change wpAny (model prog w) A (bind (Builtin.SmallTypes.nextOf (.ref i1)) _) _ _ _;cases e1:xs[k1]? with
   |none=>exact zxG (ZJ hh x1 y1 e1 λh' e ex ho=>h h' e (λc o c1 c2 c3 c4 q=>ex c o c3 (hs₁.extBut c o c1 q)) ho)
   |some x=>
    have hy:ys[k2]? = none:=hx.resolve_left (by rw[e1];simp);refine zxG (wj x1 y1 e1 λh₂ x2 hs₂=>zxH (zxH ?_));change wpAny (model prog w) A (forIn [Value.ref i2] _ _) _ E _;rw[List.forIn_cons];have x3:=(h2.ext hs₁.extBut D.i2z).ext hs₂.extBut D.i12.symm;have y3:=(q2.ext hs₁.extBut D.l2z).ext hs₂.extBut D.l2i1;refine zxG (zxG (zxM ?_));change wpAny (model prog w) A (bind (Builtin.SmallTypes.nextOf (.ref i2)) _) _ _ _;exact zxG (ZJ hh x3 y3 hy λh' e ex ho=>h h' e (λc o c1 c2 c3 c4 q=>ex c o c4 (hs₂.extBut c o c3 (hs₁.extBut c o c1 q))) ho)
def Ng{b1 b2:Bool}{prog:Program}{w:World}{A:Around}{E:Value->Shared->Prop}{s:Shared}{z TI TO i1 i2 l1 l2:Addr}{k1 k2:Nat}{xs ys:Array Value}{x y a b f0:Value}{f1:Bool}{Q:Option Value->Shared->Prop}(D:ZipApart z TI TO i1 i2 l1 l2)
 (hz:K9 s.heap z TI TO f0 f1) (hf:Zf f0) (hTI:IsPair s.heap TI (.ref i1) (.ref i2)) (hTO:IsPair s.heap TO a b) (h1:YG b1 s.heap i1 l1 k1) (h2:YG b2 s.heap i2 l2 k2) (q1:Rc b1 s.heap l1 xs) (q2:Rc b2 s.heap l2 ys) (hx:xs[k1]? = some x) (hy:ys[k2]? = some y)
 (h:∀(h':Heap) (g0:Value) (g1:Bool),K9 h' z TI TO g0 g1->Zf g0->(∃p q,IsPair h' TO p q)->YG b1 h' i1 l1 (k1+1)->YG b2 h' i2 l2 (k2+1)->IsPair h' s.heap.objs.size x y->(∀c o,c≠z->c≠TO->c≠i1->c≠i2->s.heap.get? c=some o->h'.get? c=some o)->Q (some (.ref s.heap.objs.size)) {s with heap:=h'}):
 wpAny (model prog w) A (pyNext (.ref z)) Q E s:=by
 have d:s.TypeIs (.ref z) "zip":=⟨_,hz,rfl⟩;exact zxG (wpAny_attempt (wpAny_callSpecial?_slot d F.slot_zip_next (zxQ F.slot_zip_next d F.entry_zip_next (HR D hz hf hTI hTO h1 h2 q1 q2 hx hy λe f g i j k l m n r=>zxH (h e f g i j k l m n r)) (F.args_zip_next_1 _))))
def NM{b1 b2:Bool}{prog:Program}{w:World}{A:Around}{E:Value->Shared->Prop}{s:Shared}{z TI TO i1 i2 l1 l2:Addr}{k1 k2:Nat}{xs ys:Array Value}{a b f0:Value}{f1:Bool}{Q:Option Value->Shared->Prop}(hh:A.handled=none)(D:ZipApart z TI TO i1 i2 l1 l2)
 (hz:K9 s.heap z TI TO f0 f1) (hf:Zf f0) (hTI:IsPair s.heap TI (.ref i1) (.ref i2)) (hTO:IsPair s.heap TO a b) (h1:YG b1 s.heap i1 l1 k1) (h2:YG b2 s.heap i2 l2 k2) (q1:Rc b1 s.heap l1 xs) (q2:Rc b2 s.heap l2 ys) (hx:xs[k1]? = none\/ys[k2]? = none)
 (h:∀h':Heap,(∀c o,c≠z->c≠TO->c≠i1->c≠i2->s.heap.get? c=some o->h'.get? c=some o)->Q none {s with heap:=h'}):wpAny (model prog w) A (pyNext (.ref z)) Q E s:=by
 have d:s.TypeIs (.ref z) "zip":=⟨_,hz,rfl⟩;exact zxG (wpAny_attempt (wpAny_callSpecial?_slot d F.slot_zip_next (zxQ F.slot_zip_next d F.entry_zip_next (II hh D hz hf hTI hTO h1 h2 q1 q2 hx λf e g ⟨o,i,j⟩=>zxG (wpAny_isInstance ⟨o,i,j⟩ isSubtype_stop (zxH (h f g)))) (F.args_zip_next_1 _))))
def FO{prog:Program}{w:World}{A:Around}{E:Value->Shared->Prop}{s:Shared}{z TI TO T:Addr}{f0:Value}{f1:Bool}{Q:Unit->Shared->Prop}(tg:Expr)(hz:K9 s.heap z TI TO f0 f1)(hf:Zf f0)
 (h:∀(h':Heap) (g0:Value),K9 h' z TI TO g0 f1->Zf g0->Heap.SameBut z s.heap h'->Q () {s with heap:=h'}):wpAny (model prog w) A (letOwnedTupleGo tg (.ref z) (.ref T)) Q E s:=by
 have no:wpAny (model prog w) A (pure ()) Q E s:=zxH (h s.heap f0 hz hf (Heap.SameBut.refl _ _));have go:wpAny (model prog w) A (bind (load z) λo=>match o.cls,o.data with
  |Value.type n,Data.fields vs=>if(["enumerate","zip","dict_itemiterator","dict_reverseitemiterator","odict_iterator","itertools.zip_longest","itertools.pairwise"].contains n&&vs[0]? == some (rawInt (T:Int)))=true then(do rule "for.unpacks-the-owned-tuple";updateField z 0 Value.none)else pure ()
  |_,_=>pure ()) Q E s:=by
  refine zxG (wpAny_load hz ?_);show wpAny (model prog w) A (if _ then _ else _) Q E s
  split
  . refine zxG (wpAny_rule ?_);exact wpAny_setField_rec hz (by simp) λh' z' hs=>h h' .none z' (.inl rfl) hs
  . exact no
 cases tg with
 |Tuple elts k pos=>exact go
 |List elts pos=>exact go
 |_=>exact no
noncomputable def v3(b:Bool)(l:Addr):Obj:={cls:=.type (if b=true then "tuple_iterator" else "list_iterator"),data:=.fields #[.ref l,.int 0 0]}
def Nr:∀{b:Bool},Rc b s.heap l xs->Q (.ref s.heap.objs.size) {s with heap:=s.heap.push (v3 b l)}->wpAny (model prog w) A (pyIter (.ref l)) Q E s
 |true,a,c=>wpAny_pyIter_tuple a c
 |false,a,c=>wpAny_pyIter_list a c
def Rc.at(k:∀o,h.get? l=some o->h'.get? l=some o):∀{b:Bool},Rc b h l xs->Rc b h' l xs
 |true,⟨o,e,c⟩=>⟨o,k o e,c⟩
 |false,⟨o,e,c⟩=>⟨o,k o e,c⟩
def Si(l1 l2:Addr)(xs ys:Array Value):Meets (Builtin.«zip.__new__» {pos:=[.type "zip",.ref l1,.ref l2]}) λ_ R s=>Rc b1 s.heap l1 xs/\Rc b2 s.heap l2 ys/\
 ∀h':Heap,K9 h' (s.heap.objs.size+4) (s.heap.objs.size+2) (s.heap.objs.size+3) .none false->IsPair h' (s.heap.objs.size+2) (.ref s.heap.objs.size) (.ref (s.heap.objs.size+1))->IsPair h' (s.heap.objs.size+3) .none .none->YG b1 h' s.heap.objs.size l1 0->YG b2 h' (s.heap.objs.size+1) l2 0->
  (∀c o,s.heap.get? c=some o->h'.get? c=some o)->R (.ok (.ret (.ref (s.heap.objs.size+4)))) {s with heap:=h'}:=
 .of_wp λf w A R s h=>by
  obtain⟨a,g,d,j,k⟩:=s;obtain⟨p,r,h⟩:=h;have x:=sub_zip;have D:∀{Q:Value->Shared->Prop}{E:Value->Shared->Prop}{A:Around},Q (.ref a.objs.size) ⟨a.push (v3 b1 l1),g,d,j,k⟩->wpAny (model f w) A (pyIter (.ref l1)) Q E ⟨a,g,d,j,k⟩:=λh=>Nr p h;have F:∀{Q:Value->Shared->Prop}{E:Value->Shared->Prop}{A:Around},Q (.ref (a.push (v3 b1 l1)).objs.size) ⟨(a.push (v3 b1 l1)).push (v3 b2 l2),g,d,j,k⟩->wpAny (model f w) A (pyIter (.ref l2)) Q E ⟨a.push (v3 b1 l1),g,d,j,k⟩:=λh=>Nr (s:=⟨a.push (v3 b1 l1),g,d,j,k⟩) (r.at λo e=>zxI _ e) h
  wp_walk using D,F
  refine⟨_,rfl, ?_⟩;have t:(a.push (v3 b1 l1)).objs.size=a.objs.size+1:=zxN _ _;have m:((a.push (v3 b1 l1)).push (v3 b2 l2)).objs.size=a.objs.size+2:=(zxN _ _).trans (congrArg (· + 1) t);generalize i:(a.push (v3 b1 l1)).push (v3 b2 l2)=b at m ⊢;have G:YG b1 b a.objs.size l1 0:=by
   have:b.get? a.objs.size=some (v3 b1 l1):=by rw[<-i];exact zxI _ (zxK _ rfl)
   cases b1<;>exact⟨_,this,rfl,rfl⟩
  have H:YG b2 b (a.objs.size+1) l2 0:=by
   have:b.get? (a.objs.size+1)=some (v3 b2 l2):=by rw[<-i,<-t];exact zxK _ rfl
   cases b2<;>exact⟨_,this,rfl,rfl⟩
  have I:∀c o,a.get? c=some o->b.get? c=some o:=λc o q=>by rw[<-i];exact zxI _ (zxI _ q)
  rw[t];change R (.ok (.ret (.ref ((b.push {cls:=.type "tuple",data:=.seq #[.ref a.objs.size,.ref (a.objs.size+1)]}).push {cls:=.type "tuple",data:=.seq #[.none,.none]}).objs.size)))
   ⟨((b.push {cls:=.type "tuple",data:=.seq #[.ref a.objs.size,.ref (a.objs.size+1)]}).push {cls:=.type "tuple",data:=.seq #[.none,.none]}).push {cls:=.type "zip",data:=.fields #[.none,.bool false,.bool false,.ref b.objs.size,.ref (b.push {cls:=.type "tuple",data:=.seq #[.ref a.objs.size,.ref (a.objs.size+1)]}).objs.size]},g,d,j,k⟩
  have y:=zxK b (o:={cls:=.type "tuple",data:=.seq #[.ref a.objs.size,.ref (a.objs.size+1)]}) rfl;have u:(b.push {cls:=.type "tuple",data:=.seq #[.ref a.objs.size,.ref (a.objs.size+1)]}).objs.size=a.objs.size+3:=(zxN _ _).trans (congrArg (· + 1) m);rw[m]at y;rw[m,u];have v:∀c o,b.get? c=some o->(b.push {cls:=.type "tuple",data:=.seq #[.ref a.objs.size,.ref (a.objs.size+1)]}).get? c=some o:=λc o q=>zxI _ q;generalize (b.push {cls:=.type "tuple",data:=.seq #[.ref a.objs.size,.ref (a.objs.size+1)]})=l at *;have z:=zxK l (o:={cls:=.type "tuple",data:=.seq #[.none,.none]}) rfl;have B:(l.push {cls:=.type "tuple",data:=.seq #[.none,.none]}).objs.size=a.objs.size+4:=(zxN _ _).trans (congrArg (· + 1) u);have n:∀c o,l.get? c=some o->(l.push {cls:=.type "tuple",data:=.seq #[.none,.none]}).get? c=some o:=λc o q=>zxI _ q;rw[u]at z;rw[B];generalize (l.push {cls:=.type "tuple",data:=.seq #[.none,.none]})=J at *;have C:=zxK J (o:={cls:=.type "zip",data:=.fields #[.none,.bool false,.bool false,.ref (a.objs.size+2),.ref (a.objs.size+3)]}) rfl;rw[B]at C;exact h _ C (zxI _ (n _ _ y)) (zxI _ z) (G.at λo e=>zxI _ (n _ _ (v _ _ e))) (H.at λo e=>zxI _ (n _ _ (v _ _ e))) λc o q=>zxI _ (n _ _ (v _ _ (I c o q)))
def BO(hl1:Rc b1 s.heap l1 xs)(hl2:Rc b2 s.heap l2 ys)
 (h:∀h':Heap,K9 h' (s.heap.objs.size+4) (s.heap.objs.size+2) (s.heap.objs.size+3) .none false->IsPair h' (s.heap.objs.size+2) (.ref s.heap.objs.size) (.ref (s.heap.objs.size+1))->IsPair h' (s.heap.objs.size+3) .none .none->YG b1 h' s.heap.objs.size l1 0->YG b2 h' (s.heap.objs.size+1) l2 0->
  (∀c o,s.heap.get? c=some o->h'.get? c=some o)->Q (.ref (s.heap.objs.size+4)) {s with heap:=h'}):wpAny (model prog w) A (call (.type "zip") [.ref l1,.ref l2]) Q E s:=
 callType_new F.called_zip (by decide) (F.typeCall_zip_2 _ _) (F.newCall_zip_2 _ _) (λa=>F.args_object_init_3 a _ _) F.entry_zip_new (Si (b1:=b1) (b2:=b2) l1 l2 xs ys)
  ⟨hl1,hl2,λd b e f g i j=>⟨⟨_,b,rfl⟩,h d b e f g i j⟩⟩
def QU{prog:Program}{w:World}{A:Around}{E:Value->Shared->Prop}{s:Shared}{z TI TO:Addr}{f0:Value}{f1:Bool}{Q:Value->Shared->Prop}(hz:K9 s.heap z TI TO f0 f1)(h:Q (.ref z) s):wpAny (model prog w) A (pyIter (.ref z)) Q E s:=by
 have a:s.TypeIs (.ref z) "zip":=⟨_,hz,rfl⟩;exact wpAny_pyIter_slot a F.slot_zip_iter (zxQ F.slot_zip_iter a F.entry_zip_iter (zxH ⟨.ref z,rfl,"zip",.builtin "zip.__next__",a,F.slot_zip_next.lookup,h⟩) (F.args_zip_iter_1 _))
def LP(K:zzA)(H:Hp):Bool->Addr->List V->Prop
 |true,a,xs=>VQ K H a xs
 |false,a,xs=>Z5 K H a xs
def LP.ok(I:Inv X pins σ H s):∀{b:Bool}{a:Addr}{xs:List V},LP X.K H b a xs->∃its:List Value,z_ xs its/\Rc b s.heap a its.toArray
 |true,a,e,h=>by obtain⟨c,d,p,_⟩:=I.tuple h;exact⟨c,d,p⟩
 |false,a,e,h=>by obtain⟨c,d,p,_⟩:=I.list h;exact⟨c,d,p.isList⟩
def LP.inj(I:Inv X pins σ H s):∀{b:Bool}{a:Addr}{xs ys:List V},LP X.K H b a xs->LP X.K H b a ys->xs=ys
 |true,_,_,_,h,c=>I.tuple_inj h c
 |false,_,_,_,h,c=>I.list_inj h c
def Rc.ex:∀{b:Bool},Rc b h l xs->∃o,h.get? l=some o
 |true,⟨o,e,_⟩=>⟨o,e⟩
 |false,⟨o,e,_⟩=>⟨o,e⟩
def YG.ex:∀{b:Bool},YG b h it l k->∃o,h.get? it=some o/\∀v,o.data ≠ .cell v
 |true,⟨o,e,_,d⟩=>⟨o,e,λv z=>by rw[d]at z;cases z⟩
 |false,⟨o,e,_,d⟩=>⟨o,e,λv z=>by rw[d]at z;cases z⟩
def AR(K:zzA)(b1 b2:Bool)(a b:Addr):It:=
 ⟨λi H=>∃xs ys x y,LP K H b1 a xs/\LP K H b2 b ys/\xs[i]? = some x/\ys[i]? = some y,
  λi H v H'=>∃T x y,H T=none/\v = .ref T/\H'=upd H T (.tup [x,y])/\(∀xs,LP K H b1 a xs->xs[i]? = some x)/\∀ys,LP K H b2 b ys->ys[i]? = some y,
  λi H=>∃xs ys,LP K H b1 a xs/\LP K H b2 b ys/\(xs.length<=i\/ys.length<=i)⟩
def Bv{P:Program}{w:World}{K:zzA}{tg:Expr}{b1 b2:Bool}(a b z TI TO i1 i2:Addr)(D:ZipApart z TI TO i1 i2 a b):Turn P w K tg (AR K b1 b2 a b) [z,TI,TO,i1,i2] z
 (λi h=>(∃f0 f1,K9 h z TI TO f0 f1/\Zf f0)/\IsPair h TI (.ref i1) (.ref i2)/\(∃p q,IsPair h TO p q)/\YG b1 h i1 a i/\YG b2 h i2 b i)where
 mem:=by simp
 obj:=λi h k c g=>by
  obtain⟨⟨L,f1,j,_⟩,d,⟨p,q,f⟩,l,m⟩:=k;simp only[zzC,zxC,or_false]at g
  rcases g with rfl|rfl|rfl|rfl|rfl
  . exact⟨_,j,λv z=>by cases z⟩
  . exact⟨_,d,λv z=>by cases z⟩
  . exact⟨_,f,λv z=>by cases z⟩
  . exact l.ex
  . exact m.ex
 keep:=λi h h' k n=>by
  obtain⟨⟨L,f1,j,A⟩,d,⟨p,q,f⟩,l,m⟩:=k;exact⟨⟨L,f1,n z (by simp) _ j,A⟩,n TI (by simp) _ d,⟨p,q,n TO (by simp) _ f⟩,l.at λo e=>n i1 (by simp) o e,m.at λo e=>n i2 (by simp) o e⟩
 item:=by
  intro X Q R S g i G s σ H E I A k T;subst Q R S;obtain⟨xs,ys,x,y,M,N,O,hy⟩:=T;obtain⟨U,V,p⟩:=M.ok I;obtain⟨Y,r,Z⟩:=N.ok I;obtain⟨u,hu,ru⟩:=V.get O;obtain⟨u',hu',ru'⟩:=r.get hy;obtain⟨⟨L,f1,j,zf⟩,d,⟨pp,qq,f⟩,l,m⟩:=k;refine Ng D j zf d f l m p Z (x:=u) (y:=u') (by simpa using hu) (by simpa using hu') λh' g0 g1 z' zf' to' i1' i2' pr n=>⟨_,rfl,FO tg z' zf' λh9 e0 z2 zf2 B=>?_⟩;have hn:H s.heap.objs.size=none:=I.hok.fresh (zzN _);have C:∀c o,s.heap.get? c=some o->c≠s.heap.objs.size:=λc o e z=>by
   have:=zxJ e;rw[z]at this;exact Nat.lt_irrefl _ this
  have nz:s.heap.objs.size≠z:=(C z _ j).symm;have k2:∀c o,c ∉ [z,TI,TO,i1,i2]->s.heap.get? c=some o->h9.get? c=some o:=λc o F q=>by
   simp only[zzC,zxC,or_false,not_or]at F;exact B.extBut c o F.1 (n c o F.1 F.2.2.1 F.2.2.2.1 F.2.2.2.2 q)
  have J:IsPair h9 TI (.ref i1) (.ref i2):=B.extBut TI _ D.TIz (n TI _ D.TIz D.TITO D.TIi1 D.TIi2 d);obtain⟨p1,q1,to1⟩:=to';refine⟨.ref s.heap.objs.size,upd H s.heap.objs.size (.tup [x,y]),Z0 (s:=s) (t':=s.toks) (ch:=[z,TI,TO,i1,i2]) I A k2 (zzN _) ⟨by show 2<=sizeLine;decide,[u,u'],.cons ru (.cons ru' .nil),⟨_,B.extBut _ _ nz pr,rfl,_,rfl⟩⟩,rfl,
   ⟨_,x,y,hn,rfl,rfl,λq t=>by rw[LP.inj I t M];exact O,λq t=>by rw[LP.inj I t N];exact hy⟩,⟨⟨e0,g1,z2,zf2⟩,J,⟨p1,q1,B.extBut TO _ D.TOz to1⟩,i1'.ext B.extBut D.i1z,i2'.ext B.extBut D.i2z⟩,λc g=>?_⟩
  have hcT:c≠s.heap.objs.size:=by
   simp only[zzC,zxC,or_false]at g
   rcases g with rfl|rfl|rfl|rfl|rfl
   . exact C _ _ j
   . exact C _ _ d
   . exact C _ _ f
   . obtain⟨o,e,_⟩:=l.ex;exact C _ _ e
   . obtain⟨o,e,_⟩:=m.ex;exact C _ _ e
  rw[zK hcT];exact(A c g).1
 done:=by
  intro X Q R S g i G s σ H E I A k T;subst Q R S;obtain⟨xs,ys,M,N,O⟩:=T;obtain⟨U,V,p⟩:=M.ok I;obtain⟨Y,r,Z⟩:=N.ok I;have hl:=V.length;have hl':=r.length;obtain⟨⟨L,f1,j,zf⟩,d,⟨pp,qq,f⟩,l,m⟩:=k;refine NM (I.ok.hd g) D j zf d f l m p Z (O.imp (λh=>by simp;omega) (λh=>by simp;omega)) λh' eb=>⟨rfl,Ta (t':=s.toks) (ch:=[z,TI,TO,i1,i2]) I A λc o g q=>?_⟩;simp only[zzC,zxC,or_false,not_or]at g;exact eb c o g.1 g.2.2.1 g.2.2.2.1 g.2.2.2.2 q
 self:=λ_ _ _ _ _ k h=>let⟨⟨_,_,j,_⟩,_⟩:=k;QU j h
section
variable{X:Cx}{tg:Expr}
def Ab(K:zzA)(ta:TA):TI:=λσ H R=>ta σ H λvs H1=>∃a b b1 b2,vs=[.ref a,.ref b]/\(∃xs,LP K H1 b1 a xs)/\(∃ys,LP K H1 b2 b ys)/\R (AR K b1 b2 a b) H1
def Ia{l l':Expr}{ta:TA}{p pos:Pos}(hg:Gl X "zip")(hm:X.mg "zip"=none)(ha:PA X [l,l'] ta)(hs:starEach [l,l'] X.env=[(false,eval l X.env),(false,eval l' X.env)])(hs2:starEach [l'] X.env=[(false,eval l' X.env)]):
 PI X tg (.Call (.Name "zip" p) [l,l'] [] pos) (Ab X.K ta):=by
 intro e s σ H R I h;refine Call_ (vQ I hg hm boot_zip (PyProof.Rows.callWith_type1 (thn (ha pos e s σ H _ I h) λL d ⟨M,y,f,z,A⟩=>?_) (by rw[hs,hs2]) (by rw[hs2];rfl)));obtain⟨a,b,N,O,rfl,⟨P,B⟩,⟨Q,C⟩,q⟩:=A;cases z with
 |cons r j=>
  cases j with
  |cons D j=>
   cases j;cases r;cases D;obtain⟨E,S,v⟩:=B.ok f;obtain⟨F,G,g⟩:=C.ok f;obtain⟨T,k⟩:=v.ex;obtain⟨U,m⟩:=g.ex;refine BO v g λV w n o t u J=>?_;refine QU w ⟨d.heap.objs.size+4,[d.heap.objs.size+4,d.heap.objs.size+2,d.heap.objs.size+3,d.heap.objs.size,d.heap.objs.size+1],_,_,y,rfl,f.kept (t':=d.toks) J,Bv a b _ _ _ _ _ (Gk _ _ _ (zxJ k) (zxJ m)),⟨⟨_,_,w,.inl rfl⟩,n,⟨_,_,o⟩,t,u⟩,λc x=>?_,q⟩;have i:d.heap.objs.size<=c:=by
    simp only[zzC,zxC,or_false]at x
    rcases x with rfl|rfl|rfl|rfl|rfl<;>first|exact zzN _|exact Nat.le_add_right _ _
   exact f.fpOk i (f.hok.fresh i)
end
section
variable{X:Cx}{kd:KD}{tg e:Expr}{fa:EF}
def OR{K:zzA}{F:Addr->Prop}{H:Hp}{a b:Addr}{b1 b2:Bool}{vs ws:List V}{st:Bool}{ds es:List D}(ft:∀a,F a->H a≠none)(hs:∀H3:Hp,(∀b u,H b=some u->H3 b=some u)->LP K H3 b1 a vs)(hs':∀H3:Hp,(∀b u,H b=some u->H3 b=some u)->LP K H3 b2 b ws)
 (r:RpL K kd (λa=>st=true/\F a) H vs ds) (r':RpL K kd (λa=>st=true/\F a) H ws es):ItC K kd F H (AR K b1 b2 a b) (vR st ds es):=⟨λj T k s i=>by
 have c:=hs j k;have f:=hs' j k;have t:=Xn st ds es;have O:vs.length=ds.length:=r.length;have P:ws.length=es.length:=r'.length;refine⟨λC=>?_,λC=>⟨_,_,c,f,by omega⟩,λv Q E=>?_⟩
 . obtain⟨u,l,_⟩:=r.get (zzE (show i<ds.length by omega));obtain⟨w,g,_⟩:=r'.get (zzE (show i<es.length by omega));exact⟨_,_,u,w,c,f,l,g⟩
 . obtain⟨A,x,y,h,rfl,rfl,G,m⟩:=E;have n:H A=none:=by
    cases e:H A with
    |none=>rfl
    |some u=>rw[k A u e]at h;cases h
   refine⟨xy h,λq I=>?_⟩;obtain⟨d,e,J,L,rfl⟩:=ZH I;obtain⟨u,l,M⟩:=r.get J;obtain⟨w,g,p⟩:=r'.get L;have:=G _ c;rw[l]at this;cases this;have:=m _ f;rw[g]at this;cases this;have B:∀{v:V}{d:D},Rp K kd (λa=>st=true/\F a) H v d->Rp K kd (λa=>st=true/\(F a\/T a)) (upd j A (.tup [x,y])) v d:=λN=>
    (N.since (λb o q=>xy h b o (k b o q)) λa z=>(s a z).1).less λa z=>z.2.elim (λy=>.inl ⟨z.1,y⟩) .inr
   exact .tup (λz=>z.2.elim (λy=>ft A y n) λy=>(s A y).2 h) yd (.cons (B M) (.cons (B p) .nil))⟩
noncomputable def AU:RV->Option (Bool×Bool×List D)
 | .ow (.lf s (.lst l))=>some (s,false,l)
 | .ow (.lf s (.tup l))=>some (s,true,l)
 |_=>none
noncomputable def NU(fr:AF):IF:=λas=>(fr as).bind λp=>(C9 p.1).bind λo=>(AU o.1).bind λa=>(AU o.2).bind λb=>some (vR (a.1&&b.1) a.2.2 b.2.2,p.2)
def Fd{K:zzA}{F B:Addr->Prop}{ad:Ad}{σ:St}{H:Hp}{v:V}{r:RV}{x:Bool×Bool×List D}(e:AU r=some x)(rv:xq K kd F B [] ad σ H v r):∃a vs,v = .ref a/\LP K H x.2.1 a vs/\(∀H3:Hp,(∀b u,¬Gw [] ad b->H b=some u->H3 b=some u)->LP K H3 x.2.1 a vs)/\RpL K kd (Lv F B (Gw [] ad) x.1) H vs x.2.2:=by
 cases r with
 |bo i=>cases e
 |ow o=>
  cases o with
  |nd k os=>cases e
  |lf s d=>
   cases rv with
   |lf rp=>
    cases rp with
    |lst hn hr rl=>
     cases e;refine⟨_,_,rfl,.inl hr,λH3 k=>?_,rl⟩
     rcases hr with hr|⟨o,hr⟩
     . exact .inl (.inl (k _ _ (λz=>hn (.inr z)) hr))
     . exact .inl (.inr ⟨o,k _ _ (λz=>hn (.inr z)) hr⟩)
    |lstK a b c rl=>cases e;exact⟨_,_,rfl,.inr ⟨_,_,_,a,rfl,rfl,rfl,b,c⟩,λH3 k=>.inr ⟨_,_,_,a,rfl,rfl,rfl,b,c⟩,rl⟩
    |tup hn hr rl=>
     cases e;exact⟨_,_,rfl,.inl (.inl hr),λH3 k=>.inl (.inl (k _ _ (λz=>hn (.inr z)) hr)),rl⟩
    |_=>cases e
def O5{l l':Expr}{fr:AF}{p pos:Pos}(hg:Gl X "zip")(hm:X.mg "zip"=none)(ha:AA X kd [l,l'] fr)(hs:starEach [l,l'] X.env=[(false,eval l X.env),(false,eval l' X.env)])(hs2:starEach [l'] X.env=[(false,eval l' X.env)]):
 O6 X kd tg (.Call (.Name "zip" p) [l,l'] [] pos) (NU fr):=by
 with_unfolding_all (
 intro d s σ H R I h;obtain⟨F,B,r,as,Q,t,v,c,q⟩:=h;obtain⟨⟨S,e⟩,w,c⟩:=bS_ (show(fr as).bind _=_ from c);obtain⟨⟨T,U⟩,x,c⟩:=bS_ c;obtain⟨V,y,c⟩:=bS_ c;obtain⟨W,A,c⟩:=bS_ c;cases KG x;cases c;refine Ia hg hm ha hs hs2 d s σ H R I ⟨F,B,r,as,_,e,v,w,λC f D o g E=>?_⟩;cases g with
 |cons G i=>
  cases i with
  |cons J i=>
   cases i;obtain⟨a,C,rfl,K,L,M⟩:=Fd y G;obtain⟨b,Y,rfl,N,O,P⟩:=Fd A J;refine⟨a,b,_,_,rfl,⟨_,K⟩,⟨_,N⟩,q _ f D o E (OR (o.trk true) (λj k=>L j λb u n h=>k b u h) (λj k=>O j λb u n h=>k b u h) (M.less λa z=>?_) (P.less λa z=>?_))⟩
   . have m:=(Bool.and_eq_true_iff.mp z.1).1;rw[m];exact z.2
   . have m:=(Bool.and_eq_true_iff.mp z.1).2;rw[m];exact z.2)
end
def LV(h:n<=1000000):n<=sizeLine:=zzO h (by decide)
section
variable{as:AS}{f fo a b:EF}{fr:AF}{s t:Bool}{x y z d:D}{c m:Str}{ns cs:List Str}{ds:List D}{tbl:List (Str×Fn)}{g:Fn}{o:O}
inductive SqD:D->List D->Prop
 |l (ds:List D):SqD (.lst ds) ds
 |t (ds:List D):SqD (.tup ds) ds
theorem L_(st:Bool):∀(xs ys:List D),vR st xs ys=(xs.zip ys).map λq=>(st,.tup [q.1,q.2])
 | [],_=>rfl
 |_::_,[]=>rfl
 |x::r,y::t=>congrArg (_ :: ·) (L_ st r t)
def Mf(ha:WE a as x)(hb:WE b as y)(hx:SqD x xs)(hy:SqD y ys):NU (aC a (aC b aN)) as=some ((xs.zip ys).map λq=>(true,.tup [q.1,q.2]),as):=by
 have h:WA (aC a (aC b aN)) as [(true,x),(true,y)]:=vk ha (vk hb zt);unfold WA at h;unfold NU;rw[h,<-L_];cases hx<;>cases hy<;>rfl
theorem Qg:∀(l:List α),(∀q ∈ l,∃as1,gg (it q) as0=some as1/\WE fe as1 (h q))->∃os,yR gg zH fe as0 (l.map it)=some os/\O.strs os=true/\O.toDs os=l.map h
 | [],_=>⟨[],rfl,rfl,rfl⟩
 |q::l,H=>by
  obtain⟨a,d,e,f⟩:=Qg l λp m=>H p (zzD _ m);obtain⟨b,g,o,i,c,j⟩:=H q zzF;refine⟨o::a, ?_,by show(o.str&&O.strs a)=true;rw[c,e];rfl,by show o.toD::O.toDs a=_;rw[j,f];rfl⟩;show yR gg zH fe as0 (it q::l.map it)=_;unfold yR;rw[g];show((fe b).bind _)=_;rw[i];show(if o.str=true then _ else _)=_;rw[if_pos c,d];rfl
theorem GA:∀(l:List α),(∀q ∈ l,∃as1,gg (it q) as0=some as1/\WT tt as1 (p q)/\(p q=true->WE fe as1 (h q)))->∃os,yR gg tt fe as0 (l.map it)=some os/\O.strs os=true/\O.toDs os=(l.filter p).map h
 | [],_=>⟨[],rfl,rfl,rfl⟩
 |q::l,H=>by
  obtain⟨c,d,e,f⟩:=GA l λp m=>H p (zzD _ m);obtain⟨a,g,b,j⟩:=H q zzF;cases hp:p q with
  |false=>
   rw[hp]at b;refine⟨c,GK g b d,e, ?_⟩;rw[List.filter_cons_of_neg (by simp[hp])];exact f
  |true=>
   rw[hp]at b;obtain⟨o,k,i,n⟩:=j hp;refine⟨o::c, ?_,by show(o.str&&O.strs c)=true;rw[i,e];rfl, ?_⟩
   . unfold WT at b;show yR gg tt fe as0 (it q::l.map it)=_;unfold yR;rw[g];show(tt a).bind _=_;rw[b];show((fe a).bind _)=_;rw[k];show(if o.str=true then _ else _)=_;rw[if_pos i,d];rfl
   . rw[List.filter_cons_of_pos hp];show o.toD::O.toDs c=_;rw[n,f];rfl
def NL{fi:IF}{cap:List (Option Nat)}{gg:GF}{tt:TF}{fe:EF}{xs:List wx}{os:List O}{zs:List D}(h1:fi as=some (xs,as))(hl:xs.length<=1000000)(h2:yR gg tt fe (wk cap as) xs=some os)(hs:O.strs os=true)(e:O.toDs os=zs):WE (zq fi cap gg tt fe) as (.lst zs):=by
 refine⟨.nd .ls os, ?_,hs,congrArg D.lst e⟩;unfold zq;rw[h1];show(if xs.length<=sizeLine then _ else _)=_;rw[if_pos (LV hl),h2];rfl
def yy(l:List α)(h1:fi as=some (l.map it,as))(hl:l.length<=1000000)(H:∀q ∈ l,∃as1,gg (it q) (wk cap as)=some as1/\WE fe as1 (h q)):WE (zq fi cap gg zH fe) as (.lst (l.map h)):=by
 obtain⟨d,a,b,c⟩:=Qg l H;exact NL h1 (by rw[zzB];exact hl) a b c
def Ac(l:List α)(h1:fi as=some (l.map it,as))(hl:l.length<=1000000)(H:∀q ∈ l,∃as1,gg (it q) (wk cap as)=some as1/\WT tt as1 (p q)/\(p q=true->WE fe as1 (h q))):WE (zq fi cap gg tt fe) as (.lst ((l.filter p).map h)):=by
 obtain⟨d,a,b,c⟩:=GA l H;exact NL h1 (by rw[zzB];exact hl) a b c
def E5{g:List D->Option R0}(ha:WE a as x)(hg:g [x]=some (.im z)):WE (fP (aC a aN) g) as z:=WD.e (Pg ha hg)
def Hb{fd:DF}{os:List O}{zs:List D}(h:WO fd as os)(hl:os.length<=1000000)(hs:O.strs os=true)(e:O.toDs os=zs):WE (zY fd) as (.tup zs):=by
 refine⟨Zw os,Mw h (LV hl), ?_, ?_⟩
 . unfold Zw;split
   . exact hs
   . exact hs
 . subst e;unfold Zw;split
   . rfl
   . rfl
def JZ{fd:DF}{os:List O}(h:WE a as x)(hr:WO fd as os):∃o,o.str=true/\o.toD=x/\WO (dC a fd) as (o::os):=by
 obtain⟨o,b,c,d⟩:=h;exact⟨o,c,d,vV b hr⟩
def Ir(ha:WE a as x):WE (zY (dC a dN)) as (.tup [x]):=by
 obtain⟨o,b,rfl,c⟩:=JZ ha zJ;exact Hb c (by show 1<=_;omega) (by show(o.str&&true)=true;rw[b];rfl) rfl
def xJ(ha:WE a as x)(hb:WE b as y):WE (zY (dC a (dC b dN))) as (.tup [x,y]):=by
 obtain⟨p,c,rfl,d⟩:=JZ hb zJ;obtain⟨o,e,rfl,f⟩:=JZ ha d;exact Hb f (by show 2<=_;omega) (by show(o.str&&(p.str&&true))=true;rw[e,c];rfl) rfl
def sk{g:D->D->Option R0}(ha:WE a as x)(hb:WE b as y)(hg:g x y=some (.im z)):WE (f2 a b g) as z:=WD.e (FN ha hb hg)
end
open AutoSeq1 (wpAny_loadPart')
noncomputable def IV(x y:D):Option R0:=match x with
 | .dt ks ds=>(Xk y).bind λk=>BZ (YQ ks ds k)
 |_=>none
def Ih(tk tv:TE):TE:=λσ H Q=>∀p,H p=none->tk σ (upd H p (.dT [])) λx H1=>tv σ H1 λy H2=>H2 p=some (.dT [])/\∃(k:List Key) (b:Addr),x = .ref b/\KC H2 b k/\Q (.ref p) (upd H2 p (.dT [(k,y)]))
def BM(hu:X.A.units+1<cLine)(hk:PE X k tk)(hv:PE X v tv):PE X (.Dict [some k] [v] pos) (Ih tk tv):=by
 intro f s σ H Q I q;have r:=I.hok.fresh (zzN s.heap.objs.size);have u:=I.laid (a:=s.heap.objs.size) (o:=.dT []) (h':=s.heap.push {cls:=.type "dict",data:=.dict #[]}) (t':=s.toks) (λ_ _ q=>zxI _ q) (zzN _) (NZ s.heap I.big);refine wpAny_Dict_any rfl rfl (by simp) (by show 1<=15;decide) (thn (On (pos:=pos) hk hv CQ f _ σ _ (λi g=>match i with
  | [(x,y)]=>g s.heap.objs.size=some (.dT [])/\∃(k:List Key) (b:Addr),x = .ref b/\KC g b k/\Q (.ref s.heap.objs.size) (upd g s.heap.objs.size (.dT [(k,y)]))
  |_=>False) u (q _ r)) λR S ⟨i,g,j,d,w⟩=>?_)
 match i,d,w with
 | [(x,y)],d,⟨e,k,b,B,n,C⟩=>
  subst B;cases d with
  | @cons T D _ _ h t=>
     cases t;obtain⟨E,U⟩:=D;cases(show E=Value.ref b from h.1);obtain⟨z,F,W,l,G⟩:=Fe j.hok e;cases l;unfold storeAll;rw[List.forIn_cons];refine zxG (zxG (wpAny_dictSet_heap (hsz:=Nat.zero_le _) (show X.A.units<cLine by omega) (Wy j.hok n) G λY m J=>zxH ?_));show wpAny _ _ (forIn ([]:List (Value×Value)) PUnit.unit _) _ _ _;rw[List.forIn_nil];refine zxH ⟨.ref s.heap.objs.size,_, ?_,rfl,C⟩;obtain⟨q,K,L,p,M,N,O,_,P⟩:=m;have l:KT g ([]:List (List Key×V)) []:=.nil;refine Rf j (by rw[e];exact True.intro) J ⟨q,p⟩ ⟨by show 1<=_;rw[sizeLine_eq];decide,F,_,(l.put k n h.2).keeps λc Z ec=>?_,q,K,L,p,M,N,O,P⟩;rw[zK (SE ec e (λz=>nomatch z))];exact ec
noncomputable def NO(i:Nat)(fk fv:EF):SF:=λas=>(fv as).bind λp=>(YU p.2 p.1).bind λx=>match x.2[i]? with
 |some (some (.nd (.dt _) _))=>(fk x.2).bind λq=>(q.1.frz.view q.2).bind λkd=>(Xk kd.1).bind λk=>match q.2[i]? with
  |some (some (.nd (.dt ks) os))=>if ks.length<sizeLine then some (.nx (q.2.set i (some (.nd (.dt (X7 ks k)) (ZE ks os k (.lf x.1.1 x.1.2))))))else none
  |_=>none
 |_=>none
section
variable{X:Cx}{kd:KD}{e a b c o i:Expr}{pos pos':Pos}{fa fb fk fv:EF}
def C2(hu:X.A.units+1<cLine)(ho:PE X (.Name x p) (WZ j))(hk:AE X kd i fk)(hv:AE X kd e fv)(hs:swapsWith e (some (.Subscript (.Name x p) i pos')) pos.line X.env=pure false):
 Tt X kd (.Assign [.Subscript (.Name x p) i pos'] e pos) (NO j fk fv):=by with_unfolding_all exact(wo (Ic hu ho hk hv hs) λD σ H h=>by
 obtain⟨F,B,ad,as,o,R,e,q⟩:=h;obtain⟨⟨p,as1⟩,h1,e⟩:=bS_ (show(fv as).bind _=_ from e);obtain⟨⟨⟨st,d⟩,as2⟩,h2,e⟩:=bS_ e;cases k1:as2[j]? with
 |none=>rw[k1]at e;cases e
 |some a0=>
  rw[k1]at e
  match a0,e,k1 with
  |some (.nd (.dt ks0) os0),e,k1=>
   obtain⟨⟨pk,as3⟩,h3,e⟩:=bS_ (show(fk as2).bind _=_ from e);obtain⟨⟨dk,lk⟩,h4,e⟩:=bS_ e;obtain⟨k,h5,e⟩:=bS_ e;refine⟨F,B,ad,as,p,as1,R,h1,λv T1 ad1 H1 R1 rv1 g1=>?_⟩;obtain⟨ad2,R2,rp,le⟩:=ZG R1 rv1 h2;obtain⟨v0,hs0,ro0⟩:=R2.sl j _ k1;refine⟨v0,hs0,wH R2 h3 λu ad3 H3 R3 rv3 g3=>?_⟩;cases k2:as3[j]? with
   |none=>rw[k2]at e;cases e
   |some a2=>
    rw[k2]at e
    match a2,e,k2 with
    |some (.nd (.dt ks) os),e,k2=>
     obtain⟨hz,e⟩:=zM e;cases e;obtain⟨v1,hs1,ro1⟩:=R3.sl j _ k2;rw[hs0]at hs1;cases hs1;generalize hfp:ad3 j=fp1 at ro1;cases ro1 with
     | dt hH hl rl=>
          rename_i l vs fp;obtain⟨bk,rfl,hbk⟩:=Xw (xq.vw R3 rv3 h4) h5;have ro:w5 X.K kd F B (Gw [] ad3) H3 v (.lf st d) []:=.lf (Rp.grow g3 rp);have hlo:ks.length=os.length:=by rw[hl,rl.length]
          have hex:∃fp',fp'.Sublist fp/\x9 X.K kd F B (Gw [] ad3) H3 (ZE ks vs k v) (ZE ks os k (.lf st d)) fp':=by
           unfold ZE
           split
           . exact Hi ro hl rl
           . exact⟨fp,List.Sublist.refl _,by have:=rl.append (RoL.one ro);rw[zyE]at this;exact this⟩
          obtain⟨fp',hsub,rl'⟩:=hex;have hnd:=R3.nd j;rw[hfp]at hnd;refine⟨l,_,rfl,.inr ⟨_,k,bk,hH,rfl,hbk,by rw[List.length_zip,hl,Nat.min_self,<-hl];exact hz,rfl⟩, ?_⟩;rw[Md hl];obtain⟨R4,g4⟩:=R3.mut (fo:=[]) (n:=.nd (.dt (X7 ks k)) (ZE ks os k (.lf st d))) (u:=.dT ((X7 ks k).zip (ZE ks vs k v))) (zzG.mp k2).1 hfp hs0 (fp':=fp') (λa m=>by
           rw[zyE]at m ⊢;exact hsub.mem m) (by rw[zyE];exact(zzW.mp hnd).2.sublist hsub) (by rw[hH];simp) λH' G' hl' gr kp=>.dt hl' (Kr hl) (x9.grow gr kp rl')
          exact q σ _ _ R4 (((g1.trans (Grow.less le)).trans g3).trans g4))
noncomputable def Ra(fk fv:EF):EF:=λas=>(fk as).bind λp=>(fv p.2).bind λq=>match p.1,q.1 with
 | .ow ko,.ow vo=>(Xk ko.toD).bind λk=>some (.ow (.nd (.dt [k]) [vo.frz]),q.2)
 |_,_=>none
def By(hu:X.A.units+1<cLine)(ha:AE X kd a fk)(hb:AE X kd b fv):AE X kd (.Dict [some a] [b] pos) (Ra fk fv):=by with_unfolding_all exact(yE (BM hu ha hb) λσ H Q h=>by
 obtain⟨F,B,ad,as,r,as',R,e,q⟩:=h;obtain⟨⟨p1,as1⟩,h1,e⟩:=bS_ (show(fk as).bind _=_ from e);obtain⟨⟨p2,as2⟩,h2,e⟩:=bS_ e
 match p1,p2,e,h1,h2 with
 | .ow ko,.ow vo,e,h1,h2=>
  obtain⟨k,hk,e⟩:=bS_ (show(Xk ko.toD).bind _=_ from e);cases e;intro p hp;have kp:∀b o,H b=some o->upd H p (.dT []) b=some o:=λb o hb=>by rw[zK (yq hb hp)];exact hb
  obtain⟨R2,g2⟩:=R.news (T':=[p]) (by simp) (λa m=>by rw[zzR.mp m];exact hp) kp (λa m=>by rw[zzR.mp m,yd];simp);refine wH R2.hide h1 λv ad1 H1 R1 rv1 g1=>wH R1 h2 λu ad3 H3 R3 rv2 g3'=>?_;have g3:=g1.trans g3';have np:¬Gw [] ad p:=λz=>(R.gtr p z).1 hp;have hp3:H3 p=some (.dT []):=g3.keep p _ yd np;have rk:=Tg (show w5 X.K kd F _ (Gw [] ad1) H1 v ko.frz []from rv1);obtain⟨bk,rfl,hbk⟩:=Xw (Rp.grow g3' rk).vw hk;have rl:x9 X.K kd F _ (Gw [] ad3) H3 [u] [vo.frz] []:=RoL.one rv2;have Ru:=R3.unhide (T1:=[p]) (T2:=[]) (by simp) (λa m z=>by rw[zzR.mp m]at z;exact(R.btr p z).1 hp);rw[zyE]at Ru;have rlu:x9 X.K kd F B (Gw [p] ad3) H3 [u] [vo.frz] []:=x9.lv (Xz (T1:=[p]) (T2:=[])) rl;refine⟨hp3,k,bk,rfl,hbk, ?_⟩;obtain⟨R4,g4⟩:=Ru.wrT (u:=.dT [(k,u)]) (show p ∈ [p] by simp);refine q _ [p] ad3 _ R4 (.dt (ks:=[k]) (vs:=[u]) yd rfl (x9.grow g4 (λ_ m=>nomatch m) rlu)) ((g2.trans ⟨λb u e n=>g3.keep b u e λz=>n (Gw.drop b z),λb z=>?_⟩).trans g4)
  rcases z with z|z
  . exact .inl (.inl z)
  . exact(g3.own b (.inr z)).elim (λy=>.inl (Gw.drop b y)) .inr)
def sd(hu:X.A.units+1<cLine):rj X kd IV:=by
 intro f i m s σ H x y v u Q I w z h B;obtain⟨O,d,e,r,P,C,D,c,q⟩:=h;cases C with
 |dt n l E=>
  obtain⟨k,G,c⟩:=bS_ (show(Xk e).bind _=_ from c);obtain⟨d,o,rfl⟩:=VB c;cases w;obtain⟨b,rfl,J⟩:=Xw D G
  rcases Rw k E l with⟨K,R,p,a,L⟩|⟨p,a⟩
  . rw[o]at a;cases a;obtain⟨_,_,_,_,M⟩:=NH I.hok (.inl n);have g:=LW.t n J;rw[p]at g;exact tail_any M.typeIs PySem.F.slot_dict_getitem.lookup (Bq hu I g z λS T N j=>⟨K,H,N,j,yg q L⟩) B
  . rw[o]at a;cases a
 |_=>cases c
end
def NV{K:zzA}{kd:KD}{F:Addr->Prop}{H:Hp}{a:Addr}{vs:List V}{st:Bool}{ds:List D}(ft:∀a,F a->H a≠none)(hs:∀H3:Hp,(∀b u,H b=some u->H3 b=some u)->Z5 K H3 a vs)(r:RpL K kd (λa=>st=true/\F a) H vs ds):ItC K kd F H (qQ K a) (Yq st 0 ds):=⟨λp T k m i=>by
 have c:=hs p k;have f:=GV st 0 ds;refine⟨λn=>?_,λn=>⟨_,c,by rw[r.length];omega⟩,λv B h=>?_⟩
 . obtain⟨u,j,_⟩:=r.get (zzE (by rw[<-f];exact n));exact⟨_,u,c,j⟩
 . obtain⟨A,x,g,rfl,rfl,s⟩:=h;have l:H A=none:=by
    cases e:H A with
    |none=>rfl
    |some u=>rw[k A u e]at g;cases g
   refine⟨xy g,λy h=>?_⟩;obtain⟨d,t,rfl⟩:=GT h;obtain⟨u,j,w⟩:=r.get t;have:=s _ c;rw[j]at this;cases this;rw[zyY];exact .tup (λz=>z.2.elim (λy=>ft A y l) λy=>(m A y).2 g) yd (.cons (.int _) (.cons ((w.since (λb o q=>xy g b o (k b o q)) λa z=>(m a z).1).less λa z=>z.2.elim (λy=>.inl ⟨z.1,y⟩) .inr) .nil))⟩
noncomputable def BD(i:Nat)(k:Int):SF:=λas=>match as[i]? with
 |some (some (.lf _ (.int n)))=>some (.nx (as.set i (some (.lf true (.int (n+k))))))
 |_=>none
section
variable{X:Cx}{kd:KD}{e:Expr}{fa:EF}{pos pos':Pos}
def Ca{p:Pos}{elts:List Expr}{k:Nat}(hg:Gl X "enumerate")(hm:X.mg "enumerate"=none)(he:AE X kd e fa)(hs:starEach [e] X.env=[(false,eval e X.env)]):
 O6 X kd (.Tuple elts k pos') (.Call (.Name "enumerate" p) [e] [] pos) (BC fa):=by
 with_unfolding_all (
 intro pins s σ H R I h;obtain⟨F,B,ad,as,ds,as',Rl,e',q⟩:=h;obtain⟨⟨p,as1⟩,h1,e'⟩:=bS_ (show(fa as).bind _=_ from e');obtain⟨⟨⟨st,x⟩,as2⟩,h2,e'⟩:=bS_ e'
 match x,e',h2 with
 | .lst xs,e',h2=>
  cases e';refine Im hg hm (Z3 he Qu hs) hs pins s σ H R I (show al X.K kd fa σ H _ from⟨F,B,ad,as,p,as1,Rl,h1,λv T1 ad1 H1 R1 rv1 g1=>?_⟩);obtain⟨ad2,R2,rp,le⟩:=ZG R1 rv1 h2;cases rp with
  |lst hn hr rl=>exact⟨_,rfl,⟨_,.inl hr⟩,q _ ad2 H1 R2 (g1.trans (Grow.less le)) (NV (R2.trk true) (λH3 k=>.inl (hr.elim (λh=>.inl (k _ _ h)) λ⟨o,h⟩=>.inr ⟨o,k _ _ h⟩)) (rl.less λa z=>by have z1:=z.1;rw[z1];exact z.2))⟩
  |lstK a b c rl=>exact⟨_,rfl,⟨_,.inr ⟨_,_,_,a,rfl,rfl,rfl,b,c⟩⟩,q _ ad2 H1 R2 (g1.trans (Grow.less le)) (NV (R2.trk true) (λH3 k=>.inr ⟨_,_,_,a,rfl,rfl,rfl,b,c⟩) (rl.less λa z=>by have z1:=z.1;rw[z1];exact z.2))⟩)
def Dk(hN:X.N.Nodup)(hi:X.N[i]? = some x)(hx:Loc X.env.scope x)(hf:X.fn x=true\/X.env.scope.names.lookup x=some .local):
 Tt X kd (.AugAssign (.Name x pos') .Add (.Constant (.int k) z p2) pos) (BD i k):=by with_unfolding_all exact(wo (D5 hN hi hx KR Dc hf) λD σ H h=>by
 obtain⟨F,B,d,as,o,R,e,q⟩:=h;cases a:as[i]? with
 |none=>unfold BD at e;rw[a]at e;cases e
 |some f=>
  unfold BD at e;rw[a]at e
  match f,e,a with
  |some (.lf p (.int n)),e,a=>
   cases e;obtain⟨v,g,c⟩:=R.sl i _ a;generalize d i=j at c;cases c with
   |lf l=>
    cases l;obtain⟨b,R2,m⟩:=ML (v:=.int (n+k)) (z:=true) (r:=.ow (.lf true (.int (n+k)))) (o:=.lf true (.int (n+k))) (i:=i) R (show w5 _ _ _ _ _ _ _ _ _ from .lf (.int _)) rfl (zzG.mp a).1;exact⟨_,g,_,_,rfl,rfl,q _ b H R2 (Grow.less m)⟩)
end
section
variable{X:Cx}{kd:KD}{P:Program}{w:World}{K:zzA}{a b e o:Expr}{es:List Expr}{fa fb fo:EF}{fr:AF}{fd_:DF}{pos p apos:Pos}{k n:Nat}
def vN(h1:sc.kind = .function:=by rfl)(h2:sc.isCoroutine=false:=by rfl)(h3:sc.isGenerator=false:=by rfl)(h4:N.Nodup:=by decide +kernel)(h5:N.take Ps.length=Ps:=by rfl)(h6:∀x ∈ Ps,sc.names.lookup x=some .local\/sc.names.lookup x=some .cell:=by decide +kernel)(h7:∀y ∈ sc.names,y.2 ≠ .free:=by decide +kernel):FnScope N Ps sc:=⟨h1,h2,h3,h4,h5,h6,h7⟩
def bs{x qual:Str}{st:Stmt}{f:Addr}{fd:FuncData}{ps:List Str}(F:Fun K x qual st f fd)
 (h:∀(kV doc pm:Value) (an:Option Addr) (cdv ct:Value) (us:List Value),us.length=ps.length->bindArgs (PySem.W.fnOf x qual (Rb st) (Yg st) (zr st) .none kV doc pm an cdv ct) ⟨us,[]⟩=pure (ps.zip us):=by first|exact λ_ _ _ _ _ _=>pY λ_=>rfl|exact λ_ _ _ _ _ _=>oe λ_ _=>rfl|exact λ_ _ _ _ _ _=>oI λ_ _ _=>rfl|exact λ_ _ _ _ _ _=>oA λ_ _ _ _=>rfl|exact λ_ _ _ _ _ _=>p7 λ_ _ _ _ _=>rfl|exact λ_ _ _ _ _ _=>l6_ λ_ _ _ _ _ _=>rfl):Binds K fd ps []:=F.binds h
def bc(ha:AE X kd a fa)(hr:AA X kd es fr)(hs:isStar a=false:=by rfl):AA X kd (a::es) (aC fa fr):=Cy ha hr (GN hs)
def bd(ha:AE X kd a fa)(hr:AD X kd es fd_)(hs:isStar a=false:=by rfl):AD X kd (a::es) (dC fa fd_):=Ig ha hr (GN hs)
def bn{op:Operator}(ha:AE X kd a fa)(hb:AE X kd b fb):AE X kd (.BinOp a op b pos) (f2 fa fb (WJ op)):=Aq (J6 op) ha hb
def tc{op:CmpOp}(hkd:vd P w K kd)(hr:Room k X.A)(ha:AE X kd a fa)(hb:AE X kd b fb)(h1:X.prog=P:=by rfl)(h2:X.w=w:=by rfl)(h3:X.K=K:=by rfl)(hm:behindInMarks op b=false:=by exact Hg _):AT X kd (.Compare a [op] [b] pos) (fT (f2 fa fb (zy op))):=DY (Kj (hkd _ h1 h2 h3) (Ml hr) op) (Ij op) ha hb hm
def ec{op:CmpOp}(hkd:vd P w K kd)(hr:Room k X.A)(ha:AE X kd a fa)(hb:AE X kd b fb)(h1:X.prog=P:=by rfl)(h2:X.w=w:=by rfl)(h3:X.K=K:=by rfl)(hm:behindInMarks op b=false:=by exact Hg _):AE X kd (.Compare a [op] [b] pos) (f2 fa fb (zy op)):=Ar (Kj (hkd _ h1 h2 h3) (Ml hr) op) ha hb hm
def bi{id:String}{gg:List D->Option R0}{x:Str}(hc:YJ X kd (.builtin id) gg)(hm:X.mg x=none)(hv:bootBuiltins x=some (.builtin id))(ha:AA X kd (e::es) fr)(hg:Gl X x:=by rfl)(hn:x≠"__name__":=by exact Bt.n _ rfl)(hdb:(x==("__debug__":Str))=false:=by decide)
 (he:starEach (e::es) X.env=(false,eval e X.env)::starEach es X.env:=by rfl) (hpl:(backTo pos (starEach es X.env)).any (·.1)=false:=by rfl):AE X kd (.Call (.Name x p) (e::es) [] pos) (fP fr gg):=D3 hc hg hm hv ha hn hdb he hpl
def uY(hc:YJ X kd (.type T) gg)(hm:X.mg x=none)(hv:bootBuiltins x=some (.type T))(ha:AA X kd (e::es) fr)(hg:Gl X x:=by rfl)(hn:x≠"__name__":=by exact Bt.n _ rfl)(hdb:(x==("__debug__":Str))=false:=by decide)
 (he:starEach (e::es) X.env=(false,eval e X.env)::starEach es X.env:=by rfl) (hpl:(backTo pos (starEach es X.env)).any (·.1)=false:=by rfl):AE X kd (.Call (.Name x p) (e::es) [] pos) (fP fr gg):=Aa hc hg hm hv ha hn hdb he hpl
def sj(i:Nat){z:Bool}{x:Str}{pos':Pos}{rest:List Stmt}{g:SF}(hN:X.N.Nodup)(he:AE X kd e fa)(h2:MS X kd rest g)(hi:X.N[i]? = some x:=by rfl)(hx:Loc X.env.scope x:=by first|exact Or.inl rfl|exact Or.inr rfl)(hs:swapsWith e (some (.Name x pos')) pos.line X.env=pure false:=by rfl)(hf:X.fn x=true\/X.env.scope.names.lookup x=some .local:=by first|exact Or.inl rfl|exact Or.inr rfl):
 MS X kd (.Assign [.Name x pos'] e pos::rest) (zm (zz z i fa) g):=vc (OI hN hi hx he hs hf) h2
end
end PF
end
section
namespace PySem
section
variable{prog:Program}{w:World}{K:Type}[DecidableEq K]{knd:HeapKind prog w K}{A:Around}{E:Value->Shared->Prop}{s:Shared}
def Hw(hu:knd.room A)(hkey:knd.is s.heap k a)(hm:s.heap.DictOfH knd d xs)
 (h1:∀u,(atKey xs k).map (·.2)=some u->Q u {s with toks:=s.toks+knd.draws k})
 (hQ:atKey xs k=none->∀h',h'.DictOfH knd d (storedH xs k a v)->Heap.SameBut d s.heap h'->Q v {s with heap:=h',toks:=s.toks+knd.draws k})
 (hsz:xs.length<=sizeLine):wpAny (model prog w) A (dictSetDefault d (.ref a) v) Q E s:=by
 obtain⟨o,z,r,g,t,f,l,h,m⟩:=hm;unfold dictSetDefault
 try with_reducible refine zxM ?_
 refine zxG (knd.pyHash hu hkey (zxG (wpAny_dictFind_heap (s:={s with toks:=s.toks+knd.draws k}) hu hkey g f l h m ?_ ?_)))
 . intro b;have i:k ∉ xs.map (·.1):=not_mem_keys_of_get b;refine zxG (wpAny_rule (zxG (wpAny_updateDictKeys (hz:=by have e:=size_of_entries l;omega) (s:={s with toks:=s.toks+knd.draws k}) g f (zxH (hQ (atKey_none_of_get b) _ ⟨_,_,r+1,zxO _ g (Obj.isFreed_of_dict (Obj.data_mapDictKeys f _)),
    t.mapDictKeys _,Obj.data_mapDictKeys f _, ?_, ?_, ?_⟩ (Heap.SameBut.update ..))))))
   . rw[storedH_new (atKey_none_of_get b)];simp[l,entryOfKey]
   . rw[storedH_new (atKey_none_of_get b)];intro x c
     rcases zzM.mp c with c|c
     . exact knd.keeps (h x c) g f (Heap.SameBut.update ..)
     . simp only[zzR]at c;subst c;exact knd.keeps hkey g f (Heap.SameBut.update ..)
   . rw[storedH_new (atKey_none_of_get b),zyM,zxF];refine⟨m,by simp, ?_⟩;intro x c y n;simp only[zyS,List.map_nil,zzR]at n;subst n;exact λe=>i (e ▸ c)
 . intro j p q;refine zxG (wpAny_dictEntries (s:={s with toks:=s.toks+knd.draws k}) g f ?_);rw[entry_at l j,q];exact zxG (wpAny_rule (zxH (h1 _ (by rw[atKey_of_get m q];rfl))))
def Mp(knd:HeapKind prog w K)(d a:Addr)(hd:(d==sysModules)=false)(dflt:Value):
 MeetsIn prog w (Builtin.«dict.setdefault» ⟨[.ref d,.ref a,dflt],[]⟩) (λA R s=>knd.room A.in1/\∃k xs,knd.is s.heap k a/\s.heap.DictOfH knd d xs/\xs.length<=sizeLine/\
  (∀u,(atKey xs k).map (·.2)=some u->R (.ok (.ret u)) {s with toks:=s.toks+knd.draws k})/\
  (atKey xs k=none->∀h',h'.DictOfH knd d (storedH xs k a dflt)->Heap.SameBut d s.heap h'->R (.ok (.ret dflt)) {s with heap:=h',toks:=s.toks+knd.draws k})):=
 .of_wp λA R s ⟨g,k,o,b,f,h,i,j⟩=>by
  unfold Builtin.«dict.setdefault»;refine zxG ?_;unfold Builtin.Dict.keyAndDefault;refine zxG (wpAny_notOrdered_dict f.typeIs ?_);show wpAny _ _ (pure (d,Value.ref a,some dflt)) _ _ s;refine zxH ?_;show wpAny _ _ (if(d==sysModules)=true then _ else(dictSetDefault d (.ref a) dflt >>= _)) _ _ s;rw[if_neg (by rw[hd];exact zyW)];exact zxG (Hw g b f (λv l=>zxH ⟨v,rfl,i v l⟩) (λm n c e=>zxH ⟨dflt,rfl,j m n c e⟩) h)
end
end PySem
namespace PF
open PySem PySem.Spec PyProof.Rows L2
def rD(x:V)(xs:List V)(H:Hp)(Q:VK):Prop:=∃a kvs k b y,x = .ref a/\xs=[.ref b,y]/\H a=some (.dT kvs)/\KC H b k/\kvs.length<sizeLine/\
 (∀v,wJ kvs k=some v->Q v H)/\(wJ kvs k=none->Q y (upd H a (.dT (putK kvs k y))))
section
variable{X:Cx}{kd:KD}
def Dy(hu:X.A.units+1<cLine):tB X "dict.setdefault" rD:=by
 intro m s σ H x V v W Q I C D h;obtain⟨a,d,k,b,y,rfl,rfl,g,n,Y,E,G⟩:=h;cases C;obtain⟨Z,J,rfl,K,o⟩:=D.two;cases K;obtain⟨z,p,r,e,t⟩:=Fe I.hok g;have i:r.length<=sizeLine:=by rw[<-e.length];exact z
 refine call_meetsIn PySem.F.slot_dict_setdefault t.typeIs PySem.F.entry_dict_setdefault (PySem.F.args_dict_setdefault_3 _ _ _) (Mp (tupleKind (yN X.prog X.w)) a b p J) ⟨tupleKind_room_in1 hu,k,r,Wy I.hok n,t,i,λu j=>?_,λL h' l M=>?_⟩
 . have:=e.val k;rw[j]at this;cases f:wJ d k with
   |none=>rw[f]at this;exact absurd this (by intro z;cases z)
   |some w=>
    rw[f]at this;exact⟨w,H,I.tok _,this,E w f⟩
 . have f:wJ d k=none:=by
    have:=e.val k;rw[L]at this;cases f:wJ d k with
    |none=>rfl
    |some w=>rw[f]at this;exact absurd this (by intro z;cases z)
   refine⟨y,_, ?_,o,G f⟩;obtain⟨q,N,O,B,P,R,S,_,T⟩:=l;refine Rf I (by rw[g];exact True.intro) M ⟨q,B⟩ ⟨?_,p,_,(e.put k n o).keeps λc U ec=>?_,q,N,O,B,P,R,S,T⟩
   . have:(putK d k y).length<=d.length+1:=by
      unfold putK
      split
      . rw[zzB];omega
      . rw[zzJ];exact zzN _
     omega
   . rw[zK (SE ec g (λz=>nomatch z))];exact ec
noncomputable def pO:List O->Option (O×Bool×D)
 | [ok,.lf st d]=>some (ok,st,d)
 |_=>none
noncomputable def BP(i:Nat)(fr:DF):SF:=λas=>match as[i]? with
 |some (some (.nd (.dt _) _))=>(fr as).bind λp=>(pO p.1).bind λz=>match p.2[i]? with
  |some (some (.nd (.dt ks) os))=>(Xk z.1.toD).bind λk=>if ks.length<sizeLine then some (.nx (if Qf ks k=true then p.2 else p.2.set i (some (.nd (.dt (ks++[k])) (os++[.lf z.2.1 z.2.2])))))else none
  |_=>none
 |_=>none
def D_{os:List O}{z:O×Bool×D}(h:pO os=some z):os=[z.1,.lf z.2.1 z.2.2]:=by
 match os,h with
 | [ok,.lf a d],h=>cases h;rfl
def DX{i:Nat}{x:Str}{p apos cpos pos':Pos}{e:Expr}{es:List Expr}{fr:DF}(hu:X.A.units+1<cLine)(ho:PE X (.Name x p) (WZ i))(ha:AD X kd (e::es) fr)
 (hbase:attributeBase (.Name x p) "setdefault" X.env (eval (.Name x p) X.env)=eval (.Name x p) X.env)
 (hfew:((backTo cpos (starEach (e::es) X.env)).all (λx=>!x.1)&&(backToKw cpos (keywordEach [] X.env)).all (λx=>x.1.isSome)
  && decide ((e::es).length+([]:List Keyword).length+(if([]:List Keyword).isEmpty then 0 else 1)<30))=true)
 (hline:(apos.endLine==cpos.line)=true) (hs:starEach (e::es) X.env=(false,eval e X.env)::starEach es X.env) (hplain:(backTo cpos (starEach es X.env)).any (·.1)=false)
 (hsw:swapsWith (.Call (.Attribute (.Name x p) "setdefault" apos) (e::es) [] cpos) none pos'.line X.env=pure false):
 Tt X kd (.Expr (.Call (.Attribute (.Name x p) "setdefault" apos) (e::es) [] cpos) pos') (BP i fr):=by
 with_unfolding_all exact(wo (FH (Jx PySem.F.plainAttrs_dict PySem.F.slot_dict_setdefault PySem.F.type_dict_setdefault (Dy hu) ho ha hbase hfew hline hs hplain) hsw) λD σ H h=>by
  obtain⟨F,B,ad,as,o,R,e,q⟩:=h;cases w:as[i]? with
  |none=>unfold BP at e;rw[w]at e;cases e
  |some a0=>
   unfold BP at e;rw[w]at e
   match a0,e,w with
   |some (.nd (.dt ks0) os0),e,w=>
    obtain⟨⟨P,C⟩,h1,e⟩:=bS_ (show(fr as).bind _=_ from e);obtain⟨v0,g,E⟩:=R.sl i _ w;generalize hfp0:ad i=fp0 at E;cases E with
    |dt Q hl0 rl0=>
     rename_i l vs0 fp00;refine⟨_,g,.inr (.inr (.inl ⟨rfl,.inr ⟨_,Q⟩⟩)),F,B,ad,as,P,C,R,h1,λws T1 b G R1 S g1=>?_⟩;obtain⟨⟨ok,O,d⟩,h2,e⟩:=bS_ e;cases D_ h2;cases s:C[i]? with
     |none=>rw[s]at e;cases e
     |some a2=>
      rw[s]at e
      match a2,e,s with
      |some (.nd (.dt c) os),e,s=>
           obtain⟨k,hk,e⟩:=bS_ (show(Xk ok.toD).bind _=_ from e);obtain⟨hz,e⟩:=zM e;cases e;have R2:=R1.drop;obtain⟨v1,I,J⟩:=R2.sl i _ s;rw[g]at I;cases I;cases S with
           |cons ra rb=>
            rename_i va wb fa fb;cases rb with
            |cons rc rd=>
             rename_i t we fc fe;cases rd;cases rc with
             |lf rp=>
              have rk:Rp X.K kd (λ_=>False) G va ok.toD:=Ro.rp false (λO v d _ r=>Rp.less (λa z=>z.elim) r) (λ_ _ z=>z) (λz=>nomatch z) (λ_ _ z=>z) ra;obtain⟨bk,rfl,U⟩:=Xw rk.vw hk;generalize L:b i=fp1 at J;cases J with
              |dt hH M rl=>
               rename_i j fp;have f:Qf c k=(wJ (c.zip j) k).isSome:=by rw[<-Rk,Lb k c j M]
               have gd:=g1.trans (Grow.less (H:=G) (Gw.drop (T:=fa++([]++[])) (ad:=b)));refine⟨_,c.zip j,k,bk,t,rfl,rfl,hH,U,by rw[List.length_zip,M,Nat.min_self,<-M];exact hz,λv V=>?_,λV=>?_⟩
               . rw[V]at f;rw[show Qf c k=true from f,if_pos rfl]at q;exact q σ b G R2 gd
               . rw[V]at f;have f:Qf c k=false:=f;rw[f,if_neg zyW]at q;have W:w5 X.K kd F B (Gw [] b) G t (.lf O d) []:=.lf (Rp.less (λa z=>z.imp id λy=>Gw.drop a y) rp);have Y:x9 X.K kd F B (Gw [] b) G (j++[t]) (os++[.lf O d]) fp:=by have:=rl.append (RoL.one W);rw[zyE]at this;exact this
                 have N:=R2.nd i;rw[L]at N;rw[Md M,show X7 c k=c++[k] by unfold X7;rw[f];rfl,show ZE c j k t=j++[t] by unfold ZE;rw[f];rfl];obtain⟨R4,g4⟩:=R2.mut (fo:=[]) (n:=.nd (.dt (c++[k])) (os++[.lf O d])) (u:=.dT ((c++[k]).zip (j++[t]))) (zzG.mp s).1 L g (fp':=fp) (λa m=>m) (by rw[zyE];exact(zzW.mp N).2) (by rw[hH];simp) λH' G' Z gr kp=>.dt Z (by rw[zzJ,zzJ,M];rfl) (x9.grow gr kp Y);exact q σ _ _ R4 (gd.trans g4))
end
def Q0(ss:List Int):Nat:=(ss.foldl step_dedup []).length
def HZ(ss:List Int):(List.range ss.length).map (λi=>ss.getD i 0)=ss:=by
 refine List.ext_getElem? λi=>?_;rw[zzI]
 by_cases h:i<ss.length
 . rw[zzE (by rw[zyU];exact h),List.getElem_range,zzE h];show some (ss.getD i 0)=_;rw[zyF,zzE h];rfl
 . rw[List.getElem?_eq_none (by rw[zyU];omega),List.getElem?_eq_none (by omega)];rfl
def Di:bootBuiltins "set"=some (.type "set"):=by decide +kernel
theorem Gs:∀{us:List Value}{ss:List Int},IntsAre us ss->us.length=ss.length
 |_,_,.nil=>rfl
 |_,_,.cons _ _ r=>congrArg (· + 1) (Gs r)
section
variable{X:Cx}{kd:KD}
def ou(K:zzA)(ta:TA):TE:=λσ H Q=>ta σ H λvs H1=>∃r ys ss,vs=[.ref r]/\Z5 K H1 r ys/\(∀us,z_ ys us->IntsAre us ss)/\ss.length<=1000/\Q (.int (Q0 ss)) H1
def Bh(hc:X.calm=true)(hg:Gl X "set")(hm:X.mg "set"=none)(hgl:Gl X "len")(hml:X.mg "len"=none)(ha:PA X [a] ta)(hs:starEach [a] X.env=[(false,eval a X.env)])
 (hs':starEach [.Call (.Name "set" p) [a] [] pos] X.env=[(false,eval (.Call (.Name "set" p) [a] [] pos) X.env)]):PE X (.Call (.Name "len" p') [.Call (.Name "set" p) [a] [] pos] [] pos') (ou X.K ta):=by
 intro pins s σ H Q I h;refine wpAny_Call_Name_kw (vQ I hgl hml Bt.len (PyProof.Rows.callWith_builtin1 ?_ hs' rfl));rw[hs'];show wpAny _ _ (spliced ((false,eval _ X.env)::backTo pos' [])) _ _ s;refine Calls.spliced_cons ?_;refine wpAny_Call_Name_kw (vQ I hg hm Di (PyProof.Rows.callWith_type1 (thn (ha pos pins s σ H _ I h) λus s1 ⟨vs,H1,I1,r1,q1⟩=>?_) hs rfl));obtain⟨r,ys,ss,rfl,sq,hss,hz,q⟩:=q1;cases r1 with
 |cons rr rs=>
  cases rs;cases rr;obtain⟨its,rv,pl,_⟩:=I1.list sq;have hS:=hss its rv;have hl:=Gs hS;refine call_set_list (ns:=ss) (I1.ok.hd hc) pl.isList (by simpa using hS) (by simp only[zzH];unfold scanBound;omega) λh' tk hSet hk=>?_;refine Calls.spliced_nil ?_;obtain⟨o,es,ep,t,ho,hex,hd,_,_,hb,hf,hn⟩:=hSet;refine call_len_set ho hex hd hf (by unfold scanBound at hb;omega) ?_;have e:es.size=Q0 ss:=by
   rw[hn,zzH,hl];unfold PyProof.Rows.firstMet Q0;rw[HZ]
  refine⟨.int (Q0 ss),H1,I1.kept λb u e=>hk b u (zxJ e) e,⟨_,by rw[e]⟩,q⟩
def sX:List D->Option R0:=DI λx=>(ER x).bind λds=>(wL ds).bind λss=>if ss.length<=1000 then some (.im (.int (Q0 ss)))else none
def Bu(hc:X.calm=true)(hg:Gl X "set")(hm:X.mg "set"=none)(hgl:Gl X "len")(hml:X.mg "len"=none)(ha:AA X kd [a] fr)(hs:starEach [a] X.env=[(false,eval a X.env)])
 (hs':starEach [.Call (.Name "set" p) [a] [] pos] X.env=[(false,eval (.Call (.Name "set" p) [a] [] pos) X.env)]):AE X kd (.Call (.Name "len" p') [.Call (.Name "set" p) [a] [] pos] [] pos') (fP fr sX):=by
 with_unfolding_all exact(yE (Bh hc hg hm hgl hml ha hs hs') λσ H Q h=>by
  obtain⟨F,B,m,as,r,n,R,e,q⟩:=h;obtain⟨⟨o,b⟩,s,e⟩:=bS_ (show(fr as).bind _=_ from e);obtain⟨⟨W,Y⟩,t,e⟩:=bS_ e;obtain⟨Z,u,e⟩:=bS_ e;obtain⟨z,v,e⟩:=bS_ e;cases e;refine(show ux X.K kd fr σ H _ from⟨F,B,m,as,o,b,R,s,λvs c H1 l f y=>?_⟩);have A:=XA l f t;have C:=Za l v (Q:=Q) λw D E G g I=>q w D c E G g (y.trans I);obtain⟨x,d,rfl,J,L⟩:=Qk A u;obtain⟨M,N,i⟩:=bS_ (show(ER d).bind _=_ from L);cases WH N;obtain⟨O,P,j⟩:=bS_ i;obtain⟨S,k⟩:=zM j;cases k;cases J with
  |lst T U=>exact⟨_,_,O,rfl,T.sq,λus V=>Yc U V P,S,yg C (.int _)⟩)
end
def uA:EF:=λas=>some (.ow (.nd (.dt []) []),as)
section
variable{X:Cx}{kd:KD}{n:Nat}
def DW:AE X kd (.Dict [] [] pos) uA:=by with_unfolding_all exact(yE OJ λσ H Q h=>by
 obtain⟨F,B,f,as,r,g,R,e,q⟩:=h;cases e;intro p c;have k:∀b o,H b=some o->upd H p (.dT []) b=some o:=λb o d=>by rw[zK (yq d c)];exact d
 obtain⟨R2,i⟩:=R.news (T':=[p]) (by simp) (λa m=>by rw[zzR.mp m];exact c) k (λa m=>by rw[zzR.mp m,yd];simp);exact q _ [p] f _ R2 (.dt (ks:=[]) (vs:=[]) yd rfl .nil) i)
end
structure Co(x:Str)(P:Program)(w:World)(K:zzA)(mg:Str->Option Value)(base:Heap)(kd:KD)(k:Nat)(f:Addr)(d:FuncData)(ps:List Str)(gg:List (Bool×D)->Option O):Prop where
 F:FnOk P w K mg base B4 k f d ps (JQ K kd gg)
 m:mg x=some (.ref f)
 kp:PySem.W.keepIn K (.ref f)=true
 b:Binds K d ps []
noncomputable def Hz:List Str->List Str->List (Option Nat)->List Str
 |t::ts,XN,none::c=>t::Hz ts XN c
 | [],XN,none::c=>""::Hz [] XN c
 |ts,XN,some j::c=>XN.getD j ""::Hz ts XN c
 |_,_,[]=>[]
def t7:Expr->Str
 | .Name x _=>x
 |_=>""
def Jw:Expr->List Str
 | .Tuple es _ _=>es.map t7
 |e=>[t7 e]
noncomputable def JX:Nat->List (Option Nat)->List Nat
 |_,[]=>[]
 |k,none::c=>k::JX (k+1) c
 |k,some _::c=>JX (k+1) c
theorem MP:∀(c d:List (Option Nat)) (i:Nat),i ∈ JX d.length c->(d++c)[i]? = some none
 | [],_,_,h=>nomatch h
 |none::c,d,i,h=>by
  have a:=MP c (d++[none]) i;rw[zzJ,zxD]at a
  rcases zzC.mp (show i ∈ d.length::JX (d.length+1) c from h)with rfl|h
  . simp
  . exact a h
 |some x::c,d,i,h=>by
  have a:=MP c (d++[some x]) i;rw[zzJ,zxD]at a;exact a h
def S8:(JX 0 cap).all (λi=>cap[i]? == some none)=true:=List.all_eq_true.mpr λi m=>by
 have:=MP cap [] i m;rw[List.nil_append]at this;rw[this];rfl
def oP{N:List Str}(h:decide N.Nodup=true):N.Nodup:=of_decide_eq_true h
section
variable{X:Cx}{kd:KD}{elt tg iter e:Expr}{es ifs:List Expr}{scope:Scope}{pos p:Pos}{cap:List (Option Nat)}{g:GF}{tt:TF}{fe:EF}{fi:IF}{S:List Nat}{fr:AF}{k n:Nat}
def cq(C:Co x X.prog X.w X.K X.mg X.base kd k f d ps gg)(hr:Room n X.A)(ha:AA X kd (e::es) fr)(hn:k<=n:=by omega)(hg:Gl X x:=by rfl)(hdb:(x==("__debug__":Str))=false:=by decide)(he:starEach (e::es) X.env=(false,eval e X.env)::starEach es X.env:=by rfl)(hpl:(backTo pos (starEach es X.env)).any (·.1)=false:=by rfl):
 AE X kd (.Call (.Name x p) (e::es) [] pos) (zp fr gg):=CN C.F (hr.mono hn) hg C.m C.kp C.b su ha hdb he hpl
def oK(h1:AG X kd a [i] g)(h2:JG X kd es S gs)(hs:(assignEach (a::es) X.env).map (·.2)=assign a X.env::(assignEach es X.env).map (·.2):=by rfl):JG X kd (a::es) (i::S) (ye g gs):=xS h1 h2 hs
def uv(X:Cx)(kd:KD)(tg:Expr)(g:GF):Prop:=∃S,AG X kd tg S g
def HN(X:Cx)(kd:KD)(es:List Expr)(gs:Ja):Prop:=∃S,JG X kd es S gs
def qP(i:Nat)(hN:X.N.Nodup)(hi:X.N[i]? = some x:=by rfl)(hx:Loc X.env.scope x:=by first|exact Or.inl rfl|exact Or.inr rfl)(hf:X.fn x=true\/X.env.scope.names.lookup x=some .local:=by first|exact Or.inl rfl|exact Or.inr rfl):uv X kd (.Name x pos) (gN i):=⟨_,E4 hN hi hx hf⟩
def r4(h:HN X kd es gs)(hc:X.calm=true:=by rfl)(hn:(assignEach es X.env).length=m:=by rfl)(hst:(assignEach es X.env).findIdx? (·.1)=none:=by rfl):uv X kd (.Tuple es j pos) (gT m gs):=h.elim λ_ h=>⟨_,Kk hc h hn hst⟩
def rS(h1:uv X kd a g)(h2:HN X kd es gs)(hs:(assignEach (a::es) X.env).map (·.2)=assign a X.env::(assignEach es X.env).map (·.2):=by rfl):HN X kd (a::es) (ye g gs):=h1.elim λ_ h1=>h2.elim λ_ h2=>⟨_,xS h1 h2 hs⟩
def rR:HN X kd [] xD:=⟨_,U3⟩
def oJ(hi:AI X kd tg iter fi)(hg:uv X kd tg g)(hb:MS X kd body f)(hp:PassesOwn (model X.prog X.w) X.A X.env X.xe:=by exact PassesOwn.never)(hc:X.calm=true:=by rfl)(hs:∀x,foldedSetIterable iter X.env x=pure x:=by exact λ_=>rfl):Tt X kd (.For tg iter body [] pos) (yM fi g f):=hg.elim λ_ hg=>Kb hp hc hi hg hb hs
def qT(he:AE X kd e fe)(hg:uv X kd tg g)(hs:swapsWithSole [tg] e pos.line X.env=pure false:=by rfl)(hw:swappedStores [tg] e X.env=pure none:=by rfl)(h1:(assignEach [tg] X.env).map (·.2)=[assign tg X.env]:=by rfl):Tt X kd (.Assign [tg] e pos) (vS fe g):=hg.elim λ_ hg=>SC he hg hs hw h1
theorem cm(hi:O6 X kd tg iter fi)(hg:∀cl s H fp,AG (yT X (Hz (Jw tg) X.N cap) scope cl s H fp) kd tg (JX 0 cap) g)(ht:∀cl s H fp,B5 (yT X (Hz (Jw tg) X.N cap) scope cl s H fp) ifs (Ci X.K kd tt))(he:∀cl s H fp,AE (yT X (Hz (Jw tg) X.N cap) scope cl s H fp) kd elt fe)
 (hc:X.calm=true:=by rfl) (hk:scope.kind = .function:=by rfl) (hcap:Wr (Hz (Jw tg) X.N cap) X.N scope.names X.env.scope.names cap=true:=by kernel_rfl) (hs:∀x,foldedSetIterable iter X.env x=pure x:=by exact λ_=>rfl):AE X kd (.ListComp elt [⟨tg,iter,ifs,0⟩] scope pos) (zq fi cap g tt fe):=EZ hc hi hk hcap S8 hg ht he hs
theorem oM(hN:X.N.Nodup)(hi:O6 X kd tg iter fi)(hg:∀cl s H fp,AG (yT X (Hz (Jw tg) X.N cap) scope cl s H fp) kd tg (JX 0 cap) g)(ht:∀cl s H fp,B5 (yT X (Hz (Jw tg) X.N cap) scope cl s H fp) ifs (Ci X.K kd tt))(he:∀cl s H fp,AE (yT X (Hz (Jw tg) X.N cap) scope cl s H fp) kd elt fe)
 (hiy:X.N[i]? = some y:=by rfl) (hy:Loc X.env.scope y:=by first|exact Or.inl rfl|exact Or.inr rfl) (hf:X.fn y=true\/X.env.scope.names.lookup y=some .local:=by first|exact Or.inl rfl|exact Or.inr rfl) (hsw:swapsWith (.ListComp elt [⟨tg,iter,ifs,0⟩] scope pos) (some (.Name y py)) spos.line X.env=pure true:=by rfl)
 (hc:X.calm=true:=by rfl) (hk:scope.kind = .function:=by rfl) (hcap:Wr (Hz (Jw tg) X.N cap) X.N scope.names X.env.scope.names cap=true:=by kernel_rfl) (hs:∀x,foldedSetIterable iter X.env x=pure x:=by exact λ_=>rfl):Tt X kd (.Assign [.Name y py] (.ListComp elt [⟨tg,iter,ifs,0⟩] scope pos) spos) (zz z i (zq fi cap g tt fe)):=KQ hN hiy hy hf hsw hc hi hk hcap S8 hg ht he hs
end
end PF
end
section
namespace G57
open PySem PySem.Spec PyProof.Rows L2 PF
abbrev zj:EF:=fV 1
abbrev zX:EF:=fC (.int 0)
abbrev zh:EF:=fV 0
abbrev yk:EF:=fC (.int 2)
abbrev zW:EF:=fC (.int 1)
abbrev zu:EF:=fV 2
abbrev xo:EF:=fC (.int 4)
abbrev vp:GF:=gN 4
abbrev zP:EF:=fV 4
abbrev zD:EF:=fV 3
abbrev zG:GF:=gN 0
abbrev zA:=WJ .Add
abbrev yP:EF:=fV 5
abbrev Z7:EF:=fC (.int 5)
abbrev y0:EF:=fV 6
abbrev yK:EF:=fV 7
abbrev yz:EF:=fV 11
abbrev zB:=WJ .Mod
abbrev zE:=WJ .Mult
abbrev YR:EF:=fC (.int 8)
abbrev zR:=WJ .FloorDiv
abbrev xv:EF:=fC (.int 3)
abbrev Y6:=WJ .Sub
abbrev Wx:EF:=fC (.int 6)
abbrev Yk:AF:=aC (fV 3) aN
abbrev xr:AF:=aC (fV 0) aN
abbrev yS:AF:=aC (fV 1) aN
abbrev xI:AF:=aC (fV 2) aN
abbrev Hf:AF:=aC (fV 5) aN
abbrev O0:AF:=aC (fV 7) aN
abbrev Tb:List Str:=["thing"]
def Q3:FnScope Tb ["thing"] (zr Z_):=vN
def Td:SF:=
 (zT (Nl (Eo zh "int") (OW (Eo zh "bool"))))
def WS:Fn:=wK 1 1 Td
abbrev Q4:List Str:=["thing","least","most"]
def Kt:FnScope Q4 ["thing","least","most"] (zr Zi):=vN
def Ul:SF:=
 (zT (Nl (zp xr WS) (Ks zj zh zu (zy .LtE) (zy .LtE))))
def Zm:Fn:=wK 3 3 Ul
abbrev Ma:List Str:=["thing","n"]
def GB:FnScope Ma ["thing","n"] (zr Qc):=vN
def N6:SF:=
 (zT (Nl (Eo zh "list") (fP (aC (zq (yw zh) [none,some 1] zG zH (zp (aC zh (aC zX (aC (f2 zj zW Y6) aN))) Zm)) aN) Ea)))
def Y_:Fn:=wK 2 2 N6
abbrev YO:List Str:=["algebra","join","nothing","a"]
def ZF:FnScope YO ["algebra"] (zr xU):=vN
def Yu:SF:=
 (zm (zz true 1 (f2 zh yk zk))
  (zm (zz true 2 (f2 zh xv zk))
  (zm (yM (ya (aC (f2 zh zX zk) aN) yb) (gN 3) (xx (XM (fT (f2 (f2 (f2 zj zu zk) zD zk) zD (zy .NotEq))) (fT (f2 (f2 (f2 zj zD zk) zu zk) zD (zy .NotEq)))) (zT (zY (dC (fC (.str "nothing")) (dC zD dN)))) xR))
  (zT (fC .non)))))
def vg:Fn:=wK 4 1 Yu
abbrev YM:List Str:=["algebra","n","join","a","b","c"]
def ZC:FnScope YM ["algebra"] (zr xY):=vN
def YA:SF:=
 (zm (zz true 1 (f2 zh zX zk))
  (zm (zz true 2 (f2 zh yk zk))
  (zm (yM (ya yS yb) (gN 3) (yM (ya yS yb) vp (yM (ya yS yb) (gN 5) (xx (fT (f2 (f2 (f2 zu (f2 (f2 zu zD zk) zP zk) zk) yP zk) (f2 (f2 zu zD zk) (f2 (f2 zu zP zk) yP zk) zk) (zy .NotEq))) (zT (zY (dC (fC (.str "parting")) (dC zD (dC zP (dC yP dN)))))) xR))))
  (zT (fC .non)))))
def vh:Fn:=wK 6 1 YA
abbrev XU:List Str:=["algebra","name","rows","n","m","join","a","i","b","j"]
def Xb:FnScope XU ["algebra","name","rows"] (zr wU):=vN
def Wd:SF:=
 (zm (zz true 3 (f2 zh zX zk))
  (zm (zz true 4 (f2 zh zW zk))
  (zm (zz true 5 (f2 zh yk zk))
  (zm (yM (ya Yk yb) (gN 6) (yM (ya (aC zP aN) yb) (gN 7) (yM (ya Yk yb) (gN 8) (yM (ya (aC zP aN) yb) (gN 9) (xx (fT (f2 (f2 (f2 zu (f2 (f2 yK (fV 9) zA) zP zB) zk) (f2 (f2 yP y0 zk) (fV 8) zk) zk) (f2 (f2 yP (f2 (f2 zu yK zk) y0 zk) zk) (f2 (f2 zu (fV 9) zk) (fV 8) zk) zk) (zy .NotEq))) (zT (zY (dC (fC (.str "doing")) (dC zj (dC y0 (dC yK (dC (fV 8) (dC (fV 9) dN)))))))) xR)))))
  (zT (fC .non))))))
def wZ:Fn:=wK 10 3 Wd
abbrev Vh:List Str:=["algebra","nothing","name","rows","fault"]
def Wk:FnScope Vh ["algebra"] (zr vA):=vN
def W0:SF:=
 (zm (zz true 1 (f2 zh xv zk))
  (zm (yM (Vd (f2 zh xo zk)) (gT 2 (ye (gN 2) (ye (gN 3) xD))) (zm (xx (fT (f2 (f2 (f2 zD zX zk) zj zk) zj (zy .NotEq))) (zT (zY (dC (fC (.str "empty")) (dC zu dN)))) xR)
  (zm (zz true 4 (zp (aC zh (aC zu Yk)) wZ))
  (xx (fT (f2 zP (fC .non) (zy .IsNot))) (zT zP) xR))))
  (zT (fC .non))))
def ZQ:Fn:=wK 5 1 W0
abbrev V7:List Str:=["algebra","fault"]
def X5:FnScope V7 ["algebra"] (zr vH):=vN
def Vl:SF:=
 (zm (zz true 1 (zp xr vg))
  (zm (xx (fT (f2 zj (fC .non) (zy .Is))) (zz true 1 (zp xr vh)) xR)
  (zm (xx (fT (f2 zj (fC .non) (zy .Is))) (zz true 1 (zp xr ZQ)) xR)
  (zT zj))))
def Ym:Fn:=wK 2 1 Vl
abbrev Y7:List Str:=["algebra","fault"]
def YF:FnScope Y7 ["algebra"] (zr wA):=vN
def vT:SF:=
 (zm (zz true 1 (zp xr Ym))
  (xx (fT (f2 zj (fC .non) (zy .IsNot))) qZ xR))
def xb:Fn:=wK 2 1 vT
abbrev Uq:List Str:=["algebra","join","places","found","name","rows"]
def VT:FnScope Uq ["algebra"] (zr Zb):=vN
def Uj:SF:=
 (zm (zz true 1 (f2 zh yk zk))
  (zm (zz true 2 (fP (aC (f2 zh zX zk) aN) Bw))
  (zm (zz false 3 (f2 (zq (yw zu) [none,some 1] zG zH (zY (dC (zY (dC (fC (.str "left")) (dC zh dN))) (dC (f2 zj zh zk) dN)))) (zq (yw zu) [none,some 1] zG zH (zY (dC (zY (dC (fC (.str "right")) (dC zh dN))) (dC (zq (yw zj) [none,some 0] zG zH (f2 zh zj zk)) dN)))) zA))
  (zm (yM (Vd (f2 zh xo zk)) (gT 2 (ye vp (ye (gN 5) xD))) (yB (yZ 3 (dC (zq (BC yP) [none,none,some 4] (gT 2 (ye zG (ye (gN 1) xD))) zH (zY (dC (zY (dC (fC (.str "deed")) (dC zu (dC zh dN)))) (dC zj dN)))) dN) BL)))
  (zT zD)))))
def wh:Fn:=wK 6 1 Uj
abbrev Xh:List Str:=["algebra","one","other","name","values"]
def YB:FnScope Xh ["algebra","one","other"] (zr wz):=vN
def Y9:SF:=
 (zm (yM (Vd (f2 zh Z7 zk)) (gT 2 (ye (gN 3) (ye vp xD))) (xx (fT (f2 (f2 zj zP (zy .In)) (f2 zu zP (zy .In)) (zy .NotEq))) (zT zD) xR))
  (zT (fC .non)))
def yQ:Fn:=wK 5 3 Y9
abbrev WY:List Str:=["algebra","one","other","steps","pairs","frames","at","pair","name","step","row","came"]
def X3:FnScope WY ["algebra","one","other"] (zr vC):=vN
def Vk:SF:=
 (zm (zz true 3 (zp xr wh))
  (zm (zz false 4 (yF (dC (zY (dC zj (dC zu dN))) dN)))
  (zm (zz false 5 (Ra (zY (dC zj (dC zu dN))) (yF dN)))
  (zm (zz true 6 zX)
  (zm (Mn (fT (f2 y0 (fP (aC zP aN) vm) (zy .Lt))) (zm (zz true 7 (f2 zP y0 zk))
  (zm (zz true 8 (zp (aC zh (aC (f2 yK zX zk) (aC (f2 yK zW zk) aN))) yQ))
  (zm (xx (fT (f2 (fV 8) (fC .non) (zy .IsNot))) (zT (zY (dC (fC (.str "frame")) (dC (f2 yP yK IV) (dC (fV 8) dN))))) xR)
  (zm (yM (Vd zD) (gT 2 (ye (gN 9) (ye (gN 10) xD))) (zm (zz true 11 (zY (dC (f2 (fV 10) (f2 yK zX zk) zk) (dC (f2 (fV 10) (f2 yK zW zk) zk) dN))))
  (xx (fT (f2 yz yP (zy .NotIn))) (zm (NO 5 yz (f2 (f2 yP yK IV) (yF (dC (fV 9) dN)) zA))
  (yB (yZ 4 (dC yz dN) y9))) xR)))
  (BD 6 1))))) 10000)
  (zT (zY (dC (fC (.str "alike")) dN))))))))
def yY:Fn:=wK 12 3 Vk
abbrev RR:List Str:=["keys","numbers","key"]
def UE:FnScope RR ["keys"] (zr ZO):=vN
def RO:SF:=
 (zm (zz false 1 uA)
  (zm (yM (Vd zh) (gN 2) (BP 1 (dC zu (dC (fP yS vm) dN))))
  (zT (zq (yw zh) [none,some 1] zG zH (f2 zj zh IV)))))
def wM:Fn:=wK 3 1 RO
abbrev PV:List Str:=["algebra","value"]
def QP:FnScope PV ["algebra","value"] (zr ZL):=vN
def RK:SF:=
 (zT (fP (aC (zq (yw (f2 zh Z7 zk)) [none,none,some 1] (gT 2 (ye zG (ye (gN 1) xD))) zH (f2 zu zj (zy .In))) aN) tupP))
def WL:Fn:=wK 2 2 RK
abbrev Ys:List Str:=["algebra","places","rows","numbers","finer"]
def ZD:FnScope Ys ["algebra"] (zr xX):=vN
def YC:SF:=
 (zm (zz true 1 (fP (aC (f2 zh zX zk) aN) Bw))
  (zm (zz true 2 (f2 (yF (dC zj dN)) (zq (yw (zp xr wh)) [none,none] (gT 2 (ye zG (ye (gN 1) xD))) zH zj) zA))
  (zm (zz true 3 (zp (aC (zq (yw zj) [none,some 0] zG zH (zp (aC zj xr) WL)) aN) wM))
  (zm (zz true 4 (zp (aC (zq (yw zj) [none,some 3,some 2] zG zH (fP (aC (zq (yw zu) [none,some 1,some 0] zG zH (f2 zj (f2 zh zu zk) zk)) aN) tupP)) aN) wM))
  (zm (Mn (fT (f2 zP zD (zy .NotEq))) (zm (zz true 3 zP)
  (zz true 4 (zp (aC (zq (yw zj) [none,some 3,some 2] zG zH (fP (aC (zq (yw zu) [none,some 1,some 0] zG zH (f2 zj (f2 zh zu zk) zk)) aN) tupP)) aN) wM))) 10000)
  (zT zD))))))
def xT:Fn:=wK 5 1 YC
abbrev Yx:List Str:=["algebra","numbers","chosen","join","deeds","signs"]
def Zz:FnScope Yx ["algebra"] (zr xZ):=vN
def Yr:SF:=
 (zm (yB (zp xr xb))
  (zm (zz true 1 (zp xr xT))
  (zm (zz true 2 (zq (ya (aC (fP yS sX) aN) yb) [none,some 1] zG zH (wm .lst zj xr x6)))
  (zm (zz true 3 (zq (yw zu) [none,some 1,some 2,some 0] zG zH (zq (yw zu) [none,some 1,some 0,some 3] zG zH (f2 zj (f2 (f2 (f2 zD yk zk) zu zk) zh zk) zk))))
  (zm (zz true 4 (zq (yw (f2 zh xo zk)) [none,none,some 1,some 2] (gT 2 (ye zG (ye (gN 1) xD))) zH (zY (dC zh (dC (zq (yw zj) [none,some 2,some 3] zG zH (zq (yw zu) [none,some 1,some 0] zG zH (f2 zj (f2 zu zh zk) zk))) dN)))))
  (zm (zz true 5 (zq (yw (f2 zh Z7 zk)) [none,none,some 1,some 2] (gT 2 (ye zG (ye (gN 1) xD))) zH (zY (dC zh (dC (zq (yw zD) [none,some 2,some 1] zG (fT (f2 zh zu (zy .In))) (f2 zj zh zk)) dN)))))
  (zT (zY (dC (zY (dC (fP xI vm) (dC (f2 zh zW zk) (dC zD (dC (f2 zj (f2 zh xv zk) zk) (dC zP (dC yP dN))))))) (dC zj dN))))))))))
def yr:Fn:=wK 6 1 Yr
abbrev P0:List Str:=["told"]
def QS:FnScope P0 ["told"] (zr Yi):=vN
def Pc:SF:=
 (zT (zq (yw zh) [none] zG zH (f2 zh zX zk)))
def wQ:Fn:=wK 1 1 Pc
abbrev RG:List Str:=["one","other"]
def Q_:FnScope RG ["one","other"] (zr Z4):=vN
def Ts:SF:=
 (zm (xx (fT (f2 (f2 zh zW zk) (f2 zj zW zk) (zy .NotEq))) (zT (fC (.bl false))) xR)
  (zT (Nl (f2 (zp (aC (f2 zh xo zk) aN) wQ) (zp (aC (f2 zj xo zk) aN) wQ) (zy .Eq)) (f2 (zp (aC (f2 zh Z7 zk) aN) wQ) (zp (aC (f2 zj Z7 zk) aN) wQ) (zy .Eq)))))
def ZW:Fn:=wK 2 2 Ts
abbrev VG:List Str:=["one","other","numbers","a","b"]
def Wi:FnScope VG ["one","other","numbers"] (zr vK):=vN
def W3:SF:=
 (zm (yM (ya (aC (f2 zh zX zk) aN) yb) (gN 3) (yM (ya (aC (f2 zh zX zk) aN) yb) vp (xx (fT (f2 (f2 zu (f2 (f2 (f2 zh yk zk) zD zk) zP zk) zk) (f2 (f2 (f2 zj yk zk) (f2 zu zD zk) zk) (f2 zu zP zk) zk) (zy .NotEq))) (zT (fC (.bl false))) xR)))
  (zT (f2 (f2 zu (f2 zh xv zk) zk) (f2 zj xv zk) (zy .Eq))))
def vD:Fn:=wK 5 3 W3
abbrev V5:List Str:=["rows","others","numbers","row","beside"]
def XX:FnScope V5 ["rows","others","numbers"] (zr vG):=vN
def Vb:SF:=
 (zm (yM (Me (aC zh yS)) (gT 2 (ye (gN 3) (ye vp xD))) (xx (fT (f2 (zq (yw zD) [none,some 2] zG zH (f2 zj zh zk)) (zq (yw zu) [none,some 4] zG zH (f2 zj zh zk)) (zy .NotEq))) (zT (fC (.bl false))) xR))
  (zT (fC (.bl true))))
def vI:Fn:=wK 5 3 Vb
abbrev W_:List Str:=["values","others","numbers"]
def Wl:FnScope W_ ["values","others","numbers"] (zr vE):=vN
def VD:SF:=
 (zT (fP (aC (zq (BC zu) [none,none,some 0,some 1] (gT 2 (ye zG (ye (gN 1) xD))) zH (f2 (f2 zh zu (zy .In)) (f2 zj zD (zy .In)) (zy .Eq))) aN) Ea))
def vM:Fn:=wK 3 3 VD
abbrev V1:List Str:=["one","other","numbers"]
def X2:FnScope V1 ["one","other","numbers"] (zr vz):=vN
def VZ:SF:=
 (zm (xx (XM (YN (fT (zp (aC zh yS) ZW))) (XM (fT (f2 (fP xI vm) (f2 zh zX zk) (zy .NotEq))) (YN (fT (zp (aC zu (aC (f2 zj zX zk) aN)) Y_))))) (zT (fC (.bl false))) xR)
  (zm (xx (YN (fT (zp (aC zh (aC zj xI)) vD))) (zT (fC (.bl false))) xR)
  (zm (xx (YN (fT (fP (aC (zq (NU (aC (f2 zh xo zk) (aC (f2 zj xo zk) aN))) [none,none,some 2] (gT 2 (ye zG (ye (gN 1) xD))) zH (zp (aC (f2 zh zW zk) (aC (f2 zj zW zk) xI)) vI)) aN) Ea))) (zT (fC (.bl false))) xR)
  (zT (fP (aC (zq (NU (aC (f2 zh Z7 zk) (aC (f2 zj Z7 zk) aN))) [none,none,some 2] (gT 2 (ye zG (ye (gN 1) xD))) zH (zp (aC (f2 zh zW zk) (aC (f2 zj zW zk) xI)) vM)) aN) Ea)))))
def wI:Fn:=wK 3 3 VZ
abbrev Wv:List Str:=["_law_script","_law_k"]
def Xo:FnScope Wv ["_law_script","_law_k"] (zr w9):=vN
def Wa:SF:=
 (zm (xx (fT (f2 zj (fP xr vm) (zy .Lt))) (zT (f2 zh zj zk)) xR)
  (zT zX))
def zU:Fn:=wK 2 2 Wa
abbrev VS:List Str:=["_law_cell","_law_many","_law_found","_law_number","_law_k"]
def Wb:FnScope VS ["_law_cell","_law_many"] (zr vt):=vN
def VU:SF:=
 (zm (zz false 2 (yF dN))
  (zm (zz true 3 (f2 (f2 zh (fC (.int 2147483647)) zB) (fC (.int 48271)) zA))
  (zm (yM (ya (aC (f2 zj zW zA) aN) yb) vp (zm (zz true 3 (f2 (f2 (f2 (f2 zD zD zE) (f2 (fC (.int 48271)) zD zE) zA) zP zA) (fC (.int 2147483647)) zB))
  (yB (yZ 2 (dC (f2 (f2 (f2 zD (fC (.int 40692)) zE) (f2 (fC (.int 7)) zP zE) zA) (fC (.int 2147483399)) zB) dN) y9))))
  (zT (Qr zu (oS zW) oN T6)))))
def yu:Fn:=wK 5 2 VU
abbrev Q5:List Str:=["_law_cell","_law_many","_law_letters","_law_xs","_law_base","_law_at","_law_found","_law_k"]
def W6:FnScope Q5 ["_law_cell","_law_many"] (zr Zj):=vN
def UF:SF:=
 (zm (zz true 2 (fC (.str "abcdefghijklmnopqrstuvwxyz")))
  (zm (zz true 3 (zp (aC zh (aC (fC (.int 9)) aN)) yu))
  (zm (zz true 4 (wm .str (fC (.str "")) (aC (zq (yw (Qr zD oN (oS (f2 zW (f2 zh YR zB) zA)) T6)) [none,some 2] zG zH (f2 zj (f2 zh (fC (.int 26)) zB) zk)) aN) EK))
  (zm (zz true 5 (f2 (f2 zh YR zR) (fP (aC zP aN) vm) zB))
  (zm (zz false 6 (yF dN))
  (zm (yM (ya yS yb) (gN 7) (yB (yZ 6 (dC (f2 (f2 (Qr zP oN (oS yP) Ce) (f2 zu (f2 (f2 (f2 zD YR zk) (f2 xv yK zE) zA) (fC (.int 26)) zB) zk) zA) (Qr zP (oS (f2 yP zW zA)) oN Ce) zA) dN) y9)))
  (zT y0)))))))
def Y2:Fn:=wK 8 2 UF
abbrev Wm:List Str:=["_law_one","_law_other"]
def Y8:FnScope Wm ["_law_one","_law_other"] (zr wW):=vN
def Wt:SF:=
 (zm (Mn (fT (f2 zj zX (zy .Gt))) (B8 0 1 (dC zj (dC (f2 zh zj zB) dN))) 10000)
  (zT zh))
def Zt:Fn:=wK 2 2 Wt
abbrev Rv:List Str:=["_law_n","_law_m","_law_xs","_law_step","_law_rows_here","_law_c"]
def UD:FnScope Rv ["_law_n","_law_m","_law_xs"] (zr Z8):=vN
def Rz:SF:=
 (zm (zz true 3 (f2 zh (zp (aC zh yS) Zt) zR))
  (zm (zz false 4 (yF dN))
  (zm (yM (ya yS yb) (gN 5) (yB (yZ 4 (dC (zq (ya xr yb) [none,some 0,some 2,some 5,some 3] zG zH (f2 (f2 (f2 zh (f2 zu zX zk) zE) (f2 (f2 zD zP zE) (f2 zu zW zk) zE) zA) zj zB)) dN) y9)))
  (zT zP))))
def WR:Fn:=wK 6 3 Rz
abbrev V6:List Str:=["_law_n","_law_m","_law_xs","_law_row"]
def Wn:FnScope V6 ["_law_n","_law_m","_law_xs"] (zr vv):=vN
def WW:SF:=
 (zm (zz false 3 (fP (aC (f2 (yF (dC zX dN)) (zq (ya (aC (f2 zh zW Y6) aN) yb) [none,some 0,some 2] zG zH (f2 (f2 zu zh zk) zj zB)) zA) aN) Yy))
  (zm (SK 3 (xC 0) (xC 0))
  (zT (zq (ya yS yb) [none,some 3] zG zH (fP yS lstP)))))
def ZS:Fn:=wK 4 3 WW
abbrev Pd:List Str:=["_law_n","_law_m","_law_xs","_law_row"]
def Ub:FnScope Pd ["_law_n","_law_m","_law_xs"] (zr Z2):=vN
def RF:SF:=
 (zm (zz true 3 (f2 (yF (dC zX dN)) (zq (ya (aC (f2 zh zW Y6) aN) yb) [none,some 2,some 0] zG zH (f2 zW (f2 (f2 zj zh zk) (f2 zu zW Y6) zB) zA)) zA))
  (zT (zq (ya yS yb) [none,some 3] zG zH (fP yS lstP))))
def WB:Fn:=wK 4 3 RF
abbrev Q2:List Str:=["_law_kind","_law_n","_law_maps"]
def Qb:FnScope Q2 ["_law_kind","_law_n"] (zr Zl):=vN
def Ux:SF:=
 (zm (xx (fT (f2 zh zX (zy .Eq))) (zT (zq (ya yS yb) [none,some 1] zG zH (zq (ya yS yb) [none,some 1,some 0] zG zH (f2 (f2 zu zh zA) zj zB)))) xR)
  (zm (xx (fT (f2 zh zW (zy .Eq))) (zT (zq (ya yS yb) [none,some 1] zG zH (zq (ya yS yb) [none,some 0] zG zH (fP (aC zj xr) uc)))) xR)
  (zm (xx (fT (f2 zh yk (zy .Eq))) (zT (zq (ya yS yb) [none,some 1] zG zH (zq (ya yS yb) [none,some 0] zG zH (f2 (yF (dC zh (dC zj dN))) (fP (aC (f2 zh zX (zy .Eq)) aN) Nw) zk)))) xR)
  (zm (xx (fT (f2 zh xv (zy .Eq))) (zT (zq (ya yS yb) [none,some 1] zG zH (zq (ya yS yb) [none,some 0] zG zH (f2 (yF (dC zj (dC zh dN))) (fP (aC (f2 zj zX (zy .Eq)) aN) Nw) zk)))) xR)
  (zm (zz true 2 (yF (dC (zY (dC zX (dC zW dN))) (dC (zY (dC zW (dC zX dN))) (dC (zY (dC zX (dC zX dN))) (dC (zY (dC zW (dC zW dN))) dN))))))
  (zT (zq (yw zu) [none,some 2] zG zH (zq (yw zj) [none,some 1,some 0] zG zH (wm .lst zj (aC (zY (dC (f2 zh (f2 zu zX zk) zk) (dC (f2 zh (f2 zu zW zk) zk) dN))) aN) x6)))))))))
def Zg:Fn:=wK 3 2 Ux
abbrev Ry:List Str:=["_law_kind","_law_n","_law_m","_law_xs"]
def Uy:FnScope Ry ["_law_kind","_law_n","_law_m","_law_xs"] (zr Z9):=vN
def RJ:SF:=
 (zm (xx (fT (f2 zh zX (zy .Eq))) (zT (zp (aC zj (aC zu Yk)) WR)) xR)
  (zm (xx (fT (f2 zh zW (zy .Eq))) (zT (zp (aC zj (aC zu Yk)) ZS)) xR)
  (zm (xx (fT (f2 zh xo (zy .Lt))) (zT (zp (aC zj (aC zu Yk)) WB)) xR)
  (zT (zq (ya xI yb) [none,some 3] zG zH (f2 (yF (dC (yF (dC zX (dC zW (dC yk (dC xv dN))))) (dC (yF (dC zX (dC zW (dC xv (dC yk dN))))) dN))) (f2 (f2 zj zX zk) yk zB) zk))))))
def ZR:Fn:=wK 4 4 RJ
abbrev UJ:List Str:=["_law_kind","_law_n","_law_m","_law_many","_law_cell","_law_rows_here"]
def Vp:FnScope UJ ["_law_kind","_law_n","_law_m","_law_many","_law_cell"] (zr Zd):=vN
def UG:SF:=
 (zm (zz true 5 (zq (ya Yk yb) [none,some 0,some 1,some 2,some 4] zG zH (zp (aC zj (aC zu (aC zD (aC (zp (aC (f2 zP (f2 (fC (.int 31)) zh zE) zA) (aC (fC (.int 9)) aN)) yu) aN)))) ZR)))
  (zT (zY (dC zj (dC (zp (aC zh yS) Zg) (dC yP dN))))))
def wg:Fn:=wK 6 5 UG
abbrev Vr:List Str:=["_law_one","_law_other","_law_m","_law_n","_law_by","_law_join","_law_p","_law_here","_law_there","_law_deeds","_law_rows_here","_law_c","_law_made_here","_law_ahead"]
def We:FnScope Vr ["_law_one","_law_other","_law_m"] (zr vF):=vN
def Vs:SF:=
 (zm (zz true 3 (f2 (f2 zh zX zk) (f2 zj zX zk) zE))
  (zm (zz true 4 (f2 zj zX zk))
  (zm (zz false 5 (yF dN))
  (zm (yM (ya Yk yb) (gN 6) (zm (zz true 7 (f2 (f2 zh zW zk) (f2 y0 zP zR) zk))
  (zm (zz true 8 (f2 (f2 zj zW zk) (f2 y0 zP zB) zk))
  (yB (yZ 5 (dC (zq (ya Yk yb) [none,some 4,some 8,some 7] zG zH (f2 (f2 (f2 zD (f2 zh zj zR) zk) zj zE) (f2 zu (f2 zh zj zB) zk) zA)) dN) y9)))))
  (zm (zz false 9 (yF dN))
  (zm (yM (Me (aC (f2 zh yk zk) (aC (f2 zj yk zk) aN))) (gT 2 (ye (gN 7) (ye (gN 8) xD))) (zm (zz false 10 (yF dN))
  (zm (yM (ya xI yb) (gN 11) (zm (zz false 12 (yF dN))
  (zm (yM (ya Yk yb) (gN 6) (zm (zz true 13 (f2 (f2 (f2 yK yz zk) (f2 y0 zP zR) zk) zP zE))
  (yB (yZ 12 (dC (f2 (fV 13) (f2 (f2 (fV 8) yz zk) (f2 y0 zP zB) zk) zA) dN) y9))))
  (yB (yZ 10 (dC (fV 12) dN) y9)))))
  (yB (yZ 9 (dC (fV 10) dN) y9)))))
  (zT (zY (dC zD (dC yP (dC (fV 9) dN)))))))))))
def ZP:Fn:=wK 14 3 Vs
abbrev P4:List Str:=["_law_cell","_law_m","_law_many","_law_xs","_law_kind","_law_sizes","_law_one","_law_n"]
def QQ:FnScope P4 ["_law_cell","_law_m","_law_many"] (zr ZM):=vN
def Pi:SF:=
 (zm (zz true 3 (zp (aC zh (aC Z7 aN)) yu))
  (zm (zz true 4 (f2 (f2 zD zX zk) (fC (.int 7)) zB))
  (zm (xx (fT (f2 zP xo (zy .Gt))) (zm (zz true 5 (f2 (yF (dC (zY (dC yk (dC yk dN))) (dC (zY (dC xv (dC yk dN))) (dC (zY (dC yk (dC xv dN))) (dC (zY (dC xo (dC yk dN))) (dC (zY (dC yk (dC xo dN))) (dC (zY (dC yk (dC yk dN))) dN))))))) (f2 (f2 zD zW zk) Wx zB) zk))
  (zm (zz true 6 (zp (aC (f2 (f2 zD yk zk) xo zB) (aC (f2 yP zX zk) (aC zj (aC zu (aC (f2 zD xv zk) aN))))) wg))
  (zT (zp (aC y0 (aC (zp (aC (f2 (f2 zD xo zk) xo zB) (aC (f2 yP zW zk) (aC zj (aC zu (aC (f2 (f2 zD xv zk) (fC (.int 7)) zA) aN))))) wg) yS)) ZP)))) xR)
  (zm (zz true 7 (f2 (yF (dC yk (dC xv (dC xo (dC Z7 (dC xv (dC xo (dC Wx (dC YR dN))))))))) (f2 (f2 zD zW zk) YR zB) zk))
  (zm (xx (Wp (fT (f2 zP zX (zy .Eq))) (fT (f2 (f2 (f2 zD yk zk) (fC (.int 9)) zB) zX (zy .Eq)))) (zz true 7 zW) xR)
  (zm (xx (fT (f2 zP xo (zy .Eq))) (zz true 7 xo) xR)
  (zT (zp (aC zP (aC yK (aC zj (aC zu (aC (f2 zD xv zk) aN))))) wg))))))))
def WC:Fn:=wK 8 3 Pi
abbrev Uc:List Str:=["_law_cell","_law_n","_law_left","_law_found","_law_x"]
def Vx:FnScope Uc ["_law_cell","_law_n"] (zr v9):=vN
def UB:SF:=
 (zm (zz false 2 (fP yS Bw))
  (zm (zz false 3 (yF dN))
  (zm (yM (Vd (zp (aC zh yS) yu)) vp (yB (yZ 3 (dC (yZ 2 (dC (f2 zP (fP xI vm) zB) dN) WV) dN) y9)))
  (zT zD))))
def w_:Fn:=wK 5 2 UB
abbrev Um:List Str:=["_law_cell","_law_n","_law_names_here","_law_signs_here","_law_x","_law_name"]
def Vg:FnScope Um ["_law_cell","_law_n","_law_names_here"] (zr vY):=vN
def Ud:SF:=
 (zm (zz false 3 (yF dN))
  (zm (yM (Me (aC (zp (aC zh (aC (fP xI vm) aN)) yu) xI)) (gT 2 (ye vp (ye (gN 5) xD))) (yB (yZ 3 (dC (zY (dC yP (dC (zq (ya yS yb) [none,some 4] zG (fT (f2 (f2 (f2 zj (f2 (yF (dC zW (dC yk (dC xo (dC YR (dC (fC (.int 16)) (dC (fC (.int 32)) (dC (fC (.int 64)) (dC (fC (.int 128)) dN))))))))) zh zk) zR) yk zB) zW (zy .Eq))) zh) dN))) dN) y9)))
  (zT zD)))
def Zn:Fn:=wK 6 3 Ud
abbrev X1:List Str:=["_law_cell","_law_other","_law_ys","_law_m","_law_many","_law_n","_law_join","_law_deeds","_law_order_here","_law_back","_law_joins_here","_law_names_here","_law_told","_law_name","_law_rows_here","_law_signs_here"]
def Xg:FnScope X1 ["_law_cell","_law_other"] (zr wY):=vN
def Wc:SF:=
 (zm (zz true 2 (zp (aC zj (aC Wx aN)) yu))
  (zm (zz true 3 (f2 zW (f2 (f2 zu zX zk) Wx zB) zA))
  (zm (xx (fT (f2 (f2 (f2 (f2 zu zX zk) Wx zR) yk zB) zX (zy .Eq))) (zz true 3 (f2 zW (f2 (f2 (f2 zu zX zk) (fC (.int 12)) zR) xv zB) zA)) xR)
  (zm (zz true 4 (f2 (yF (dC zW (dC yk (dC zX (dC xo (dC xv (dC yk (dC Wx (dC Z7 dN))))))))) (f2 (f2 zu zW zk) YR zB) zk))
  (zm (xx (fT (f2 zP xv (zy .Gt))) (zz true 3 (f2 zW (f2 zD yk zB) zA)) xR)
  (zm (vS (zp (aC zh (aC zD (aC zP aN))) WC) (gT 3 (ye (gN 5) (ye (gN 6) (ye (gN 7) xD)))))
  (zm (zz true 8 (zp (aC (f2 zu yk zk) Hf) w_))
  (zm (zz true 9 (zq (ya Hf yb) [none,some 8] zG zH (wm .lst zj xr x6)))
  (zm (zz true 10 (zq (ya Hf yb) [none,some 8,some 5,some 6,some 9] zG zH (zq (ya xI yb) [none,some 1,some 3,some 4,some 0] zG zH (f2 zj (f2 (f2 zu (f2 zD zP zk) zk) (f2 zD zh zk) zk) zk))))
  (zm (zz true 11 (zp (aC (f2 zu xv zk) (aC (fC (.int 10)) aN)) Y2))
  (zm (zz false 12 (yF dN))
  (zm (yM (Me (aC (Qr yz oN (oS Wx) T6) O0)) (gT 2 (ye (gN 13) (ye (gN 14) xD))) (yB (yZ 12 (dC (zY (dC (fV 13) (dC (zq (yw (fV 14)) [none,some 8,some 5,some 9] zG zH (zq (ya xI yb) [none,some 1,some 0,some 3] zG zH (f2 zj (f2 zu (f2 zD zh zk) zk) zk))) dN))) dN) y9)))
  (zm (zz true 15 (zp (aC (f2 zu xo zk) (aC yP (aC (Qr yz (oS Wx) (oS (f2 Wx (f2 (yF (dC zW (dC yk (dC zW (dC xo (dC zX (dC yk (dC xv (dC zW dN))))))))) (f2 (f2 zu Z7 zk) YR zB) zk) zA)) T6) aN))) Zn))
  (zT (zY (dC yP (dC zD (dC (fV 10) (dC (f2 (fV 8) zX zk) (dC (fV 12) (dC (fV 15) dN)))))))))))))))))))))
def xm:Fn:=wK 16 2 Wc
abbrev ZY:List Str:=["_law_algebra_here","_law_cell","_law_n","_law_m","_law_join","_law_nothing","_law_deeds","_law_signs_here","_law_xs","_law_joins_here","_law_told","_law_way","_law_rows_here"]
def yA:FnScope ZY ["_law_algebra_here","_law_cell"] (zr wO):=vN
def TK:(["_law_row"]:List Str).Nodup:=by decide +kernel
def Wf:(["_law_name","_law_rows_here"]:List Str).Nodup:=by decide +kernel
def Gg:(["_law_row"]:List Str).Nodup:=by decide +kernel
def PM:SF:=
 (zm (vS zh (gT 6 (ye (gN 2) (ye (gN 3) (ye vp (ye (gN 5) (ye (gN 6) (ye (gN 7) xD))))))))
  (zm (zz true 8 (zp (aC zj (aC YR aN)) yu))
  (zm (zz false 9 (zq (yw zP) [none] zG zH (fP xr lstP)))
  (zm (zz false 10 (zq (yw y0) [none,none] (gT 2 (ye zG (ye (gN 1) xD))) zH (zY (dC zh (dC (zq (yw zj) [none] zG zH (fP xr lstP)) dN)))))
  (zm (zz true 11 (f2 (f2 (fV 8) zX zk) Wx zB))
  (zm (xx (fT (f2 yz zX (zy .Eq))) (zz true 5 (f2 (f2 (fV 8) zW zk) zu zB)) xR)
  (zm (xx (XM (fT (f2 yz zW (zy .Eq))) (fT (f2 yz yk (zy .Eq)))) (Nj 9 (Xj (Ni 8 (xC 2)) (xV 2)) (Xj (Ni 8 (xC 3)) (xV 2)) (Xj (Ni 8 (xC 4)) (xV 2))) xR)
  (zm (xx (Wp (fT (f2 yz yk (zy .Gt))) (fT (f2 (fV 10) (yF dN) (zy .NotEq)))) (Sx 12 10 (Xj (Ni 8 (xC 5)) (Hy 10)) 1 (Xj (Ni 8 (xC 6)) (xV 3)) (Xj (Ni 8 (xC 7)) (xV 2)) (Xj (Ni 8 (xC 4)) (xV 2))) xR)
  (zT (zY (dC zu (dC zD (dC (fV 9) (dC yP (dC (fV 10) (dC yK dN))))))))))))))))
def WG:Fn:=wK 13 2 PM
abbrev Qd:List Str:=["_law_cell","_law_base","_law_many","_law_found","_law_k"]
def XW:FnScope Qd ["_law_cell","_law_base","_law_many"] (zr vL):=vN
def WX:SF:=
 (zm (zz false 3 (yF dN))
  (zm (yM (ya xI yb) vp (zm (yB (yZ 3 (dC (f2 zh zj zB) dN) y9))
  (zz true 0 (f2 zh zj zR))))
  (zT zD)))
def ZI:Fn:=wK 5 3 WX
abbrev Yz:List Str:=["_law_algebra_here","_law_cell","_law_n","_law_m","_law_join","_law_nothing","_law_deeds","_law_signs_here","_law_digits_here","_law_joins_here","_law_told","_law_k","_law_at"]
def ZA:FnScope Yz ["_law_algebra_here","_law_cell"] (zr x5):=vN
def YI:SF:=
 (zm (vS zh (gT 6 (ye (gN 2) (ye (gN 3) (ye vp (ye (gN 5) (ye (gN 6) (ye (gN 7) xD))))))))
  (zm (zz true 8 (zp (aC zj (aC zu (aC (f2 (f2 zW (f2 zu zu zE) zA) (f2 (f2 zu zD zE) (fP (aC y0 aN) vm) zE) zA) aN))) ZI))
  (zm (zz true 9 (zq (ya xI yb) [none,some 8,some 2] zG zH (Qr zj (oS (f2 zW (f2 zu zh zE) zA)) (oS (f2 (f2 zW (f2 zu zh zE) zA) zu zA)) T6)))
  (zm (zz false 10 (yF dN))
  (zm (yM (ya (aC (fP (aC y0 aN) vm) aN) yb) (gN 11) (zm (zz true 12 (f2 (f2 zW (f2 zu zu zE) zA) (f2 (f2 zu zD zE) yz zE) zA))
  (yB (yZ 10 (dC (zY (dC (f2 (f2 y0 yz zk) zX zk) (dC (zq (ya Yk yb) [none,some 8,some 12,some 2] zG zH (Qr zj (oS (f2 zu (f2 zD zh zE) zA)) (oS (f2 (f2 zu (f2 zD zh zE) zA) zD zA)) T6)) dN))) dN) y9))))
  (zT (zY (dC zu (dC zD (dC (fV 9) (dC (f2 (fV 8) zX zk) (dC (fV 10) (dC yK dN)))))))))))))
def vi:Fn:=wK 13 2 YI
abbrev GQ:List Str:=["_law_script","_law_cell","_law_algebra_here"]
def RP:FnScope GQ ["_law_script"] (zr XD):=vN
def Gn:SF:=
 (zm (zz true 1 (zp (aC zh (aC yk aN)) zU))
  (zm (zz true 2 (zp (aC (zp (aC zh (aC zX aN)) zU) (aC (zp (aC zh (aC zW aN)) zU) aN)) xm))
  (zm (xx (fT (f2 (f2 zj yk zB) zW (zy .Eq))) (zT (zp (aC zu (aC (f2 zj yk zR) aN)) vi)) xR)
  (zT (zp (aC zu (aC (f2 zj yk zR) aN)) WG)))))
def Qh:Fn:=wK 3 1 Gn
abbrev X_:List Str:=["_law_n","_law_join","_law_nothing","_law_a","_law_b","_law_c"]
def Xf:FnScope X_ ["_law_n","_law_join","_law_nothing"] (zr wR):=vN
def XR:SF:=
 (zm (yM (ya xr yb) (gN 3) (xx (XM (fT (f2 (f2 (f2 zj zu zk) zD zk) zD (zy .NotEq))) (fT (f2 (f2 (f2 zj zD zk) zu zk) zD (zy .NotEq)))) (zT (zY (dC (fC (.str "nothing")) (dC zD dN)))) xR))
  (zm (yM (ya xr yb) (gN 3) (yM (ya xr yb) vp (yM (ya xr yb) (gN 5) (xx (fT (f2 (f2 (f2 zj (f2 (f2 zj zD zk) zP zk) zk) yP zk) (f2 (f2 zj zD zk) (f2 (f2 zj zP zk) yP zk) zk) (zy .NotEq))) (zT (zY (dC (fC (.str "parting")) (dC zD (dC zP (dC yP dN)))))) xR))))
  (zT (fC .non))))
def Zu:Fn:=wK 6 3 XR
abbrev Ui:List Str:=["_law_n","_law_m","_law_join","_law_name","_law_rows_here","_law_p","_law_q","_law_a","_law_i","_law_b","_law_j","_law_made_here"]
def VM:FnScope Ui ["_law_n","_law_m","_law_join","_law_name","_law_rows_here"] (zr Zh):=vN
def QO:SF:=
 (zm (yM (ya (aC (f2 zh zj zE) aN) yb) (gN 5) (yM (ya (aC (f2 zh zj zE) aN) yb) (gN 6) (zm (vS (fP (aC yP yS) K4) (gT 2 (ye (gN 7) (ye (gN 8) xD))))
  (zm (vS (fP (aC y0 yS) K4) (gT 2 (ye (gN 9) (ye (gN 10) xD))))
  (zm (zz true 11 (f2 (f2 zu (f2 (f2 zP (fV 8) zk) yK zk) zk) (f2 (f2 zP (fV 10) zk) (fV 9) zk) zk))
  (xx (fT (f2 (f2 (f2 zP (f2 (f2 (fV 8) (fV 10) zA) zj zB) zk) (f2 (f2 zu yK zk) (fV 9) zk) zk) yz (zy .NotEq))) (zT (zY (dC (fC (.str "doing")) (dC zD (dC yK (dC (fV 8) (dC (fV 9) (dC (fV 10) dN)))))))) xR))))))
  (zT (fC .non)))
def v5:Fn:=wK 12 5 QO
abbrev UC:List Str:=["_law_algebra_here","_law_n","_law_m","_law_join","_law_nothing","_law_deeds","_law_signs_here","_law_found","_law_name","_law_rows_here"]
def V3:FnScope UC ["_law_algebra_here"] (zr Zk):=vN
def Ua:SF:=
 (zm (vS zh (gT 6 (ye (gN 1) (ye (gN 2) (ye (gN 3) (ye vp (ye (gN 5) (ye (gN 6) xD))))))))
  (zm (zz true 7 (zp (aC zj (aC zD (aC zP aN))) Zu))
  (zm (yM (Vd yP) (gT 2 (ye (gN 8) (ye (gN 9) xD))) (zm (xx (Wp (fT (f2 yK (fC .non) (zy .Is))) (fT (f2 (f2 (f2 (fV 9) zX zk) zP zk) zP (zy .NotEq)))) (zz true 7 (zY (dC (fC (.str "empty")) (dC (fV 8) dN)))) xR)
  (xx (fT (f2 yK (fC .non) (zy .Is))) (zz true 7 (zp (aC zj (aC zu (aC zD (aC (fV 8) (aC (fV 9) aN))))) v5)) xR)))
  (zT yK))))
def v8:Fn:=wK 10 1 Ua
abbrev P6:List Str:=["_law_script","_law_some"]
def Ut:FnScope P6 ["_law_script"] (zr ZZ):=vN
def PY:SF:=
 (zm (zz true 1 (zp xr Qh))
  (zm (xx (Wp (fT (f2 (f2 (zp (aC zh (aC yk aN)) zU) yk zB) zW (zy .Eq))) (fT (f2 (zp yS v8) (fC .non) (zy .Is)))) (zT zj) xR)
  (zT (zp (aC (zp (aC zh (aC zX aN)) zU) (aC (zp (aC zh (aC zW aN)) zU) aN)) xm))))
def Ye:Fn:=wK 2 1 PY
abbrev G2:List Str:=["_law_algebra_here","_law_cell","_law_n","_law_m","_law_join","_law_nothing","_law_deeds","_law_signs_here","_law_x","_law_values"]
def Pf:FnScope G2 ["_law_algebra_here","_law_cell"] (zr XF):=vN
def GM:SF:=
 (zm (vS zh (gT 6 (ye (gN 2) (ye (gN 3) (ye vp (ye (gN 5) (ye (gN 6) (ye (gN 7) xD))))))))
  (zm (xx (XM (fT (f2 (f2 zj yk zB) zX (zy .Eq))) (fT (f2 yK (yF dN) (zy .Eq)))) (zT zh) xR)
  (zm (zz true 8 (f2 (zp (aC zj (aC zW aN)) yu) zX zk))
  (zm (zz true 9 (zq (ya xI yb) [none,some 2,some 4,some 8] zG (fT (f2 (f2 (f2 zu zh zk) (f2 zD zj zB) zk) (f2 (f2 zD YR zR) zj zB) (zy .Eq))) zh))
  (zT (zY (dC zu (dC zD (dC zP (dC yP (dC y0 (dC (yF (dC (zY (dC (f2 (f2 yK zX zk) zX zk) (dC (fV 9) dN))) dN)) dN))))))))))))
def XC:Fn:=wK 10 2 GM
abbrev X0:List Str:=["_law_algebra_here","_law_order_here","_law_n","_law_m","_law_join","_law_nothing","_law_deeds","_law_signs_here","_law_back","_law_joins_here","_law_told","_law_held"]
def YZ:FnScope X0 ["_law_algebra_here","_law_order_here"] (zr wX):=vN
def X4:SF:=
 (zm (vS zh (gT 6 (ye (gN 2) (ye (gN 3) (ye vp (ye (gN 5) (ye (gN 6) (ye (gN 7) xD))))))))
  (zm (zz true 8 (zq (ya xI yb) [none,some 1] zG zH (wm .lst zj xr x6)))
  (zm (zz true 9 (zq (ya xI yb) [none,some 1,some 2,some 4,some 8] zG zH (zq (ya xI yb) [none,some 1,some 3,some 4,some 0] zG zH (f2 zj (f2 (f2 zu (f2 zD zP zk) zk) (f2 zD zh zk) zk) zk))))
  (zm (zz true 10 (zq (yw y0) [none,none,some 1,some 2,some 8] (gT 2 (ye zG (ye (gN 1) xD))) zH (zY (dC zh (dC (zq (yw zj) [none,some 2,some 3,some 4] zG zH (zq (ya xI yb) [none,some 1,some 0,some 3] zG zH (f2 zj (f2 zu (f2 zD zh zk) zk) zk))) dN)))))
  (zm (zz true 11 (zq (yw yK) [none,none,some 1] (gT 2 (ye zG (ye (gN 1) xD))) zH (zY (dC zh (dC (fP (aC (zq (yw zj) [none,some 2] zG zH (f2 zj zh zk)) aN) Yy) dN)))))
  (zT (zY (dC zu (dC zD (dC (fV 9) (dC (f2 zj yP zk) (dC (fV 10) (dC yz dN)))))))))))))
def xl:Fn:=wK 12 2 X4
abbrev Jb:List Str:=["_law_script","_law_algebra_here","_law_least","_law_numbers","_law_many","_law_k","_law_one","_law_other","_law_order_here","_law_there","_law_others","_law_turn"]
def HY:FnScope Jb ["_law_script"] (zr FD):=vN
def JI:SF:=
 (zm (zz true 1 (zp (aC (zp xr Ye) (aC (zp (aC zh (aC xo aN)) zU) aN)) XC))
  (zm (vS (zp yS yr) (gT 2 (ye (gN 2) (ye (gN 3) xD))))
  (zm (zz true 4 (f2 zu zX zk))
  (zm (xx (XM (fT (f2 (zp xI yr) (zY (dC zu (dC (fP (aC zP aN) Bw) dN))) (zy .NotEq))) (YN (fT (zp (aC zj (aC zu Yk)) wI)))) (zT (fC (.bl false))) xR)
  (zm (yM (ya (aC (f2 zP zP zE) aN) yb) (gN 5) (zm (vS (fP (aC yP (aC zP aN)) K4) (gT 2 (ye (gN 6) (ye (gN 7) xD))))
  (xx (fT (f2 (f2 (zp (aC zu (aC y0 O0)) yY) (zY (dC (fC (.str "alike")) dN)) (zy .Eq)) (f2 y0 yK (zy .Eq)) (zy .NotEq))) (zT (fC (.bl false))) xR)))
  (zm (zz true 8 (zp (aC (zp (aC zh (aC xv aN)) zU) (aC (f2 zj zX zk) aN)) w_))
  (zm (vS (zp (aC (zp (aC zj (aC (fV 8) aN)) xl) aN) yr) (gT 2 (ye (gN 9) (ye (gN 10) xD))))
  (zm (xx (fT (f2 (f2 (fV 9) zX zk) zP (zy .NotEq))) (zT (fC (.bl false))) xR)
  (zm (zz false 11 (yF dN))
  (zm (yM (ya (aC zP aN) yb) (gN 5) (yB (yZ 11 (dC (f2 (fV 10) (f2 (fV 8) (wm .lst zD Hf x6) zk) zk) dN) y9)))
  (zm (xx (fT (f2 (zq (ya (aC (f2 zj zX zk) aN) yb) [none,some 10,some 8] zG zH (f2 zj (f2 zu zh zk) zk)) (zq (yw zD) [none,some 11] zG zH (f2 zj zh zk)) (zy .NotEq))) (zT (fC (.bl false))) xR)
  (zT (Nl (f2 (fP (aC yz aN) Yy) (fP (aC zP aN) Bw) (zy .Eq)) (f2 (zp (aC zu (aC yz aN)) xl) (fV 9) (zy .Eq)))))))))))))))
def G3:Fn:=wK 12 1 JI
structure Fq(K:zzA)(mg:Str->Option Value)(x:Str)(st:Stmt)(f:Addr)(d:FuncData)(ps:List Str):Prop where
 F:Fun K x x st f d
 b:Binds K d ps []
 m:mg x=some (.ref f)
def vO{P:Program}{w:World}{K:zzA}{mg:Str->Option Value}{base:Heap}{kd:KD}{x:Str}{st:Stmt}{f:Addr}{d:FuncData}{N ps:List Str}{k:Nat}{c:SF}(Q:Fq K mg x st f d ps)(S:FnScope N ps (zr st))
 (hb:∀(cdv:Value) (A:Around) (outer:List Env) (s:Shared) (H:Hp) (E:XK),Room k (A.deeper (envOfC x (zr st) s.heap.objs.size f cdv))->MS (NP B4 P w K mg base N x (zr st) f cdv A outer s H E).nox kd (Yg st) c):
 Co x P w K mg base kd (k+1) f d ps (wK N.length ps.length c):=⟨uI Q.F S hb,Q.m,Q.F.kp,Q.b⟩
set_option genInjectivity false in
set_option genSizeOf false in
structure Adr where
 Rj:Addr
 To:FuncData
 UH:Addr
 Q1:FuncData
 L9:Addr
 L7:FuncData
 YH:Addr
 Yt:FuncData
 YE:Addr
 YD:FuncData
 XY:Addr
 XQ:FuncData
 VA:Addr
 Qe:FuncData
 W8:Addr
 W9:FuncData
 Xm:Addr
 Xl:FuncData
 QZ:Addr
 QX:FuncData
 Xi:Addr
 YV:FuncData
 V9:Addr
 V2:FuncData
 Pk:Addr
 Te:FuncData
 Rq:Addr
 PC:FuncData
 Yw:Addr
 Yo:FuncData
 YL:Addr
 Yp:FuncData
 Px:Addr
 Pj:FuncData
 Pp:Addr
 Pw:FuncData
 VO:Addr
 Vo:FuncData
 Vq:Addr
 Vj:FuncData
 V_:Addr
 VW:FuncData
 VL:Addr
 VI:FuncData
 Wh:Addr
 XZ:FuncData
 Mm:Addr
 NA:FuncData
 Vc:Addr
 VH:FuncData
 UA:Addr
 QM:FuncData
 XO:Addr
 XS:FuncData
 Rh:Addr
 P1:FuncData
 Vz:Addr
 VJ:FuncData
 PZ:Addr
 Pt:FuncData
 Uw:Addr
 QN:FuncData
 RY:Addr
 Pe:FuncData
 Uo:Addr
 Uk:FuncData
 Vm:Addr
 W5:FuncData
 Pr:Addr
 Rx:FuncData
 QV:Addr
 Q8:FuncData
 Ur:Addr
 QT:FuncData
 Wj:Addr
 Wo:FuncData
 PN:Addr
 RL:FuncData
 Vn:Addr
 Vv:FuncData
 YK:Addr
 Yn:FuncData
 Gx:Addr
 Gm:FuncData
 Wu:Addr
 Wq:FuncData
 QR:Addr
 Up:FuncData
 Uz:Addr
 QL:FuncData
 Tr:Addr
 PD:FuncData
 GW:Addr
 Gp:FuncData
 X6:Addr
 Ww:FuncData
 JJ:Addr
 I0:FuncData
structure Txt(K:zzA)(kd:KD)(mg:Str->Option Value)(t:Adr):Prop where
 M6:Fq K mg "is_whole" Z_ t.Rj t.To ["thing"]
 N7:Fq K mg "is_within" Zi t.UH t.Q1 ["thing","least","most"]
 Og:Fq K mg "is_row" Qc t.L9 t.L7 ["thing","n"]
 UT:Fq K mg "nothing_fails" xU t.YH t.Yt ["algebra"]
 UO:Fq K mg "parting_fails" xY t.YE t.YD ["algebra"]
 Tz:Fq K mg "doing_fails" wU t.XY t.XQ ["algebra","name","rows"]
 LK:Fq K mg "deeds_fail" vA t.VA t.Qe ["algebra"]
 Lm:Fq K mg "what_fails" vH t.W8 t.W9 ["algebra"]
 RW:Fq K mg "check_let_by" wA t.Xm t.Xl ["algebra"]
 Np:Fq K mg "all_steps" Zb t.QZ t.QX ["algebra"]
 RC:Fq K mg "telling_sign" wz t.Xi t.YV ["algebra","one","other"]
 LF:Fq K mg "told_apart" vC t.V9 t.V2 ["algebra","one","other"]
 M_:Fq K mg "numbered" ZO t.Pk t.Te ["keys"]
 MQ:Fq K mg "signs_of" ZL t.Rq t.PC ["algebra","value"]
 UN:Fq K mg "class_numbers" xX t.Yw t.Yo ["algebra"]
 US:Fq K mg "least_algebra" xZ t.YL t.Yp ["algebra"]
 Et:Fq K mg "names_of" Yi t.Px t.Pj ["told"]
 EA:Fq K mg "are_akin" Z4 t.Pp t.Pw ["one","other"]
 K0:Fq K mg "keeps_join" vK t.VO t.Vo ["one","other","numbers"]
 Ka:Fq K mg "keeps_rows" vG t.Vq t.Vj ["rows","others","numbers"]
 LM:Fq K mg "keeps_sign" vE t.V_ t.VW ["values","others","numbers"]
 KA:Fq K mg "is_picture" vz t.VL t.VI ["one","other","numbers"]
 TX:Fq K mg "_law_cell_at" w9 t.Wh t.XZ ["_law_script","_law_k"]
 JF:Fq K mg "_law_whole" Y5 t.Mm t.NA ["_law_found"]
 KM:Fq K mg "_law_stream" vt t.Vc t.VH ["_law_cell","_law_many"]
 Mi:Fq K mg "_law_names" Zj t.UA t.QM ["_law_cell","_law_many"]
 TM:Fq K mg "_law_divisor" wW t.XO t.XS ["_law_one","_law_other"]
 Ed:Fq K mg "_law_sums" Z8 t.Rh t.P1 ["_law_n","_law_m","_law_xs"]
 KI:Fq K mg "_law_rising" vv t.Vz t.VJ ["_law_n","_law_m","_law_xs"]
 Mz:Fq K mg "_law_kept" Z2 t.PZ t.Pt ["_law_n","_law_m","_law_xs"]
 L4:Fq K mg "_law_joins" Zl t.Uw t.QN ["_law_kind","_law_n"]
 Em:Fq K mg "_law_rows" Z9 t.RY t.Pe ["_law_kind","_law_n","_law_m","_law_xs"]
 NF:Fq K mg "_law_plain" Zd t.Uo t.Uk ["_law_kind","_law_n","_law_m","_law_many","_law_cell"]
 K_:Fq K mg "_law_beside" vF t.Vm t.W5 ["_law_one","_law_other","_law_m"]
 M9:Fq K mg "_law_made" ZM t.Pr t.Rx ["_law_cell","_law_m","_law_many"]
 NJ:Fq K mg "_law_order" v9 t.QV t.Q8 ["_law_cell","_law_n"]
 Nk:Fq K mg "_law_signs" vY t.Ur t.QT ["_law_cell","_law_n","_law_names_here"]
 Ge:Fq K mg "_law_algebra" wY t.Wj t.Wo ["_law_cell","_law_other"]
 EB:Fq K mg "_law_bent" wO t.PN t.RL ["_law_algebra_here","_law_cell"]
 Lg:Fq K mg "_law_digits" vL t.Vn t.Vv ["_law_cell","_law_base","_law_many"]
 UU:Fq K mg "_law_by_digits" x5 t.YK t.Yn ["_law_algebra_here","_law_cell"]
 BV:Fq K mg "_law_any" XD t.Gx t.Gm ["_law_script"]
 TU:Fq K mg "_law_parting" wR t.Wu t.Wq ["_law_n","_law_join","_law_nothing"]
 Mj:Fq K mg "_law_doing" Zh t.QR t.Up ["_law_n","_law_m","_law_join","_law_name","_law_rows_here"]
 N2:Fq K mg "_law_fails" Zk t.Uz t.QL ["_law_algebra_here"]
 Mx:Fq K mg "_law_good" ZZ t.Tr t.PD ["_law_script"]
 FZ:Fq K mg "_law_few" XF t.GW t.Gp ["_law_algebra_here","_law_cell"]
 TQ:Fq K mg "_law_renamed" wX t.X6 t.Ww ["_law_algebra_here","_law_order_here"]
 sP:Fq K mg "law" FD t.JJ t.I0 ["_law_script"]
 tM:mg "all"=none
 J9:mg "bool"=none
 Sd:mg "divmod"=none
 L8:mg "enumerate"=none
 Jo:mg "int"=none
 ZN:mg "isinstance"=none
 Sl:mg "len"=none
 Pn:mg "list"=none
 uz:mg "max"=none
 Lk:mg "range"=none
 uP:mg "set"=none
 Oh:mg "sorted"=none
 Cp:mg "tuple"=none
 JK:mg "zip"=none
set_option maxHeartbeats 8000000
section
variable{P:Program}{w:World}{K:zzA}{mg:Str->Option Value}{base:Heap}{kd:KD}{t:Adr}
local macro_rules | `(tactic| trivial)=>do let T:=Lean.mkIdent `T;let h:=Lean.mkIdent `hkd;let r:=Lean.mkIdent `hr;`(tactic| first|(show AE _ _ _ _;first|exact av _|exact aI|(refine ax $h ?_ ?_<;>trivial)|(refine bn ?_ ?_<;>trivial)|exact aS|exact aZ|exact aB|(refine ec $h $r ?_ ?_<;>trivial)|(refine ec $h $r ?_ ?_ (hm:=rfl)<;>trivial)|(refine cq (by assumption) $r ?_<;>trivial)|(refine Eh ?_;trivial)|(refine HE ?_;trivial)|(refine cm ?_ ?_ ?_ ?_<;>trivial)|(refine Ot ?_ ?_ ?_<;>trivial)|(refine BI ?_ ?_ ?_<;>trivial)|(refine bi (BG ($h _ rfl rfl rfl)) (Txt.Sl $T) Bt.len ?_;trivial)|(refine bi (Bm rfl) (Txt.uz $T) Bt.max ?_;trivial)|(refine bi (FV rfl) (Txt.tM $T) Bt.all ?_;trivial)|(refine bi MK (Txt.Oh $T) Bt.sorted ?_;trivial)|(refine bi BJ (Txt.Sd $T) Bt.divmod ?_;trivial)|(refine uY MW (Txt.Jo $T) Bt.int ?_;trivial)|(refine MA ($h _ rfl rfl rfl) rfl rfl (Txt.ZN $T) Bt.isinstance rfl (Txt.Jo $T) Bt.int ?_ (Bt.n _ rfl) (by decide) (Bt.n _ rfl) (by decide) rfl rfl rfl;trivial)|(refine uY BX (Txt.Cp $T) Bt.tuple ?_;trivial)|(refine uY QD (Txt.Pn $T) Bt.list ?_;trivial)|(refine MA ($h _ rfl rfl rfl) rfl rfl (Txt.ZN $T) Bt.isinstance rfl (Txt.Pn $T) Bt.list ?_ (Bt.n _ rfl) (by decide) (Bt.n _ rfl) (by decide) rfl rfl rfl;trivial)|(refine MA ($h _ rfl rfl rfl) rfl rfl (Txt.ZN $T) Bt.isinstance rfl (Txt.J9 $T) Bt.bool ?_ (Bt.n _ rfl) (by decide) (Bt.n _ rfl) (by decide) rfl rfl rfl;trivial)|(refine Bi rfl rfl (Txt.Lk $T) rfl (Txt.Pn $T) ?_ rfl rfl;trivial)|(refine Bu rfl rfl (Txt.uP $T) rfl (Txt.Sl $T) ?_ rfl rfl;trivial)|(refine Au ?_;trivial)|(refine Om ?_ ?_<;>trivial)|(refine OL ?_;trivial)|(refine Jr (sd (Fu $r)) ?_ ?_ (λ_ _=>rfl)<;>trivial)|(refine By (Fu $r) ?_ ?_<;>trivial)|exact DW|exact ae_d0|(refine Mv Bj Az PySem.F.slot_list_append PySem.F.type_list_append (pv _) ?_ rfl rfl rfl rfl rfl;trivial)|(refine Mv S9 OK PySem.F.slot_list_pop PySem.F.type_list_pop (pv _) ?_ rfl rfl rfl rfl rfl;trivial)|(refine Mv BS J0 PySem.F.slot_list_extend PySem.F.type_list_extend (pv _) ?_ rfl rfl rfl rfl rfl;trivial)|(refine EM (ty:=.str) ($h _ rfl rfl rfl) Cj PySem.F.plainAttrs_str PySem.F.slot_str_join PySem.F.type_str_join ?_ ?_ rfl rfl rfl rfl rfl<;>trivial)|(refine EM (ty:=.lst) ($h _ rfl rfl rfl) (Hu ($h _ rfl rfl rfl) (Ml $r)) PySem.F.plainAttrs_list PySem.F.slot_list_index PySem.F.type_list_index ?_ ?_ rfl rfl rfl rfl rfl<;>trivial))|(show AA _ _ _ _;first|(refine bc ?_ ?_<;>trivial)|exact Tc)|exact U6|(refine IC ?_;trivial)|(intro _;trivial)|(show Tt _ _ _ _;first|(refine oM (by assumption) ?_ ?_ ?_ ?_<;>trivial)|(refine DX (Fu $r) (pv _) ?_ rfl rfl rfl rfl rfl rfl;trivial)|(refine MI ?_;trivial)|(refine Fg ?_ ?_ ?_<;>trivial)|(refine oJ ?_ ?_ ?_<;>trivial)|(refine Sz PassesOwn.never ?_ ?_<;>trivial)|(refine CT ?_ rfl;trivial)|(refine sv _ _ (by assumption) ?_;trivial)|(refine DM rfl (by assumption) rfl rfl (by decide) rfl rfl ?_ rfl rfl;trivial)|(refine qT ?_ ?_<;>trivial)|(refine Cd (pv _) ?_ ?_ (λ_=>rfl) rfl rfl rfl<;>trivial)|(refine C2 (Fu $r) (pv _) ?_ ?_ rfl<;>trivial)|exact Dk (by assumption) rfl (.inl rfl) (by first|exact Or.inl rfl|exact Or.inr rfl)|exact uS)|(show MS _ _ _ _;first|(refine sj _ (by assumption) ?_ ?_<;>trivial)|(refine vc ?_ ?_<;>trivial)|(refine VP ?_;trivial)|exact U4)|(show AT _ _ _ _;first|(refine tc $h $r ?_ ?_<;>trivial)|(refine tc $h $r ?_ ?_ (hm:=rfl)<;>trivial)|(refine JU ?_;trivial)|(refine DN ?_ (λ_=>rfl);trivial)|(refine AW.at_ ?_;trivial))|(show AD _ _ _ _;first|(refine bd ?_ ?_<;>trivial)|exact KB)|(show AO _ _ _ _;first|(refine IM ?_;trivial)|exact Ck)|(show AG _ _ _ _ _;first|exact an _ (by assumption)|exact an _ (oP (by kernel_rfl))|(refine Kk rfl ?_ rfl rfl;trivial))|(show JG _ _ _ _ _;first|(refine oK ?_ ?_<;>trivial)|exact U3)|(show uv _ _ _ _;first|exact qP _ (by assumption)|(refine r4 ?_;trivial))|(show HN _ _ _ _;first|(refine rS ?_ ?_<;>trivial)|exact rR)|(show O6 _ _ _ _ _;first|(refine BK rfl (Txt.Lk $T) ?_ rfl;trivial)|(refine Ca rfl (Txt.L8 $T) ?_ rfl;trivial)|(refine O5 rfl (Txt.JK $T) ?_ rfl rfl;trivial)|(refine K3 ?_;trivial))|(show AI _ _ _ _ _;first|(refine Be rfl (Txt.Lk $T) ?_ rfl;trivial)|(refine DA rfl (Txt.JK $T) ?_ rfl rfl;trivial)|(refine As ?_;trivial))|(show AW _ _ _ _;first|(refine Ju ?_ ?_<;>trivial)|(refine Hc ?_ ?_<;>trivial)|(refine Gy ?_;trivial)|(refine Rm ?_;trivial))|(show AK _ _ _ _;first|exact Xr))
def MB(T:Txt K kd mg t)(hkd:vd P w K kd):Co "is_whole" P w K mg base kd 1 t.Rj t.To ["thing"] WS:=by
 refine vO (N:=Tb) (k:=0) (c:=Td) T.M6 Q3 λcdv A outer s H E hr=>?_;have:=Q3.nd;conv=>arg 3;whnf
 trivial
def N9(T:Txt K kd mg t)(hkd:vd P w K kd):Co "is_within" P w K mg base kd 2 t.UH t.Q1 ["thing","least","most"] Zm:=by
 refine vO (N:=Q4) (k:=1) (c:=Ul) T.N7 Kt λcdv A outer s H E hr=>?_;exact(VP (MI (Om (cq (MB T hkd) hr (bc (av 0) Tc)) (OL (Ht (Kj (hkd _ rfl rfl rfl) (Ml hr) .LtE) (Kj (hkd _ rfl rfl rfl) (Ml hr) .LtE) (av 1) (av 0) (av 2) (by with_unfolding_all rfl))))))
def Sv(T:Txt K kd mg t)(hkd:vd P w K kd):Co "is_row" P w K mg base kd 3 t.L9 t.L7 ["thing","n"] Y_:=by
 refine vO (N:=Ma) (k:=2) (c:=N6) T.Og GB λcdv A outer s H E hr=>?_;have:=GB.nd;have:=N9 (base:=base) T hkd;conv=>arg 3;whnf
 trivial
def UW(T:Txt K kd mg t)(hkd:vd P w K kd):Co "nothing_fails" P w K mg base kd 1 t.YH t.Yt ["algebra"] vg:=by
 refine vO (N:=YO) (k:=0) (c:=Yu) T.UT ZF λcdv A outer s H E hr=>?_;have:=ZF.nd;conv=>arg 3;whnf
 trivial
def UV(T:Txt K kd mg t)(hkd:vd P w K kd):Co "parting_fails" P w K mg base kd 1 t.YE t.YD ["algebra"] vh:=by
 refine vO (N:=YM) (k:=0) (c:=YA) T.UO ZC λcdv A outer s H E hr=>?_;have:=ZC.nd;conv=>arg 3;whnf
 trivial
def Tx(T:Txt K kd mg t)(hkd:vd P w K kd):Co "doing_fails" P w K mg base kd 1 t.XY t.XQ ["algebra","name","rows"] wZ:=by
 refine vO (N:=XU) (k:=0) (c:=Wd) T.Tz Xb λcdv A outer s H E hr=>?_;have:=Xb.nd;conv=>arg 3;whnf
 trivial
def Lh(T:Txt K kd mg t)(hkd:vd P w K kd):Co "deeds_fail" P w K mg base kd 2 t.VA t.Qe ["algebra"] ZQ:=by
 refine vO (N:=Vh) (k:=1) (c:=W0) T.LK Wk λcdv A outer s H E hr=>?_;have:=Wk.nd;have:=Tx (base:=base) T hkd;conv=>arg 3;whnf
 trivial
def LS(T:Txt K kd mg t)(hkd:vd P w K kd):Co "what_fails" P w K mg base kd 3 t.W8 t.W9 ["algebra"] Ym:=by
 refine vO (N:=V7) (k:=2) (c:=Vl) T.Lm X5 λcdv A outer s H E hr=>?_;have:=X5.nd;have:=UW (base:=base) T hkd;have:=UV (base:=base) T hkd;have:=Lh (base:=base) T hkd;conv=>arg 3;whnf
 trivial
def Tn(T:Txt K kd mg t)(hkd:vd P w K kd):Co "check_let_by" P w K mg base kd 4 t.Xm t.Xl ["algebra"] xb:=by
 refine vO (N:=Y7) (k:=3) (c:=vT) T.RW YF λcdv A outer s H E hr=>?_;have:=YF.nd;have:=LS (base:=base) T hkd;conv=>arg 3;whnf
 trivial
def Ue(T:Txt K kd mg t)(hkd:vd P w K kd):Co "all_steps" P w K mg base kd 1 t.QZ t.QX ["algebra"] wh:=by
 refine vO (N:=Uq) (k:=0) (c:=Uj) T.Np VT λcdv A outer s H E hr=>?_;have:=VT.nd;conv=>arg 3;whnf
 trivial
def PX(T:Txt K kd mg t)(hkd:vd P w K kd):Co "telling_sign" P w K mg base kd 1 t.Xi t.YV ["algebra","one","other"] yQ:=by
 refine vO (N:=Xh) (k:=0) (c:=Y9) T.RC YB λcdv A outer s H E hr=>?_;have:=YB.nd;conv=>arg 3;whnf
 trivial
def Kf(T:Txt K kd mg t)(hkd:vd P w K kd):Co "told_apart" P w K mg base kd 2 t.V9 t.V2 ["algebra","one","other"] yY:=by
 refine vO (N:=WY) (k:=1) (c:=Vk) T.LF X3 λcdv A outer s H E hr=>?_;have:=X3.nd;have:=Ue (base:=base) T hkd;have:=PX (base:=base) T hkd;conv=>arg 3;whnf
 trivial
def Mr(T:Txt K kd mg t)(hkd:vd P w K kd):Co "numbered" P w K mg base kd 1 t.Pk t.Te ["keys"] wM:=by
 refine vO (N:=RR) (k:=0) (c:=RO) T.M_ UE λcdv A outer s H E hr=>?_;have:=UE.nd;conv=>arg 3;whnf
 trivial
def My(T:Txt K kd mg t)(hkd:vd P w K kd):Co "signs_of" P w K mg base kd 1 t.Rq t.PC ["algebra","value"] WL:=by
 refine vO (N:=PV) (k:=0) (c:=RK) T.MQ QP λcdv A outer s H E hr=>?_;have:=QP.nd;conv=>arg 3;whnf
 trivial
def UM(T:Txt K kd mg t)(hkd:vd P w K kd):Co "class_numbers" P w K mg base kd 2 t.Yw t.Yo ["algebra"] xT:=by
 refine vO (N:=Ys) (k:=1) (c:=YC) T.UN ZD λcdv A outer s H E hr=>?_;have:=ZD.nd;have:=Ue (base:=base) T hkd;have:=Mr (base:=base) T hkd;have:=My (base:=base) T hkd;conv=>arg 3;whnf
 trivial
def UR(T:Txt K kd mg t)(hkd:vd P w K kd):Co "least_algebra" P w K mg base kd 5 t.YL t.Yp ["algebra"] yr:=by
 refine vO (N:=Yx) (k:=4) (c:=Yr) T.US Zz λcdv A outer s H E hr=>?_;have:=Zz.nd;have:=Tn (base:=base) T hkd;have:=UM (base:=base) T hkd;conv=>arg 3;whnf
 trivial
def Er(T:Txt K kd mg t)(hkd:vd P w K kd):Co "names_of" P w K mg base kd 1 t.Px t.Pj ["told"] wQ:=by
 refine vO (N:=P0) (k:=0) (c:=Pc) T.Et QS λcdv A outer s H E hr=>?_;have:=QS.nd;conv=>arg 3;whnf
 trivial
def Ei(T:Txt K kd mg t)(hkd:vd P w K kd):Co "are_akin" P w K mg base kd 2 t.Pp t.Pw ["one","other"] ZW:=by
 refine vO (N:=RG) (k:=1) (c:=Ts) T.EA Q_ λcdv A outer s H E hr=>?_;have:=Q_.nd;have:=Er (base:=base) T hkd;conv=>arg 3;whnf
 trivial
def Km(T:Txt K kd mg t)(hkd:vd P w K kd):Co "keeps_join" P w K mg base kd 1 t.VO t.Vo ["one","other","numbers"] vD:=by
 refine vO (N:=VG) (k:=0) (c:=W3) T.K0 Wi λcdv A outer s H E hr=>?_;have:=Wi.nd;conv=>arg 3;whnf
 trivial
def Kp(T:Txt K kd mg t)(hkd:vd P w K kd):Co "keeps_rows" P w K mg base kd 1 t.Vq t.Vj ["rows","others","numbers"] vI:=by
 refine vO (N:=V5) (k:=0) (c:=Vb) T.Ka XX λcdv A outer s H E hr=>?_;have:=XX.nd;conv=>arg 3;whnf
 trivial
def KU(T:Txt K kd mg t)(hkd:vd P w K kd):Co "keeps_sign" P w K mg base kd 1 t.V_ t.VW ["values","others","numbers"] vM:=by
 refine vO (N:=W_) (k:=0) (c:=VD) T.LM Wl λcdv A outer s H E hr=>?_;have:=Wl.nd;conv=>arg 3;whnf
 trivial
def LQ(T:Txt K kd mg t)(hkd:vd P w K kd):Co "is_picture" P w K mg base kd 4 t.VL t.VI ["one","other","numbers"] wI:=by
 refine vO (N:=V1) (k:=3) (c:=VZ) T.KA X2 λcdv A outer s H E hr=>?_;have:=X2.nd;have:=Ei (base:=base) T hkd;have:=Sv (base:=base) T hkd;have:=Km (base:=base) T hkd;have:=Kp (base:=base) T hkd;have:=KU (base:=base) T hkd;conv=>arg 3;whnf
 trivial
def Zs(T:Txt K kd mg t)(hkd:vd P w K kd):Co "_law_cell_at" P w K mg base kd 1 t.Wh t.XZ ["_law_script","_law_k"] zU:=by
 refine vO (N:=Wv) (k:=0) (c:=Wa) T.TX Xo λcdv A outer s H E hr=>?_;have:=Xo.nd;conv=>arg 3;whnf
 trivial
def yW(T:Txt K kd mg t)(hkd:vd P w K kd):Co "_law_stream" P w K mg base kd 1 t.Vc t.VH ["_law_cell","_law_many"] yu:=by
 refine vO (N:=VS) (k:=0) (c:=VU) T.KM Wb λcdv A outer s H E hr=>?_;have:=Wb.nd;conv=>arg 3;whnf
 trivial
def N8(T:Txt K kd mg t)(hkd:vd P w K kd):Co "_law_names" P w K mg base kd 2 t.UA t.QM ["_law_cell","_law_many"] Y2:=by
 refine vO (N:=Q5) (k:=1) (c:=UF) T.Mi W6 λcdv A outer s H E hr=>?_;have:=W6.nd;have:=yW (base:=base) T hkd;conv=>arg 3;whnf
 trivial
def Gh(T:Txt K kd mg t)(hkd:vd P w K kd):Co "_law_divisor" P w K mg base kd 1 t.XO t.XS ["_law_one","_law_other"] Zt:=by
 refine vO (N:=Wm) (k:=0) (c:=Wt) T.TM Y8 λcdv A outer s H E hr=>?_;have:=Y8.nd;conv=>arg 3;whnf
 trivial
def MM(T:Txt K kd mg t)(hkd:vd P w K kd):Co "_law_sums" P w K mg base kd 2 t.Rh t.P1 ["_law_n","_law_m","_law_xs"] WR:=by
 refine vO (N:=Rv) (k:=1) (c:=Rz) T.Ed UD λcdv A outer s H E hr=>?_;have:=UD.nd;have:=Gh (base:=base) T hkd;conv=>arg 3;whnf
 trivial
def KY(T:Txt K kd mg t)(hkd:vd P w K kd):Co "_law_rising" P w K mg base kd 1 t.Vz t.VJ ["_law_n","_law_m","_law_xs"] ZS:=by
 refine vO (N:=V6) (k:=0) (c:=WW) T.KI Wn λcdv A outer s H E hr=>?_;have:=Wn.nd;conv=>arg 3;whnf
 trivial
def M3(T:Txt K kd mg t)(hkd:vd P w K kd):Co "_law_kept" P w K mg base kd 1 t.PZ t.Pt ["_law_n","_law_m","_law_xs"] WB:=by
 refine vO (N:=Pd) (k:=0) (c:=RF) T.Mz Ub λcdv A outer s H E hr=>?_;have:=Ub.nd;conv=>arg 3;whnf
 trivial
def Nz(T:Txt K kd mg t)(hkd:vd P w K kd):Co "_law_joins" P w K mg base kd 1 t.Uw t.QN ["_law_kind","_law_n"] Zg:=by
 refine vO (N:=Q2) (k:=0) (c:=Ux) T.L4 Qb λcdv A outer s H E hr=>?_;have:=Qb.nd;conv=>arg 3;whnf
 trivial
def MY(T:Txt K kd mg t)(hkd:vd P w K kd):Co "_law_rows" P w K mg base kd 3 t.RY t.Pe ["_law_kind","_law_n","_law_m","_law_xs"] ZR:=by
 refine vO (N:=Ry) (k:=2) (c:=RJ) T.Em Uy λcdv A outer s H E hr=>?_;have:=Uy.nd;have:=MM (base:=base) T hkd;have:=KY (base:=base) T hkd;have:=M3 (base:=base) T hkd;conv=>arg 3;whnf
 trivial
def NG(T:Txt K kd mg t)(hkd:vd P w K kd):Co "_law_plain" P w K mg base kd 4 t.Uo t.Uk ["_law_kind","_law_n","_law_m","_law_many","_law_cell"] wg:=by
 refine vO (N:=UJ) (k:=3) (c:=UG) T.NF Vp λcdv A outer s H E hr=>?_;have:=Vp.nd;have:=MY (base:=base) T hkd;have:=yW (base:=base) T hkd;have:=Nz (base:=base) T hkd;conv=>arg 3;whnf
 trivial
def Lj(T:Txt K kd mg t)(hkd:vd P w K kd):Co "_law_beside" P w K mg base kd 1 t.Vm t.W5 ["_law_one","_law_other","_law_m"] ZP:=by
 refine vO (N:=Vr) (k:=0) (c:=Vs) T.K_ We λcdv A outer s H E hr=>?_;have:=We.nd;conv=>arg 3;whnf
 trivial
def Ez(T:Txt K kd mg t)(hkd:vd P w K kd):Co "_law_made" P w K mg base kd 5 t.Pr t.Rx ["_law_cell","_law_m","_law_many"] WC:=by
 refine vO (N:=P4) (k:=4) (c:=Pi) T.M9 QQ λcdv A outer s H E hr=>?_;have:=QQ.nd;have:=yW (base:=base) T hkd;have:=NG (base:=base) T hkd;have:=Lj (base:=base) T hkd;conv=>arg 3;whnf
 trivial
def Q6(T:Txt K kd mg t)(hkd:vd P w K kd):Co "_law_order" P w K mg base kd 2 t.QV t.Q8 ["_law_cell","_law_n"] w_:=by
 refine vO (N:=Uc) (k:=1) (c:=UB) T.NJ Vx λcdv A outer s H E hr=>?_;have:=Vx.nd;have:=yW (base:=base) T hkd;conv=>arg 3;whnf
 trivial
def N5(T:Txt K kd mg t)(hkd:vd P w K kd):Co "_law_signs" P w K mg base kd 2 t.Ur t.QT ["_law_cell","_law_n","_law_names_here"] Zn:=by
 refine vO (N:=Um) (k:=1) (c:=Ud) T.Nk Vg λcdv A outer s H E hr=>?_;have:=Vg.nd;have:=yW (base:=base) T hkd;conv=>arg 3;whnf
 trivial
def XT(T:Txt K kd mg t)(hkd:vd P w K kd):Co "_law_algebra" P w K mg base kd 6 t.Wj t.Wo ["_law_cell","_law_other"] xm:=by
 refine vO (N:=X1) (k:=5) (c:=Wc) T.Ge Xg λcdv A outer s H E hr=>?_;have:=Xg.nd;have:=yW (base:=base) T hkd;have:=Ez (base:=base) T hkd;have:=Q6 (base:=base) T hkd;have:=N8 (base:=base) T hkd;have:=N5 (base:=base) T hkd;conv=>arg 3;whnf
 trivial
def EC(T:Txt K kd mg t)(hkd:vd P w K kd):Co "_law_bent" P w K mg base kd 2 t.PN t.RL ["_law_algebra_here","_law_cell"] WG:=by
 refine vO (N:=ZY) (k:=1) (c:=PM) T.EB yA λcdv A outer s H E hr=>?_;exact(by
  refine vc ?_ ?_;exact(SC (av 0) (Kk rfl (xS (an 2 yA.nd) (xS (an 3 yA.nd) (xS (an 4 yA.nd) (xS (an 5 yA.nd) (xS (an 6 yA.nd) (xS (an 7 yA.nd) U3 rfl) rfl) rfl) rfl) rfl) rfl) rfl rfl) rfl rfl rfl);refine sj 8 yA.nd ?_ ?_;exact(cq (yW T hkd) hr (bc (av 1) (bc aI Tc)));refine vc ?_ ?_;exact(KQ (z:=false) (i:=9) (N:=["_law_row"]) (cap:=[none]) (S:=[0]) yA.nd rfl (by exact Or.inl rfl) (by exact Or.inr rfl) rfl rfl (K3 (av 4)) rfl (by change Wr _ ZY _ (zr wO).names _=true;decide +kernel) (by decide) (λcl s H fp=>(an 0 TK)) (λcl s H fp=>U6) (λcl s H fp=>(uY QD T.Pn Bt.list (bc (av 0) Tc))) (λ_=>rfl));refine vc ?_ ?_;exact(KQ (z:=false) (i:=10) (N:=["_law_name","_law_rows_here"]) (cap:=[none,none]) (S:=[0,1]) yA.nd rfl (by exact Or.inl rfl) (by exact Or.inr rfl) rfl rfl (K3 (av 6)) rfl (by change Wr _ ZY _ (zr wO).names _=true;decide +kernel) (by decide) (λcl s H fp=>(Kk rfl (xS (an 0 Wf) (xS (an 1 Wf) U3 rfl) rfl) rfl rfl)) (λcl s H fp=>U6) (λcl s H fp=>(Eh (bd (av 0) (bd (EZ (N:=["_law_row"]) (cap:=[none]) (S:=[0]) rfl (K3 (av 1)) rfl (by with_unfolding_all rfl) (by decide) (λcl s H fp=>(an 0 Gg)) (λcl s H fp=>U6) (λcl s H fp=>(uY QD T.Pn Bt.list (bc (av 0) Tc))) (λ_=>rfl)) KB)))) (λ_=>rfl));refine sj 11 yA.nd ?_ ?_;exact(bn (ax hkd (av 8) aI) aI);refine vc ?_ ?_;exact(Fg (tc hkd hr (av 11) aI) (VP (by refine sv true 5 yA.nd ?_;exact(bn (ax hkd (av 8) aI) (av 2)))) U4);refine vc ?_ ?_;exact(Fg (AW.at_ (Ju (tc hkd hr (av 11) aI) (Gy (tc hkd hr (av 11) aI)))) (VP (Cb (pv 9) (WN (Pm (pv 8) Xr (λ_ _=>rfl)) (QG (pv 2))) (λ_ _=>rfl) (WN (Pm (pv 8) Xr (λ_ _=>rfl)) (QG (pv 2))) (WN (Pm (pv 8) Xr (λ_ _=>rfl)) (QG (pv 2))) (λ_=>rfl) rfl rfl rfl)) U4);refine vc ?_ ?_;exact(Fg (AW.at_ (Hc (tc hkd hr (av 11) aI) (Rm (tc hkd hr (av 10) (HE KB))))) (C3 (y:=12) (n:=1) yA.nd rfl (by exact Or.inl rfl) (by exact Or.inr rfl) (pv 10) (WN (Pm (pv 8) Xr (λ_ _=>rfl)) (Dd rfl T.Sl Bt.len (pv 10) rfl rfl)) (λ_ _=>rfl) KR (λ_ _=>rfl) rfl (pv 12) (WN (Pm (pv 8) Xr (λ_ _=>rfl)) (QG (pv 3))) (λ_ _=>rfl) (WN (Pm (pv 8) Xr (λ_ _=>rfl)) (QG (pv 2))) (WN (Pm (pv 8) Xr (λ_ _=>rfl)) (QG (pv 2))) (λ_=>rfl) rfl rfl rfl) U4);exact VP (MI (Eh (bd (av 2) (bd (av 3) (bd (av 9) (bd (av 5) (bd (av 10) (bd (av 7) KB)))))))))
def LA(T:Txt K kd mg t)(hkd:vd P w K kd):Co "_law_digits" P w K mg base kd 1 t.Vn t.Vv ["_law_cell","_law_base","_law_many"] ZI:=by
 refine vO (N:=Qd) (k:=0) (c:=WX) T.Lg XW λcdv A outer s H E hr=>?_;have:=XW.nd;conv=>arg 3;whnf
 trivial
def UP(T:Txt K kd mg t)(hkd:vd P w K kd):Co "_law_by_digits" P w K mg base kd 2 t.YK t.Yn ["_law_algebra_here","_law_cell"] vi:=by
 refine vO (N:=Yz) (k:=1) (c:=YI) T.UU ZA λcdv A outer s H E hr=>?_;have:=ZA.nd;have:=LA (base:=base) T hkd;conv=>arg 3;whnf
 trivial
def FQ(T:Txt K kd mg t)(hkd:vd P w K kd):Co "_law_any" P w K mg base kd 7 t.Gx t.Gm ["_law_script"] Qh:=by
 refine vO (N:=GQ) (k:=6) (c:=Gn) T.BV RP λcdv A outer s H E hr=>?_;have:=RP.nd;have:=Zs (base:=base) T hkd;have:=XT (base:=base) T hkd;have:=UP (base:=base) T hkd;have:=EC (base:=base) T hkd;conv=>arg 3;whnf
 trivial
def T_(T:Txt K kd mg t)(hkd:vd P w K kd):Co "_law_parting" P w K mg base kd 1 t.Wu t.Wq ["_law_n","_law_join","_law_nothing"] Zu:=by
 refine vO (N:=X_) (k:=0) (c:=XR) T.TU Xf λcdv A outer s H E hr=>?_;have:=Xf.nd;conv=>arg 3;whnf
 trivial
def NC(T:Txt K kd mg t)(hkd:vd P w K kd):Co "_law_doing" P w K mg base kd 1 t.QR t.Up ["_law_n","_law_m","_law_join","_law_name","_law_rows_here"] v5:=by
 refine vO (N:=Ui) (k:=0) (c:=QO) T.Mj VM λcdv A outer s H E hr=>?_;have:=VM.nd;conv=>arg 3;whnf
 trivial
def Nt(T:Txt K kd mg t)(hkd:vd P w K kd):Co "_law_fails" P w K mg base kd 2 t.Uz t.QL ["_law_algebra_here"] v8:=by
 refine vO (N:=UC) (k:=1) (c:=Ua) T.N2 V3 λcdv A outer s H E hr=>?_;have:=V3.nd;have:=T_ (base:=base) T hkd;have:=NC (base:=base) T hkd;conv=>arg 3;whnf
 trivial
def MX(T:Txt K kd mg t)(hkd:vd P w K kd):Co "_law_good" P w K mg base kd 8 t.Tr t.PD ["_law_script"] Ye:=by
 refine vO (N:=P6) (k:=7) (c:=PY) T.Mx Ut λcdv A outer s H E hr=>?_;have:=Ut.nd;have:=FQ (base:=base) T hkd;have:=Zs (base:=base) T hkd;have:=Nt (base:=base) T hkd;have:=XT (base:=base) T hkd;conv=>arg 3;whnf
 trivial
def Bk(T:Txt K kd mg t)(hkd:vd P w K kd):Co "_law_few" P w K mg base kd 2 t.GW t.Gp ["_law_algebra_here","_law_cell"] XC:=by
 refine vO (N:=G2) (k:=1) (c:=GM) T.FZ Pf λcdv A outer s H E hr=>?_;have:=Pf.nd;have:=yW (base:=base) T hkd;conv=>arg 3;whnf
 trivial
def T8(T:Txt K kd mg t)(hkd:vd P w K kd):Co "_law_renamed" P w K mg base kd 1 t.X6 t.Ww ["_law_algebra_here","_law_order_here"] xl:=by
 refine vO (N:=X0) (k:=0) (c:=X4) T.TQ YZ λcdv A outer s H E hr=>?_;have:=YZ.nd;conv=>arg 3;whnf
 trivial
def tQ(T:Txt K kd mg t)(hkd:vd P w K kd):Co "law" P w K mg base kd 9 t.JJ t.I0 ["_law_script"] G3:=by
 refine vO (N:=Jb) (k:=8) (c:=JI) T.sP HY λcdv A outer s H E hr=>?_;have:=HY.nd;have:=Bk (base:=base) T hkd;have:=MX (base:=base) T hkd;have:=Zs (base:=base) T hkd;have:=UR (base:=base) T hkd;have:=LQ (base:=base) T hkd;have:=Kf (base:=base) T hkd;have:=Q6 (base:=base) T hkd;have:=T8 (base:=base) T hkd;conv=>arg 3;whnf
 trivial
end
abbrev oC(K:zzA)(x:Str)(f:Addr):Prop:=PySem.W.nsIn K mainGlobals x=some (some (.ref f))
abbrev FnAt(K:zzA)(x q:Str)(s:Stmt)(f:Addr):Prop:=∃d,Fun K x q s f d
abbrev Fk(K:zzA)(x:Str)(s:Stmt)(f:Addr):Prop:=oC K x f/\FnAt K x x s f
def Do{l:PySem.W.OpenLaw}{w:World}{K:zzA}{h:Heap}{mg:Str->Option Value}{fa:Addr}(X:K.In h)(G:h.Ns mainGlobals mg)(hfa:mg "law"=some (.ref fa))
 {f0 f1 f2 f3 f4 f5 f6 f7 f8 f9 f10 f11 f12 f13 f14 f15 f16 f17 f18 f19 f20 f21 f22 f23 f24 f25 f26 f27 f28 f29 f30 f31 f32 f33 f34 f35 f36 f37 f38 f39 f40 f41 f42 f43 f44 f45 f46 f47 f48:Addr}
 (a0:Fk K "is_whole" Z_ f0)
 (a1:Fk K "is_within" Zi f1)
 (a2:Fk K "is_row" Qc f2)
 (a3:Fk K "nothing_fails" xU f3)
 (a4:Fk K "parting_fails" xY f4)
 (a5:Fk K "doing_fails" wU f5)
 (a6:Fk K "deeds_fail" vA f6)
 (a7:Fk K "what_fails" vH f7)
 (a8:Fk K "check_let_by" wA f8)
 (a9:Fk K "all_steps" Zb f9)
 (a10:Fk K "telling_sign" wz f10)
 (a11:Fk K "told_apart" vC f11)
 (a12:Fk K "numbered" ZO f12)
 (a13:Fk K "signs_of" ZL f13)
 (a14:Fk K "class_numbers" xX f14)
 (a15:Fk K "least_algebra" xZ f15)
 (a16:Fk K "names_of" Yi f16)
 (a17:Fk K "are_akin" Z4 f17)
 (a18:Fk K "keeps_join" vK f18)
 (a19:Fk K "keeps_rows" vG f19)
 (a20:Fk K "keeps_sign" vE f20)
 (a21:Fk K "is_picture" vz f21)
 (a22:Fk K "_law_cell_at" w9 f22)
 (a23:Fk K "_law_whole" Y5 f23)
 (a24:Fk K "_law_stream" vt f24)
 (a25:Fk K "_law_names" Zj f25)
 (a26:Fk K "_law_divisor" wW f26)
 (a27:Fk K "_law_sums" Z8 f27)
 (a28:Fk K "_law_rising" vv f28)
 (a29:Fk K "_law_kept" Z2 f29)
 (a30:Fk K "_law_joins" Zl f30)
 (a31:Fk K "_law_rows" Z9 f31)
 (a32:Fk K "_law_plain" Zd f32)
 (a33:Fk K "_law_beside" vF f33)
 (a34:Fk K "_law_made" ZM f34)
 (a35:Fk K "_law_order" v9 f35)
 (a36:Fk K "_law_signs" vY f36)
 (a37:Fk K "_law_algebra" wY f37)
 (a38:Fk K "_law_bent" wO f38)
 (a39:Fk K "_law_digits" vL f39)
 (a40:Fk K "_law_by_digits" x5 f40)
 (a41:Fk K "_law_any" XD f41)
 (a42:Fk K "_law_parting" wR f42)
 (a43:Fk K "_law_doing" Zh f43)
 (a44:Fk K "_law_fails" Zk f44)
 (a45:Fk K "_law_good" ZZ f45)
 (a46:Fk K "_law_few" XF f46)
 (a47:Fk K "_law_renamed" wX f47)
 (a48:Fk K "law" FD f48)
 (z0:PySem.W.nsIn K mainGlobals "all"=some none) (z1:PySem.W.nsIn K mainGlobals "bool"=some none) (z2:PySem.W.nsIn K mainGlobals "divmod"=some none) (z3:PySem.W.nsIn K mainGlobals "enumerate"=some none) (z4:PySem.W.nsIn K mainGlobals "int"=some none) (z5:PySem.W.nsIn K mainGlobals "isinstance"=some none) (z6:PySem.W.nsIn K mainGlobals "len"=some none) (z7:PySem.W.nsIn K mainGlobals "list"=some none) (z8:PySem.W.nsIn K mainGlobals "max"=some none) (z9:PySem.W.nsIn K mainGlobals "range"=some none) (z10:PySem.W.nsIn K mainGlobals "set"=some none) (z11:PySem.W.nsIn K mainGlobals "sorted"=some none) (z12:PySem.W.nsIn K mainGlobals "tuple"=some none) (z13:PySem.W.nsIn K mainGlobals "zip"=some none):
 ∃fd:FuncData,(∀(s:Shared) (v:Value),BindsTo s fd ⟨[v],[]⟩ [("_law_script",v)])/\∀base:Heap,K.In base->base.Ns mainGlobals mg->FnOk l.prog w K mg base B4 9 fa fd ["_law_script"] (qL K G3):=by
 have e:=hfa.symm.trans (PySem.W.mg_of X G a48.1);cases e;obtain⟨a0,_,F0⟩:=a0;obtain⟨a1,_,F1⟩:=a1;obtain⟨a2,_,F2⟩:=a2;obtain⟨a3,_,F3⟩:=a3;obtain⟨a4,_,F4⟩:=a4;obtain⟨a5,_,F5⟩:=a5;obtain⟨a6,_,F6⟩:=a6;obtain⟨a7,_,F7⟩:=a7;obtain⟨a8,_,F8⟩:=a8;obtain⟨a9,_,F9⟩:=a9;obtain⟨a10,_,Jc⟩:=a10;obtain⟨a11,_,F11⟩:=a11;obtain⟨a12,_,F12⟩:=a12;obtain⟨a13,_,F13⟩:=a13;obtain⟨a14,_,F14⟩:=a14;obtain⟨a15,_,F15⟩:=a15;obtain⟨a16,_,F16⟩:=a16;obtain⟨a17,_,F17⟩:=a17;obtain⟨a18,_,F18⟩:=a18;obtain⟨a19,_,F19⟩:=a19;obtain⟨a20,_,F20⟩:=a20;obtain⟨a21,_,F21⟩:=a21;obtain⟨a22,_,F22⟩:=a22;obtain⟨a23,_,F23⟩:=a23;obtain⟨a24,_,F24⟩:=a24;obtain⟨a25,_,F25⟩:=a25;obtain⟨a26,_,F26⟩:=a26;obtain⟨a27,_,F27⟩:=a27;obtain⟨a28,_,F28⟩:=a28;obtain⟨a29,_,F29⟩:=a29;obtain⟨a30,_,F30⟩:=a30;obtain⟨a31,_,F31⟩:=a31;obtain⟨a32,_,F32⟩:=a32;obtain⟨a33,_,F33⟩:=a33;obtain⟨a34,_,F34⟩:=a34;obtain⟨a35,_,F35⟩:=a35;obtain⟨a36,_,F36⟩:=a36;obtain⟨a37,_,F37⟩:=a37;obtain⟨a38,_,F38⟩:=a38;obtain⟨a39,_,F39⟩:=a39;obtain⟨a40,_,F40⟩:=a40;obtain⟨a41,_,F41⟩:=a41;obtain⟨a42,_,F42⟩:=a42;obtain⟨a43,_,F43⟩:=a43;obtain⟨a44,_,F44⟩:=a44;obtain⟨a45,_,F45⟩:=a45;obtain⟨a46,_,F46⟩:=a46;obtain⟨a47,_,F47⟩:=a47;obtain⟨a48,_,F48⟩:=a48;obtain⟨_,_,_,_,_,_,_,_,_,rfl,_,_⟩:=F48.ex;let KL:List (Addr×List (Key×V)):=[];have hkd:vd l.prog w K (rZ KL):=Aj λp m=>by
  exact absurd (show p ∈ ([]:List (Addr×List (Key×V)))from m) zxC
 have T:Txt K (rZ KL) mg ⟨_,_,_,_,_,_,_,_,_,_,_,_,_,_,_,_,_,_,_,_,_,_,_,_,_,_,_,_,_,_,_,_,_,_,_,_,_,_,_,_,_,_,_,_,_,_,_,_,_,_,_,_,_,_,_,_,_,_,_,_,_,_,_,_,_,_,_,_,_,_,_,_,_,_,_,_,_,_,_,_,_,_,_,_,_,_,_,_,_,_,_,_,_,_,_,_,_,_⟩:=⟨⟨F0,bs F0,PySem.W.mg_of X G a0⟩,⟨F1,bs F1,PySem.W.mg_of X G a1⟩,⟨F2,bs F2,PySem.W.mg_of X G a2⟩,⟨F3,bs F3,PySem.W.mg_of X G a3⟩,⟨F4,bs F4,PySem.W.mg_of X G a4⟩,⟨F5,bs F5,PySem.W.mg_of X G a5⟩,⟨F6,bs F6,PySem.W.mg_of X G a6⟩,⟨F7,bs F7,PySem.W.mg_of X G a7⟩,⟨F8,bs F8,PySem.W.mg_of X G a8⟩,⟨F9,bs F9,PySem.W.mg_of X G a9⟩,⟨Jc,bs Jc,PySem.W.mg_of X G a10⟩,⟨F11,bs F11,PySem.W.mg_of X G a11⟩,⟨F12,bs F12,PySem.W.mg_of X G a12⟩,⟨F13,bs F13,PySem.W.mg_of X G a13⟩,⟨F14,bs F14,PySem.W.mg_of X G a14⟩,⟨F15,bs F15,PySem.W.mg_of X G a15⟩,⟨F16,bs F16,PySem.W.mg_of X G a16⟩,⟨F17,bs F17,PySem.W.mg_of X G a17⟩,⟨F18,bs F18,PySem.W.mg_of X G a18⟩,⟨F19,bs F19,PySem.W.mg_of X G a19⟩,⟨F20,bs F20,PySem.W.mg_of X G a20⟩,⟨F21,bs F21,PySem.W.mg_of X G a21⟩,⟨F22,bs F22,PySem.W.mg_of X G a22⟩,⟨F23,bs F23,PySem.W.mg_of X G a23⟩,⟨F24,bs F24,PySem.W.mg_of X G a24⟩,⟨F25,bs F25,PySem.W.mg_of X G a25⟩,⟨F26,bs F26,PySem.W.mg_of X G a26⟩,⟨F27,bs F27,PySem.W.mg_of X G a27⟩,⟨F28,bs F28,PySem.W.mg_of X G a28⟩,⟨F29,bs F29,PySem.W.mg_of X G a29⟩,⟨F30,bs F30,PySem.W.mg_of X G a30⟩,⟨F31,bs F31,PySem.W.mg_of X G a31⟩,⟨F32,bs F32,PySem.W.mg_of X G a32⟩,⟨F33,bs F33,PySem.W.mg_of X G a33⟩,⟨F34,bs F34,PySem.W.mg_of X G a34⟩,⟨F35,bs F35,PySem.W.mg_of X G a35⟩,⟨F36,bs F36,PySem.W.mg_of X G a36⟩,⟨F37,bs F37,PySem.W.mg_of X G a37⟩,⟨F38,bs F38,PySem.W.mg_of X G a38⟩,⟨F39,bs F39,PySem.W.mg_of X G a39⟩,⟨F40,bs F40,PySem.W.mg_of X G a40⟩,⟨F41,bs F41,PySem.W.mg_of X G a41⟩,⟨F42,bs F42,PySem.W.mg_of X G a42⟩,⟨F43,bs F43,PySem.W.mg_of X G a43⟩,⟨F44,bs F44,PySem.W.mg_of X G a44⟩,⟨F45,bs F45,PySem.W.mg_of X G a45⟩,⟨F46,bs F46,PySem.W.mg_of X G a46⟩,⟨F47,bs F47,PySem.W.mg_of X G a47⟩,⟨F48,bs F48,PySem.W.mg_of X G a48⟩,PySem.W.mg_none_of X G z0,PySem.W.mg_none_of X G z1,PySem.W.mg_none_of X G z2,PySem.W.mg_none_of X G z3,PySem.W.mg_none_of X G z4,PySem.W.mg_none_of X G z5,PySem.W.mg_none_of X G z6,PySem.W.mg_none_of X G z7,PySem.W.mg_none_of X G z8,PySem.W.mg_none_of X G z9,PySem.W.mg_none_of X G z10,PySem.W.mg_none_of X G z11,PySem.W.mg_none_of X G z12,PySem.W.mg_none_of X G z13⟩;exact⟨_,λs v=>.of_eq rfl,λbase _ _=>(tQ T hkd).F.imp λvs H Q E h=>h _⟩
def walk{l:PySem.W.OpenLaw}{q:Program}{loose:List Str}{XP:(Str->Option Value)->Heap->Prop}{YP:World->Heap->Prop}{d:DefRec}{K:Params->zzA}(hn:l.most=some 63)(hdf:d.params.defaults=[])
 (hY:∀(w:World) (h:Heap),YP w h->(K w.params).In h) (hm:∀ns:List Int,ns.length<=63->G3 [(true,.lst (ns.map D.int))]=some (.lf true (.bl true)))
 (F:∀(w:World) (mg:Str->Option Value) (fa:Addr) (h:Heap),(K w.params).In h->h.Ns mainGlobals mg->mg d.name=some (.ref fa)->
  ∃fd:FuncData,(∀(s:Shared) (u:Value),BindsTo s fd ⟨[u],[]⟩ [("_law_script",u)])/\∀base:Heap,(K w.params).In base->base.Ns mainGlobals mg->FnOk l.prog w (K w.params) mg base B4 9 fa fd ["_law_script"] (qL (K w.params) G3)):
 PySem.W.WalkO q loose XP YP l.row.toRowW d [] (λf vs=>PySem.call f vs):=
 L2.walk_of (n:=63) (k:=9) (x:="_law_script") (CX:=λ_=>B4) (sp:=λw=>qL (K w.params) G3) hn (by decide) hdf ⟨rfl,by decide,by decide,rfl⟩ hY F (λ_ _ a ns hl _ hS kd=>J5 (hm ns hl) hS) λ_ _ _ _ _ z=>z
end G57
end
section
namespace PP
abbrev zC(n:Nat)(x:Int):Prop:=0<=x/\x<(n:Int)
def least{P:Nat->Prop}:∀(x:Nat),P x->∃y,P y/\y<=x/\∀z,z<y->¬P z:=λx=>by
 induction x using Nat.strongRecOn with
 |_ x c=>
  intro h
  by_cases e:∃z,z<x/\P z
  . obtain⟨z,a,b⟩:=e;obtain⟨y,d,g,f⟩:=c z a b;exact⟨y,d,by omega,f⟩
  . exact⟨x,h,zzN _,λz a b=>e ⟨z,a,b⟩⟩
noncomputable def cnt(P:Nat->Prop):Nat->Nat
 |0=>0
 |n+1=>cnt P n + @ite Nat (P n) (Classical.propDecidable _) 1 0
theorem JD(P:Nat->Prop):∀n,cnt P n<=n
 |0=>zzN _
 |n+1=>by
  have:=JD P n;unfold cnt
  split<;>omega
theorem Eb{P Q:Nat->Prop}:∀n,(∀v,v<n->P v->Q v)->cnt P n<=cnt Q n
 |0,_=>zzN _
 |n+1,h=>by
  have a:=Eb n λv b=>h v (by omega);unfold cnt
  by_cases p:P n
  . rw[if_pos p,if_pos (h n (by omega) p)];omega
  . rw[if_neg p];omega
theorem OA{P Q:Nat->Prop}{v:Nat}:∀n,(∀v,v<n->P v->Q v)->v<n->Q v->¬P v->cnt P n<cnt Q n
 |0,_,a,_,_=>absurd a (Nat.not_lt_zero _)
 |n+1,h,a,q,b=>by
  unfold cnt
  by_cases e:v=n
  . subst e;have c:=Eb v λw d=>h w (by omega);rw[if_neg b,if_pos q];omega
  . have c:=OA n (λw d=>h w (by omega)) (by omega) q b
    by_cases p:P n
    . rw[if_pos p,if_pos (h n (by omega) p)];omega
    . rw[if_neg p];omega
section
variable{β δ:Type}{H:Int->β}{f:δ->Int->Int}{P:δ->Prop}{n:Nat}
def fr(f:δ->Int->Int)(r:List δ)(v:Int):Int:=r.foldl (λw d=>f d w) v
def Ek(H:Int->β)(f:δ->Int->Int)(P:δ->Prop)(k:Nat)(u v:Int):Prop:=∀r:List δ,(∀d ∈ r,P d)->r.length<=k->H (fr f r u)=H (fr f r v)
theorem Ek.symm{k:Nat}{u v:Int}(h:Ek H f P k u v):Ek H f P k v u:=λr a b=>(h r a b).symm
theorem Ek.trans{k:Nat}{u v w:Int}(h:Ek H f P k u v)(g:Ek H f P k v w):Ek H f P k u w:=λr a b=>(h r a b).trans (g r a b)
def Ek.refl{k:Nat}{u:Int}:Ek H f P k u u:=λ_ _ _=>rfl
def Ek.mono{j k:Nat}{u v:Int}(h:Ek H f P k u v)(g:j<=k):Ek H f P j u v:=λr a b=>h r a (zzO b g)
def Ek.succ{k:Nat}{u v:Int}:Ek H f P (k+1) u v ↔ Ek H f P k u v/\∀d,P d->Ek H f P k (f d u) (f d v):=
 ⟨λh=>⟨h.mono (zyX _),λd e r a b=>h (d::r) (λx c=>(zzC.mp c).elim (λz=>z ▸ e) (a x)) (Nat.succ_le_succ b)⟩,λ⟨h,g⟩ r a b=>by
  cases r with
  |nil=>exact h [] a (Nat.zero_le _)
  |cons d r=>exact g d (a d (zzF ..)) r (λx c=>a x (zzD _ c)) (Nat.le_of_succ_le_succ b)⟩
def Ek.zero{u v:Int}:Ek H f P 0 u v ↔ H u=H v:=⟨λh=>h [] (λ_ m=>nomatch m) (zzN _),λh r _ a=>by
 cases r with
 |nil=>exact h
 |cons=>exact absurd a (Nat.not_succ_le_zero _)⟩
abbrev St(H:Int->β)(f:δ->Int->Int)(P:δ->Prop)(n k:Nat):Prop:=∀u v:Nat,u<n->v<n->Ek H f P k u v->Ek H f P (k+1) u v
abbrev Rep(H:Int->β)(f:δ->Int->Int)(P:δ->Prop)(k v:Nat):Prop:=∀u:Nat,u<v->¬Ek H f P k (u:Int) (v:Int)
def OM{k:Nat}(h:¬St H f P n k):cnt (Rep H f P k) n<cnt (Rep H f P (k+1)) n:=by
 have j:∀v,v<n->Rep H f P k v->Rep H f P (k+1) v:=λv _ a u b z=>a u b (z.mono (zyX _));have⟨u,v,b,a,e,d⟩:∃u v:Nat,u<n/\v<n/\Ek H f P k u v/\¬Ek H f P (k+1) u v:=Classical.byContradiction λz=>h λu v b a e=>Classical.byContradiction λd=>z ⟨u,v,b,a,e,d⟩;obtain⟨c,l,r,m⟩:=least (P:=λw=>Ek H f P k (u:Int) (w:Int)) u .refl;have⟨x,hx,ex,nx⟩:∃x:Nat,x<n/\Ek H f P k (u:Int) (x:Int)/\¬Ek H f P (k+1) (x:Int) (c:Int):=by
  by_cases z:Ek H f P (k+1) (u:Int) (c:Int)
  . exact⟨v,a,e,λy=>d (z.trans y.symm)⟩
  . exact⟨u,b,.refl,z⟩
 obtain⟨w,g,s,o⟩:=least (P:=λw=>Ek H f P (k+1) (x:Int) (w:Int)) x .refl;have i:=ex.trans (g.mono (zyX _));have p:c<w:=by
  have:c<=w:=Nat.le_of_not_lt λz=>m w z i
  rcases Nat.lt_or_eq_of_le this with z|z
  . exact z
  . exact absurd (z ▸ g) nx
 exact OA n j (by omega) (λy q z=>o y q (g.trans z.symm)) λz=>z c p (l.symm.trans i)
def stable(n1:1<=n):∃k,k<n/\St H f P n k:=Classical.byContradiction λz=>by
 have b:∀k,k<=n->k+1<=cnt (Rep H f P k) n:=λk=>by
  induction k with
  |zero=>
   intro _;obtain⟨m,rfl⟩:∃m,n=m+1:=⟨n-1,by omega⟩;have g:cnt (λv=>v=0) (m+1)<=cnt (Rep H f P 0) (m+1):=Eb _ λv _ c u d=>by subst c;exact absurd d (Nat.not_lt_zero _)
   have e:∀j,1<=cnt (λv=>v=0) (j+1):=λj=>by
    induction j with
    |zero=>unfold cnt;rw[if_pos rfl];omega
    |succ j a=>unfold cnt;omega
   have:=e m;omega
  |succ k a=>
   intro i;have:=a (by omega);have:=OM λh=>z ⟨k,by omega,h⟩;omega
 have:=b n (zzN _);have:=JD (Rep H f P n) n;omega
theorem St.more(hf:∀d v,P d->zC n v->zC n (f d v)){k:Nat}(h:St H f P n k):∀j (u v:Int),zC n u->zC n v->Ek H f P k u v->Ek H f P (k+j) u v
 |0,_,_,_,_,e=>e
 |j+1,u,v,c,g,e=>by
  have s:∀a b:Int,zC n a->zC n b->Ek H f P k a b->Ek H f P (k+1) a b:=λa b m o l=>by
   have:=h a.toNat b.toNat (by omega) (by omega);rw[show((a.toNat:Nat):Int)=a by omega,show((b.toNat:Nat):Int)=b by omega]at this;exact this l
  refine Ek.succ.mpr ⟨St.more hf h j u v c g e,λd i=>?_⟩;exact St.more hf h j _ _ (hf d u i c) (hf d v i g) ((Ek.succ.mp (s u v c g e)).2 d i)
end
end PP
end
section
namespace G57
abbrev zC(n:Nat)(x:Int):Prop:=0<=x/\x<(n:Int)
structure LJ(n:Nat)(j:Int->Int->Int)(e:Int):Prop where
 cl:∀a b,zC n a->zC n b->zC n (j a b)
 ce:zC n e
 ul:∀a,zC n a->j e a=a
 ur:∀a,zC n a->j a e=a
 as:∀a b c,zC n a->zC n b->zC n c->j (j a b) c=j a (j b c)
structure LD(n m:Nat)(j:Int->Int->Int)(e:Int)(d:Int->Int->Int):Prop where
 cl:∀c a,zC m c->zC n a->zC n (d c a)
 em:d 0 e=e
 dn:∀a i b k,zC n a->zC m i->zC n b->zC m k->d ((i+k)%m) (j a b)=j (d i a) (d k b)
def NI{x:Int}{n:Nat}(hn:0<n):zC n (x%n):=⟨zyN _ (by omega),zyH _ (by omega)⟩
def LJ.congr{n:Nat}{j j':Int->Int->Int}{e:Int}(h:LJ n j e)(q:∀a b,zC n a->zC n b->j' a b=j a b):LJ n j' e:=by
 refine⟨λa b d f=>by rw[q a b d f];exact h.cl a b d f,h.ce,λa d=>by rw[q _ _ h.ce d];exact h.ul a d,λa d=>by rw[q _ _ d h.ce];exact h.ur a d,λa b c d f g=>?_⟩;rw[q a b d f,q b c f g,q _ _ (h.cl a b d f) g,q _ _ d (h.cl b c f g)];exact h.as a b c d f g
def LD.congr{n m:Nat}{j j':Int->Int->Int}{e:Int}{d d':Int->Int->Int}(hm:0<m)(hj:LJ n j e)(h:LD n m j e d)(q:∀a b,zC n a->zC n b->j' a b=j a b)(p:∀c a,zC m c->zC n a->d' c a=d c a):LD n m j' e d':=by
 refine⟨λc a r f=>by rw[p c a r f];exact h.cl c a r f,by rw[p 0 e ⟨by omega,by omega⟩ hj.ce];exact h.em,λa i b k f l g o=>?_⟩;rw[q a b f g,p _ _ (NI hm) (hj.cl a b f g),p i a l f,p k b o g,q _ _ (h.cl i a l f) (h.cl k b o g)];exact h.dn a i b k f l g o
def jS(n:Nat)(a b:Int):Int:=(a+b)%n
def jM(a b:Int):Int:=if b > a then b else a
def jL(a b:Int):Int:=if b=0 then a else b
def jF(a b:Int):Int:=if a=0 then b else a
def p1(a:Int):Int:=if a=1\/a=3 then 1 else 0
def p2(a:Int):Int:=if a=0\/a=3 then 1 else 0
noncomputable def rL(u v:Int):Int:=if u=0 then(if v=0 then 2 else 0)else(if v=0 then 1 else 3)
def pk(u v k:Int):Int:=if k=0 then u else v
def j4(a b:Int):Int:=rL (pk (p1 b) (p2 b) (p1 a)) (pk (p1 b) (p2 b) (p2 a))
def q_{n:Nat}(hn:0<n):LJ n (jS n) 0:=by
 refine⟨λa b _ _=>NI hn,⟨by omega,by omega⟩,λa d=>?_,λa d=>?_,λa b c _ _ _=>?_⟩
 . unfold jS;rw[Int.zero_add,Int.emod_eq_of_lt d.1 d.2]
 . unfold jS;rw[Int.add_zero,Int.emod_eq_of_lt d.1 d.2]
 . unfold jS;rw[Int.emod_add_emod,Int.add_emod_emod,Int.add_assoc]
def rM{n:Nat}(hn:0<n):LJ n jM 0:=by
 refine⟨λa b d e=>?_,⟨by omega,by omega⟩,λa d=>?_,λa d=>?_,λa b c _ _ _=>?_⟩<;>unfold jM<;>(try unfold jM)<;>grind
def rq{n:Nat}(hn:0<n):LJ n jL 0:=by
 refine⟨λa b d e=>?_,⟨by omega,by omega⟩,λa d=>?_,λa d=>?_,λa b c _ _ _=>?_⟩<;>unfold jL<;>grind
def rX{n:Nat}(hn:0<n):LJ n jF 0:=by
 refine⟨λa b d e=>?_,⟨by omega,by omega⟩,λa d=>?_,λa d=>?_,λa b c _ _ _=>?_⟩<;>unfold jF<;>grind
def four{P:Int->Prop}(h0:P 0)(h1:P 1)(h2:P 2)(h3:P 3){a:Int}(h:zC 4 a):P a:=by
 rcases(show a=0\/a=1\/a=2\/a=3 by have:=h.1;have:=h.2;omega)with rfl|rfl|rfl|rfl<;>assumption
def f4{P:Int->Prop}(h:∀a ∈ ([0,1,2,3]:List Int),P a){a:Int}(ha:zC 4 a):P a:=four (h 0 (by decide)) (h 1 (by decide)) (h 2 (by decide)) (h 3 (by decide)) ha
def sU:LJ 4 j4 0:=by
 refine⟨λa b d e=>?_,⟨by decide,by decide⟩,λa d=>?_,λa d=>?_,λa b c d e f=>?_⟩
 . revert b;refine f4 (P:=λa=>∀b,zC 4 b->zC 4 (j4 a b)) ?_ d
   have:∀a ∈ ([0,1,2,3]:List Int),∀b ∈ ([0,1,2,3]:List Int),zC 4 (j4 a b):=by decide
   exact λa m b e=>f4 (this a m) e
 . exact f4 (P:=λa=>j4 0 a=a) (by decide) d
 . exact f4 (P:=λa=>j4 a 0=a) (by decide) d
 . have:∀a ∈ ([0,1,2,3]:List Int),∀b ∈ ([0,1,2,3]:List Int),∀c ∈ ([0,1,2,3]:List Int),j4 (j4 a b) c=j4 a (j4 b c):=by decide
   refine f4 (λa m=>f4 (λb g=>f4 (this a m b g) f) e) d
def oF{n m:Nat}{g x0 x1:Int}(hn:0<n)(hm:0<m)(g0:0<g)(gn:g ∣ n)(gm:g ∣ m):LD n m (jS n) 0 (λc a=>(a*x0+c*((n:Int)/g)*x1)%n):=by
 refine⟨λc a _ _=>NI hn,by simp,λa i b k _ _ _ _=>?_⟩;obtain⟨t,e⟩:=gm;have h:(m:Int)*((n:Int)/g)=n*t:=by
  obtain⟨s,f⟩:=gn;rw[f,Int.mul_ediv_cancel_left _ (by omega),e];grind
 show(_:Int)=jS n _ _;unfold jS;rw[<-Int.add_emod];generalize (n:Int)/g=d at h;rw[Int.emod_def (i+k) m,Int.emod_def (a+b) n];generalize (i+k)/(m:Int)=q;generalize (a+b)/(n:Int)=p;rw[show((a+b)-(n:Int)*p)*x0+((i+k)-(m:Int)*q)*d*x1=(a*x0+i*d*x1+(b*x0+k*d*x1))+(n:Int)*(-(p*x0)-t*q*x1) by grind,Int.add_mul_emod_self_left]
def p4{n m:Nat}{r:Int->Int}(hm:0<m)(h0:r 0=0)(hc:∀a,zC n a->zC n (r a))(hr:∀a b,zC n a->zC n b->a<=b->r a<=r b):LD n m jM 0 (λ_ a=>r a):=by
 refine⟨λc a _ d=>hc a d,h0,λa i b k d _ e _=>?_⟩;show r (jM a b)=jM (r a) (r b);unfold jM;have f:=hr a b d e;have g:=hr b a e d
 split<;>split<;>grind
def og{n m:Nat}{r:Int->Int}(h0:r 0=0)(hc:∀a,zC n a->zC n (r a))(hr:∀a,zC n a->a≠0->r a≠0):LD n m jL 0 (λ_ a=>r a):=by
 refine⟨λc a _ d=>hc a d,h0,λa i b k d _ e _=>?_⟩;show r (jL a b)=jL (r a) (r b);unfold jL;have f:=hr b e
 split<;>split<;>grind
def oy{n m:Nat}{r:Int->Int}(h0:r 0=0)(hc:∀a,zC n a->zC n (r a))(hr:∀a,zC n a->a≠0->r a≠0):LD n m jF 0 (λ_ a=>r a):=by
 refine⟨λc a _ d=>hc a d,h0,λa i b k d _ e _=>?_⟩;show r (jF a b)=jF (r a) (r b);unfold jF;have f:=hr a d
 split<;>split<;>grind
def pQ{m:Nat}{r:Int->Int}(h:(∀a,zC 4 a->r a=a)\/(∀a,zC 4 a->r a=(if a=2 then 3 else if a=3 then 2 else a))):LD 4 m j4 0 (λ_ a=>r a):=by
 rcases h with h|h
 . refine⟨λc a _ d=>by show zC 4 (r a);rw[h a d];exact d,h 0 ⟨by decide,by decide⟩,λa i b k d _ e _=>?_⟩;show r (j4 a b)=j4 (r a) (r b);rw[h a d,h b e,h _ (sU.cl a b d e)]
 . refine⟨λc a _ d=>by show zC 4 (r a);rw[h a d];exact f4 (P:=λa=>zC 4 (if a=2 then 3 else if a=3 then 2 else a)) (by decide) d,h 0 ⟨by decide,by decide⟩,λa i b k d _ e _=>?_⟩;show r (j4 a b)=j4 (r a) (r b);rw[h a d,h b e,h _ (sU.cl a b d e)];have:∀a ∈ ([0,1,2,3]:List Int),∀b ∈ ([0,1,2,3]:List Int),(if j4 a b=2 then 3 else if j4 a b=3 then 2 else j4 a b)=j4 (if a=2 then 3 else if a=3 then 2 else a) (if b=2 then 3 else if b=3 then 2 else b):=by decide
   exact f4 (λa m=>f4 (this a m) e) d
def Hj{n1 n2:Nat}{x y:Int}(hx:zC n1 x)(hy:zC n2 y):zC (n1*n2) (x*n2+y):=by
 have b:0<=x*n2:=Int.mul_nonneg hx.1 (by omega);have a:x*n2<=((n1:Int)-1)*n2:=Int.mul_le_mul_of_nonneg_right (by have:=hx.2;omega) (by omega);rw[Int.sub_mul,Int.one_mul]at a;refine⟨by have:=hy.1;omega, ?_⟩;rw[zzV];have:=hy.2;omega
def yf{n1 n2:Nat}{p:Int}(h2:0<n2)(h:zC (n1*n2) p):zC n1 (p/n2)/\zC n2 (p%n2):=
 ⟨⟨Int.ediv_nonneg h.1 (by omega),Int.ediv_lt_of_lt_mul (by omega) (by have:=h.2;rw[zzV]at this;exact this)⟩,NI h2⟩
def T7{n2:Nat}{x y:Int}(hy:zC n2 y):(x*n2+y)/n2=x/\(x*n2+y)%n2=y:=by
 have a:(n2:Int)≠0:=by have:=hy.1;have:=hy.2;omega
 constructor
 . rw[Int.add_comm,Int.add_mul_ediv_right _ _ a,Int.ediv_eq_zero_of_lt hy.1 hy.2,Int.zero_add]
 . rw[Int.add_comm,Int.add_mul_emod_self_right,Int.emod_eq_of_lt hy.1 hy.2]
def sM{n2:Nat}{p:Int}:(p/n2)*n2+p%n2=p:=by rw[Int.mul_comm];exact Int.mul_ediv_add_emod p n2
noncomputable def jB(n2:Nat)(j1 j2:Int->Int->Int)(p q:Int):Int:=j1 (p/n2) (q/n2)*n2+j2 (p%n2) (q%n2)
def dB(n2:Nat)(d1 d2:Int->Int->Int)(c p:Int):Int:=d1 c (p/n2)*n2+d2 c (p%n2)
def pH{n1 n2:Nat}{j1 j2:Int->Int->Int}(h1:LJ n1 j1 0)(h2:LJ n2 j2 0)(p2:0<n2):LJ (n1*n2) (jB n2 j1 j2) 0:=by
 refine⟨λa b d e=>?_, ?_,λa d=>?_,λa d=>?_,λa b c d e f=>?_⟩
 . exact Hj (h1.cl _ _ (yf p2 d).1 (yf p2 e).1) (h2.cl _ _ (yf p2 d).2 (yf p2 e).2)
 . have:=Hj h1.ce h2.ce;simpa using this
 . unfold jB;rw[Int.zero_ediv,Int.zero_emod,h1.ul _ (yf p2 d).1,h2.ul _ (yf p2 d).2,sM]
 . unfold jB;rw[Int.zero_ediv,Int.zero_emod,h1.ur _ (yf p2 d).1,h2.ur _ (yf p2 d).2,sM]
 . unfold jB;rw[(T7 (h2.cl _ _ (yf p2 d).2 (yf p2 e).2)).1,(T7 (h2.cl _ _ (yf p2 d).2 (yf p2 e).2)).2,(T7 (h2.cl _ _ (yf p2 e).2 (yf p2 f).2)).1,(T7 (h2.cl _ _ (yf p2 e).2 (yf p2 f).2)).2,h1.as _ _ _ (yf p2 d).1 (yf p2 e).1 (yf p2 f).1,h2.as _ _ _ (yf p2 d).2 (yf p2 e).2 (yf p2 f).2]
def om{n1 n2 m:Nat}{j1 j2 d1 d2:Int->Int->Int}(h1:LJ n1 j1 0)(h2:LJ n2 j2 0)(p2:0<n2)(e1:LD n1 m j1 0 d1)(e2:LD n2 m j2 0 d2):LD (n1*n2) m (jB n2 j1 j2) 0 (dB n2 d1 d2):=by
 refine⟨λc a h d=>Hj (e1.cl _ _ h (yf p2 d).1) (e2.cl _ _ h (yf p2 d).2), ?_,λa i b k d f e g=>?_⟩
 . unfold dB;rw[Int.zero_ediv,Int.zero_emod,e1.em,e2.em,Int.zero_mul,Int.add_zero]
 . unfold jB dB;rw[(T7 (h2.cl _ _ (yf p2 d).2 (yf p2 e).2)).1,(T7 (h2.cl _ _ (yf p2 d).2 (yf p2 e).2)).2,(T7 (e2.cl i _ f (yf p2 d).2)).1,(T7 (e2.cl i _ f (yf p2 d).2)).2,(T7 (e2.cl k _ g (yf p2 e).2)).1,(T7 (e2.cl k _ g (yf p2 e).2)).2,e1.dn _ _ _ _ (yf p2 d).1 f (yf p2 e).1 g,e2.dn _ _ _ _ (yf p2 d).2 f (yf p2 e).2 g]
def p5{n:Nat}{j:Int->Int->Int}{F B:Int->Int}(h:LJ n j 0)(hF:∀a,zC n a->zC n (F a))(hB:∀a,zC n a->zC n (B a))(hFB:∀a,zC n a->F (B a)=a)(hBF:∀a,zC n a->B (F a)=a):LJ n (λa b=>F (j (B a) (B b))) (F 0):=by
 refine⟨λa b d e=>hF _ (h.cl _ _ (hB a d) (hB b e)),hF 0 h.ce,λa d=>?_,λa d=>?_,λa b c d e f=>?_⟩
 . show F (j (B (F 0)) (B a))=a;rw[hBF 0 h.ce,h.ul _ (hB a d),hFB a d]
 . show F (j (B a) (B (F 0)))=a;rw[hBF 0 h.ce,h.ur _ (hB a d),hFB a d]
 . show F (j (B (F (j (B a) (B b)))) (B c))=F (j (B a) (B (F (j (B b) (B c)))));rw[hBF _ (h.cl _ _ (hB a d) (hB b e)),hBF _ (h.cl _ _ (hB b e) (hB c f)),h.as _ _ _ (hB a d) (hB b e) (hB c f)]
def pW{n m:Nat}{j d:Int->Int->Int}{F B:Int->Int}(hm:0<m)(h:LJ n j 0)(e:LD n m j 0 d)(hF:∀a,zC n a->zC n (F a))(hB:∀a,zC n a->zC n (B a))(hFB:∀a,zC n a->F (B a)=a)(hBF:∀a,zC n a->B (F a)=a):LD n m (λa b=>F (j (B a) (B b))) (F 0) (λc a=>F (d c (B a))):=by
 refine⟨λc a p f=>hF _ (e.cl _ _ p (hB a f)), ?_,λa i b k f l g o=>?_⟩
 . show F (d 0 (B (F 0)))=F 0;rw[hBF 0 h.ce,e.em]
 . show F (d ((i+k)%m) (B (F (j (B a) (B b)))))=F (j (B (F (d i (B a)))) (B (F (d k (B b)))));rw[hBF _ (h.cl _ _ (hB a f) (hB b g)),hBF _ (e.cl _ _ l (hB a f)),hBF _ (e.cl _ _ o (hB b g)),e.dn _ _ _ _ (hB a f) l (hB b g) o]
def TC{n k:Nat}(h:n<=8)(hk:8<=k:=by decide):n<=k:=zzO h hk
def T5{n:Nat}(h:1<=n):(0:Int)<n:=Int.natCast_pos.mpr h
def Gb{n:Nat}(h:1<=n):0<n:=h
def Tw{n:Nat}(h:2<=n):0<n:=zzO (by decide) h
def TV{x k:Int}(h:0<=x/\x<k) : -(10 ^ 200:Int)<x:=Int.lt_of_lt_of_le (by decide) h.1
def TN{x:Int}(h:0<=x/\x<2147483399):x<10 ^ 200:=Int.lt_trans h.2 (by decide)
def TR{l i m:Nat}(h:m<=8)(e:l=0+i)(hi:i<m):l<1000:=by rw[e,zyY];exact zzK hi (zzO h (by decide))
def TB(i:Nat):0+i+1=i+1:=by rw[zyY]
def TY{l m:Nat}(h:l=0+m):l=m:=by rw[h,zyY]
def Ga{l k:Nat}{a:Int}(h:l=k)(hk:a<(k:Int):=by decide):a<(l:Int):=h ▸ hk
def tS{a:Int}{n:Nat}(h0:0<=a)(h1:a<n):a.toNat<n:=Int.ofNat_lt.mp (by rw[zyZ h0];exact h1)
def b6{n:Nat}(h:n<=6):(n:Int)<10 ^ 200:=Int.lt_of_le_of_lt (Int.ofNat_le.mpr h) (by decide)
def Tu{n:Nat}(h:n<=8):(n:Int)<10 ^ 200:=Int.lt_of_le_of_lt (Int.ofNat_le.mpr h) (by decide)
def TH(n:Nat) : -(10 ^ 200:Int)<n:=Int.lt_of_lt_of_le (by decide) (Int.natCast_nonneg n)
def mU{n:Nat}{k:Int}(h:n<=8)(hk:8<k:=by decide):(n:Int)<k:=Int.lt_of_le_of_lt (Int.ofNat_le.mpr h) hk
def iT{n:Nat}{x:Int}(h:zC n x):x.toNat<n:=Int.ofNat_lt.mp (by rw[zyZ h.1];exact h.2)
def iC{n:Nat}{x:Int}(h:zC n x):((x.toNat:Nat):Int)=x:=zyZ h.1
def zI(i:Nat):(0:Int)<=0+i:=by rw[Int.zero_add];exact Int.natCast_nonneg i
def TL{x:Int}(h:0<=x) : -(10 ^ 200:Int)<x:=Int.lt_of_lt_of_le (by decide) h
def T4{x:Int}{n:Nat}(h:x<(n:Int))(hn:n<=8):x<10 ^ 200:=Int.lt_trans h (Tu hn)
def zw(r:List Int)(v:Int):Int:=(r[v.toNat]?).getD 0
def yt(J:List (List Int))(w v:Int):Int:=zw ((J[w.toNat]?).getD []) v
open PySem PySem.Spec PyProof.Rows L2 PF
local macro_rules | `(tactic| trivial)=>`(tactic| first|with_reducible first|assumption|exact Int.natCast_nonneg _|exact Nat.le_refl _|exact Int.le_refl _|exact rfl|exact TC (by assumption)|exact T5 (by assumption)|exact np2 (by assumption)|exact Gb (by assumption)|exact Tw (by assumption)|exact Int.natCast_pos.mpr (by assumption)|exact Nat.le_trans (by assumption) (by decide)|exact TH _|exact Tu (by assumption)|exact mU (by assumption)|exact zI _|exact TL (by assumption)|exact T4 (by assumption) (by assumption)|exact iL (by assumption)|exact iU (by assumption) (by assumption)|exact iC (by assumption)|exact iT (by assumption)|exact TV (by assumption)|exact TN (by assumption)|exact TR (by assumption) (by assumption) (by assumption)|exact TB _|exact TY (by assumption)|exact Ga (by assumption)|exact Int.toNat_of_nonneg (by assumption)|exact tS (by assumption) (by assumption)|exact b6 (by assumption)|exact Int.emod_nonneg _ (by decide)|exact Int.emod_lt_of_pos _ (by decide)|decide|omega)
abbrev xf(x:Int):O:=.lf true (.int x)
abbrev sI(x:Int):Option O:=some (xf x)
abbrev sT(d:D):Option O:=some (.lf true d)
abbrev sN(os:List O):Option O:=some (.nd .ls os)
abbrev TZ:Type:=List (List Int)
abbrev DZ:Type:=List (Str×TZ)
abbrev SS:Type:=List (Str×List Int)
def XB{f:EF}{as as1:AS}{o:O}(h:f as=some (.ow o,as1))(hs:o.str=true):zT f as=some (.rt o):=by
 unfold zT;rw[h];show((if o.str=true then some o else none).bind _)=_;rw[if_pos hs];rfl
def LV{n:Nat}(h:n<=1000000):n<=sizeLine:=zzO h (by decide)
theorem xj:∀xs:List Int,(xs.map xf).all O.isLf=true/\O.strs (xs.map xf)=true/\O.toDs (xs.map xf)=xs.map D.int
 | []=>⟨rfl,rfl,rfl⟩
 |x::r=>⟨(xj r).1,(xj r).2.1,congrArg (D.int x :: ·) (xj r).2.2⟩
def V8(xs:List Int):(xs.map D.int).map (O.lf true)=xs.map xf:=by rw[zyB];rfl
def Da{as:AS}{i:Nat}{os:List O}{fl fh:OF}{lo hi:Option Int}(h:as[i]? = some (sN os))(hl:os.all O.isLf=true)(hs:O.strs os=true)(h1:fl as=some (lo,as))(h2:fh as=some (hi,as)):
 Qr (fV i) fl fh T6 as=some (.ow (.nd .ls ((cutD (O.toDs os) lo hi).map (O.lf true))),as):=by
 unfold Qr;rw[Xc h];show((fl as).bind _)=_;rw[h1];show((fh as).bind _)=_;rw[h2];show((RV.view as (.bo i)).bind _)=_;rw[Zo h];have e:(O.nd .ls os).kl=some true:=by simp only[O.kl,hl,if_true,hs]
 rw[e];show(wrap (some true) (.fl (cutD (O.toDs os) lo hi))).bind _=_;show(if((cutD (O.toDs os) lo hi).all zN||true)=true then some (RV.ow (.nd .ls ((cutD (O.toDs os) lo hi).map (K8 true))))else none:Option RV).bind _=_;rw[if_pos (by simp),Xy];rfl
def Bc{x:D}{xs:List D}:cutD (x::xs) (some 1) none=xs:=by
 have:=OE (xs:=[x]) (ys:=xs);have e:T6 (.lst ([x]++xs)) (some (([x]:List D).length:Int)) none=some (.fl (cutD (x::xs) (some 1) none)):=rfl;rw[e]at this;injection this with this
 injection this
abbrev oq:SF:=(zm (zz true 3 (f2 (f2 (f2 (f2 zD zD zE) (f2 (fC (.int 48271)) zD zE) zA) zP zA) (fC (.int 2147483647)) zB))
 (yB (yZ 2 (dC (f2 (f2 (f2 zD (fC (.int 40692)) zE) (f2 (fC (.int 7)) zP zE) zA) (fC (.int 2147483399)) zB) dN) y9)))
def PR(ys:List Int)(w:Int):(ys++[w]).map xf=ys.map xf++[O.lf true (.int w)]:=by rw[zyM];rfl
theorem RN{A B:Option O}:∀(n:Nat) (k x:Int) (ys:List Int) (e4:Option O),0<=k->k+n<=1000->0<=x->x<2 ^ 40->ys.length+n<=1000->(∀y ∈ ys,0<=y/\y<2147483399)->∃(x':Int) (zs:List Int) (e4':Option O),zs.length=ys.length+n/\(∀z ∈ zs,0<=z/\z<2147483399)/\
 forL vp oq (y6 k n) [A,B,sN (ys.map xf),sI x,e4]=some (.nx [A,B,sN (zs.map xf),sI x',e4'])
 |0,k,x,a,f,_,_,_,_,_,h=>⟨x,a,f,rfl,h,rfl⟩
 |n+1,k,x,a,f,v,l,b,c,w,h=>by
  have g:=zyN (x*x+48271*x+k) (show(2147483647:Int)≠0 by decide);have i:=zyH (x*x+48271*x+k) (show(0:Int)<2147483647 by decide);have o:=zyN ((x*x+48271*x+k)%2147483647*40692+7*k) (show(2147483399:Int)≠0 by decide);have p:=zyH ((x*x+48271*x+k)%2147483647*40692+7*k) (show(0:Int)<2147483399 by decide);obtain⟨q,r,d,s,t,j⟩:=RN n (k+1) ((x*x+48271*x+k)%2147483647) (a++[((x*x+48271*x+k)%2147483647*40692+7*k)%2147483399]) (sI k) (by trivial) (by trivial) g (Int.lt_trans i (by decide)) (by rw[zzJ];show a.length+1+n<=_;trivial) (λz m=>by
   rcases zzM.mp m with m|m
   . exact h z m
   . rw[zzR.mp m];exact⟨o,p⟩)
  refine⟨q,r,d,by rw[s,zzJ];show a.length+1+n=_;trivial,t, ?_⟩;rw[PR]at j;rw[QE];have e:=zO (Int.lt_of_lt_of_le (by decide) b) (Int.lt_trans c (by decide));have u:k.natAbs<big:=zO (by trivial) (by trivial);exact y8 rfl (zV (yj (yc (yC (yC (yV (za rfl) (za rfl) e e) (yV zb (za rfl) (zO (by decide) (by decide)) e)) (za rfl)) zb (by decide)) (zl rfl))
   (Hs rfl (by rw[zzB];exact xF (by trivial)) (yc (yC (yV (za rfl) zb (zO (Int.lt_of_lt_of_le (by decide) g) (Int.lt_trans i (by decide))) (zO (by decide) (by decide))) (yV zb (za rfl) (zO (by decide) (by decide)) u)) zb (by decide)))) j
def BH{s:Bool}{c m:Int}(h0:0<=m)(h1:m<=900):∃xs:List Int,(xs.length:Int)=m/\(∀x ∈ xs,0<=x/\x<2147483399)/\yu [(true,.int c),(true,.int m)]=sN (xs.map xf):=by
 have p:=zyN c (show(2147483647:Int)≠0 by decide);have q:=zyH c (show(0:Int)<2147483647 by decide);obtain⟨d,e,f,a,g,h⟩:=RN (m+1).toNat 0 (c%2147483647+48271) [] none (by trivial) (by trivial) (by trivial) (by trivial) (by show 0+_<=_;trivial) (λ_ m=>nomatch m);cases e with
 |nil=>rw[List.length_nil]at a;simp at a;trivial
 |cons z r=>
  refine⟨r,by rw[zzT]at a;simp at a;trivial,λx j=>g x (zzD _ j), ?_⟩;obtain⟨k,l,n⟩:=xj (z::r);have b:=Da (as:=[sI c,sI m,sN ((z::r).map xf),sI d,f]) (i:=2) (fl:=oS zW) (fh:=oN) rfl k l rfl rfl;rw[n]at b;have o:cutD ((z::r).map D.int) (some 1) none=r.map D.int:=Bc;rw[o,V8]at b;refine vr rfl (zV (yI (xt zJ (wC rfl)) (zl rfl)) (zV (yj (yC (yc (za rfl) zb (by decide)) zb) (zl rfl)) (zV (yH (yO (zg (yC (za rfl) zb) zt) (by trivial) (by trivial)) h) ?_)));exact XB b (xj r).2.1
def wy(xs:List Int):(O.nd .ls (xs.map xf)).str=true/\(O.nd .ls (xs.map xf)).toD = .lst (xs.map D.int):=⟨(xj xs).2.1,congrArg D.lst (xj xs).2.2⟩
abbrev vq(r:List Int):O:=.nd .ls (r.map xf)
abbrev zc(r:List Int):D:=.lst (r.map D.int)
theorem XH:∀T:TZ,O.strs (T.map vq)=true/\O.toDs (T.map vq)=T.map zc
 | []=>⟨rfl,rfl⟩
 |r::T=>⟨by show(O.strs (r.map xf)&&O.strs (T.map vq))=true;rw[(xj r).2.1,(XH T).1];rfl,by
  show D.lst (O.toDs (r.map xf))::O.toDs (T.map vq)=_;rw[(xj r).2.2,(XH T).2];rfl⟩
def VE{g:GF}{fe:EF}{as0 as1:AS}{y:wx}{r:List wx}{o:O}{os:List O}(h1:g y as0=some as1)(h2:fe as1=some (.ow o,as1))(hs:o.str=true)(h3:yR g zH fe as0 r=some os):yR g zH fe as0 (y::r)=some (o::os):=by
 unfold yR;rw[h1];show((fe as1).bind _)=_;rw[h2];show(if o.str=true then _ else _)=_;rw[if_pos hs,h3];rfl
theorem yG:∀(n:Nat) (k:Int),(y6 k n).length=n
 |0,_=>rfl
 |n+1,k=>by rw[QE];exact congrArg (· + 1) (yG n (k+1))
theorem xB{f:D->D->Option Bool}:∀{xs:List D},(∀x ∈ xs,f x x=some true)->GU f xs xs=some true
 | [],_=>rfl
 |x::r,h=>by
  show(f x x).bind _=_;rw[h x (zzF),zyL,xB λy m=>h y (zzD _ m)];rfl
def MO{r:List Int}:xk 60 (zc r) (zc r)=some true:=by
 show GU (xk 59) (r.map D.int) (r.map D.int)=_;refine xB λx m=>?_;obtain⟨i,_,rfl⟩:=zxE.mp m;show some (i==i)=_;simp
theorem Ft:∀{n:Nat}{k:Int}{y:wx},y ∈ y6 k n->∃b:Int,y=(true,.int b)/\k<=b/\b<k+n
 |0,_,_,h=>nomatch h
 |n+1,k,y,h=>by
  rw[QE]at h
  rcases zzC.mp h with rfl|h
  . exact⟨k,rfl,by trivial,by trivial⟩
  . obtain⟨b,e,a,c⟩:=Ft h;exact⟨b,e,by trivial,by trivial⟩
theorem G0{α:Type}(toD:α->D){Q:α->Prop}{g:GF}{fe:EF}{as0:AS}:∀{xs:List wx},(∀y ∈ xs,∃as1 a,g y as0=some as1/\WE fe as1 (toD a)/\Q a)->∃(os:List O) (l:List α),yR g zH fe as0 xs=some os/\O.strs os=true/\O.toDs os=l.map toD/\l.length=xs.length/\∀a ∈ l,Q a
 | [],_=>⟨[],[],rfl,rfl,rfl,rfl,λ_ m=>nomatch m⟩
 |y::s,H=>by
  obtain⟨e,a,f,⟨o,h,d,i⟩,j⟩:=H y (zzF ..);obtain⟨c,l,k,n,p,q,r⟩:=G0 toD λz m=>H z (zzD _ m);refine⟨o::c,a::l,VE f h d k,by show(o.str&&O.strs c)=true;rw[d,n];rfl,by show o.toD::O.toDs c=_;rw[i,p];rfl,congrArg (· + 1) q,λb m=>?_⟩
  rcases zzC.mp m with rfl|m
  . exact j
  . exact r b m
def EO{α:Type}(toD:α->D){Q:α->Prop}{fi:IF}{cap:List (Option Nat)}{g:GF}{fe:EF}{as:AS}{xs:List wx}(h1:fi as=some (xs,as))(hl:xs.length<=1000)(H:∀y ∈ xs,∃as1 a,g y (wk cap as)=some as1/\WE fe as1 (toD a)/\Q a):
 ∃l:List α,l.length=xs.length/\(∀a ∈ l,Q a)/\WE (zq fi cap g zH fe) as (.lst (l.map toD)):=by
 obtain⟨h,l,b,c,d,e,f⟩:=G0 toD H;exact⟨l,e,f,_,ZX h1 (LV (by trivial)) b,c,congrArg D.lst d⟩
def Po{α:Type}(toD:α->D){Q:α->Prop}{fr:AF}{cap:List (Option Nat)}{fe:EF}{as:AS}{n:Nat}{u:Bool}(h1:WA fr as [(u,.int n)])(hl:n<=1000)(H:∀b:Int,0<=b->b<n->∃as1 a,gN 0 (true,.int b) (wk cap as)=some as1/\WE fe as1 (toD a)/\Q a):
 ∃l:List α,l.length=n/\(∀a ∈ l,Q a)/\WE (zq (ya fr yb) cap zG zH fe) as (.lst (l.map toD)):=by
 obtain⟨l,c,d,e⟩:=EO toD (yO h1 (by trivial) (by trivial)) (by rw[yG];trivial) (λy m=>by
  obtain⟨b,rfl,f,g⟩:=Ft m;exact H b f (by trivial))
 rw[yG]at c;exact⟨l,by trivial,d,e⟩
def Oe{f:EF}{as:AS}{x:D}(h:WE f as x):∃o,zT f as=some (.rt o)/\o.str=true/\o.toD=x:=by
 obtain⟨o,b,a,c⟩:=h;exact⟨o,XB b a,a,c⟩
def ym{n m:Nat}{c:SF}{ds:List (Bool×D)}{x:D}(hl:ds.length=m)(h:∃o,c (ZV n ds)=some (.rt o)/\o.str=true/\o.toD=x):RE (wK n m c ds) x:=by
 obtain⟨o,a,b,d⟩:=h;exact⟨o,vr hl a,b,d⟩
abbrev Rt(r:Option Out)(x:D):Prop:=∃o,r=some (.rt o)/\o.str=true/\o.toD=x
def zd{f g:SF}{as as1:AS}{x:D}(h1:f as=some (.nx as1))(h2:Rt (g as1) x):Rt (zm f g as) x:=by
 obtain⟨o,a,b,c⟩:=h2;exact⟨o,zV h1 a,b,c⟩
def y7{f g:SF}{as:AS}{x:D}(h1:Rt (f as) x):Rt (zm f g as) x:=by
 obtain⟨o,a,b,c⟩:=h1;exact⟨o,UZ a,b,c⟩
def wa{c:TF}{f g:SF}{as:AS}{x:D}(h:WT c as true)(h1:Rt (f as) x):Rt (xx c f g as) x:=by
 obtain⟨o,a,b,d⟩:=h1;exact⟨o,wd h a,b,d⟩
def yi{f:EF}{as:AS}{x:D}(h:WE f as x):Rt (zT f as) x:=Oe h
def Row(n:Nat)(r:List Int):Prop:=r.length=n/\∀x ∈ r,0<=x/\x<(n:Int)
def Tab(k n:Nat)(T:TZ):Prop:=T.length=k/\∀r ∈ T,Row n r
abbrev zv(T:TZ):D:=.lst (T.map zc)
def RD{r:List Int}{P:Int->Prop}{k:Int}(h0:0<=k)(h1:k<r.length)(hp:∀x ∈ r,P x):∃x,zk (zc r) (.int k)=some (.im (.int x))/\P x:=by
 have a:k.toNat<r.length:=by trivial
 refine⟨r[k.toNat], ?_,hp _ (zxA a)⟩;have h:=vZ (v:=D.int r[k.toNat]) (by rw[zzI,zzE a];rfl);rw[show((k.toNat:Nat):Int)=k by trivial]at h;show BZ (La _ _)=_;rw[h];rfl
abbrev St(x:Int):Prop:=0<=x/\x<2147483399
def I_{a b:EF}{as:AS}{c:Int}{m:Nat}(hm:m<=900)(ha:WE a as (.int c))(hb:WE b as (.int m)):∃xs:List Int,xs.length=m/\(∀x ∈ xs,St x)/\WE (zp (aC a (aC b aN)) yu) as (zc xs):=by
 obtain⟨d,g,e,f⟩:=BH (s:=true) (m:=m) (by trivial) (by trivial);exact⟨d,by trivial,e,vU ha hb ⟨_,f,(wy d).1,(wy d).2⟩⟩
def Qz{α:Type}{f:α->D}{l:List α}{i:Nat}{p:α}(h:l[i]? = some p):zk (.lst (l.map f)) (.int (i:Int))=some (.im (f p)):=by
 have h:=vZ (v:=f p) (by rw[zzI,h];rfl);show BZ (La _ _)=_;rw[h];rfl
def Pu{n k:Nat}{r:List Int}{v:Int}(hl:r.length=k)(hr:∀x ∈ r,zC n x)(hv:zC k v):zk (zc r) (.int v)=some (.im (.int (zw r v)))/\zC n (zw r v):=by
 have a:v.toNat<r.length:=by rw[hl];have:=hv.1;have:=hv.2;trivial
 have g:=zzE a;have e:zw r v=r[v.toNat]:=by unfold zw;rw[g];rfl
 rw[e];refine⟨?_,hr _ (zxA a)⟩;have:=Qz (f:=D.int) g;rw[show((v.toNat:Nat):Int)=v by have:=hv.1;trivial]at this;exact this
abbrev LC(T:TZ)(w:Int):List Int:=(T[w.toNat]?).getD []
def xQ{k n:Nat}{T:TZ}{w:Int}(hT:Tab k n T)(hw:zC k w):zk (zv T) (.int w)=some (.im (zc (LC T w)))/\Row n (LC T w):=by
 have a:w.toNat<T.length:=by rw[hT.1];have:=hw.1;have:=hw.2;trivial
 have g:=zzE a;unfold LC;rw[g];refine⟨?_,hT.2 _ (zxA a)⟩;have:=Qz (f:=zc) g;rw[show((w.toNat:Nat):Int)=w by have:=hw.1;trivial]at this;exact this
def rowAt{n:Nat}{r:List Int}{v:Int}(hr:Row n r)(hv:zC n v):zk (zc r) (.int v)=some (.im (.int (zw r v)))/\zC n (zw r v):=Pu hr.1 hr.2 hv
theorem E6{α:Type}(toD:α->D){Q:Nat->α->Prop}{g:GF}{fe:EF}{as0:AS}:∀{xs:List wx}(k:Nat),(∀i y,xs[i]? = some y->∃as1 a,g y as0=some as1/\WE fe as1 (toD a)/\Q (k+i) a)->∃(os:List O) (l:List α),yR g zH fe as0 xs=some os/\O.strs os=true/\O.toDs os=l.map toD/\l.length=xs.length/\∀i a,l[i]? = some a->Q (k+i) a
 | [],k,_=>⟨[],[],rfl,rfl,rfl,rfl,λi a h=>by simp at h⟩
 |y::v,k,H=>by
  obtain⟨e,a,f,⟨o,j,d,n⟩,p⟩:=H 0 y rfl;obtain⟨c,l,q,r,s,t,u⟩:=E6 toD (k+1) λi z m=>by
   have:=H (i+1) z (by simpa using m)
   rwa [show k+(i+1)=k+1+i by trivial]at this
  refine⟨o::c,a::l,VE f j d q,by show(o.str&&O.strs c)=true;rw[d,r];rfl,by show o.toD::O.toDs c=_;rw[n,s];rfl,congrArg (· + 1) t,λi b m=>?_⟩;cases i with
  |zero=>simp at m;subst m;exact p
  |succ i=>
   have:=u i b (by simpa using m)
   rwa [show k+1+i=k+(i+1) by trivial]at this
def GG{α:Type}(toD:α->D){Q:Nat->α->Prop}{fi:IF}{cap:List (Option Nat)}{g:GF}{fe:EF}{as:AS}{xs:List wx}(h1:fi as=some (xs,as))(hl:xs.length<=1000)(H:∀i y,xs[i]? = some y->∃as1 a,g y (wk cap as)=some as1/\WE fe as1 (toD a)/\Q i a):
 ∃l:List α,l.length=xs.length/\(∀i a,l[i]? = some a->Q i a)/\WE (zq fi cap g zH fe) as (.lst (l.map toD)):=by
 obtain⟨j,l,b,c,d,e,f⟩:=E6 toD 0 (λi y h=>by rw[zyY];exact H i y h);exact⟨l,e,(λi a h=>by have:=f i a h;rwa [zyY]at this),_,ZX h1 (LV (by trivial)) b,c,congrArg D.lst d⟩
abbrev PU(N n:Nat)(f:Int->Int)(r:List Int):Prop:=r.length=n/\(∀x ∈ r,zC N x)/\∀b,zC n b->zw r b=f b
abbrev RM(k n:Nat)(f:Int->Int->Int)(T:TZ):Prop:=Tab k n T/\∀a b,zC k a->zC n b->yt T a b=f a b
def Lo{N n:Nat}{f:Int->Int}{l:List Int}(hl:l.length=n)(h:∀(i:Nat) a,l[i]? = some a->a=f i/\zC N a):PU N n f l:=by
 refine⟨hl,λx m=>?_,λb c=>?_⟩
 . obtain⟨i,d⟩:=zyV m;exact(h i x d).2
 . have e:b.toNat<l.length:=by rw[hl];have:=c.1;have:=c.2;trivial
   have g:=zzE e;unfold zw;rw[g];show l[b.toNat]=_;rw[(h _ _ g).1,show((b.toNat:Nat):Int)=b by have:=c.1;trivial]
def Xs{k n:Nat}{f:Int->Int->Int}{l:TZ}(hl:l.length=k)(h:∀(i:Nat) r,l[i]? = some r->PU n n (f i) r):RM k n f l:=by
 refine⟨⟨hl,λx m=>?_⟩,λa b c e=>?_⟩
 . obtain⟨i,d⟩:=zyV m;exact⟨(h i x d).1,(h i x d).2.1⟩
 . have j:a.toNat<l.length:=by rw[hl];have:=c.1;have:=c.2;trivial
   have g:=zzE j;unfold yt;rw[g];show zw l[a.toNat] b=_;have:=(h _ _ g).2.2 b e;rw[show((a.toNat:Nat):Int)=a by have:=c.1;trivial]at this;exact this
def Vt{f:Int->Int}{N:Nat}{fr:AF}{cap:List (Option Nat)}{fe:EF}{as:AS}{n:Nat}{u:Bool}(h1:WA fr as [(u,.int n)])(hl:n<=1000)(H:∀b:Int,zC n b->∃as1,gN 0 (true,.int b) (wk cap as)=some as1/\WE fe as1 (.int (f b))/\zC N (f b)):
 ∃r:List Int,PU N n f r/\WE (zq (ya fr yb) cap zG zH fe) as (zc r):=by
 obtain⟨l,d,e,g⟩:=GG D.int (Q:=λi a=>a=f i/\zC N a) (yO h1 (by trivial) (by trivial)) (by rw[yG];trivial) (λi y m=>by
  obtain⟨rfl,o⟩:=xg m;obtain⟨c,h,j,k⟩:=H (0+i) ⟨by trivial,by trivial⟩;exact⟨c,f (0+i),h,j,by rw[Int.zero_add],k⟩)
 rw[yG]at d;exact⟨l,Lo (by trivial) e,g⟩
def U8{f:Int->Int->Int}{n:Nat}{fr:AF}{cap:List (Option Nat)}{fe:EF}{as:AS}{k:Nat}{u:Bool}(h1:WA fr as [(u,.int k)])(hl:k<=1000)(H:∀b:Int,zC k b->∃as1 r,gN 0 (true,.int b) (wk cap as)=some as1/\WE fe as1 (zc r)/\PU n n (f b) r):
 ∃T:TZ,RM k n f T/\WE (zq (ya fr yb) cap zG zH fe) as (zv T):=by
 obtain⟨l,d,e,g⟩:=GG zc (yO h1 (by trivial) (by trivial)) (by rw[yG];trivial) (λi y m=>by
  obtain⟨rfl,o⟩:=xg m;obtain⟨a,r,h,j,c⟩:=H (0+i) ⟨by trivial,by trivial⟩;rw[Int.zero_add]at c;exact⟨a,r,h,j,c⟩)
 rw[yG]at d;exact⟨l,Xs (by trivial) e,g⟩
def MD:∀(b:Nat) (a:Int) (f:Nat),b<f->0<a->a<1000->b<1000->∃g e,0<g/\g<1000/\g ∣ a/\g ∣ (b:Int)/\Mn (fT (f2 zj zX (zy .Gt))) (B8 0 1 (dC zj (dC (f2 zh zj zB) dN))) f [sI a,sI b]=some (.nx [sI g,e]):=by
 intro b
 induction b using Nat.strongRecOn with
 |ind b ih=>
  intro a f hf ha ha2 hb2;cases f with
  |zero=>trivial
  |succ f=>
   by_cases hb:b=0
   . subst hb;exact⟨a,_,ha,ha2,Int.dvd_refl a,Int.dvd_zero a,K1 (zF (V0 (za rfl) zb) rfl)⟩
   . have m0:=zyN a (show(b:Int)≠0 by trivial);have m1:=zyH a (show(0:Int)<b by trivial);obtain⟨g,e,g0,g1,d1,d2,hg⟩:=ih (a%b).toNat (by trivial) b f (by trivial) (by trivial) (by trivial) (by trivial);rw[show(((a%b).toNat:Nat):Int)=a%b by trivial]at hg d2;refine⟨g,e,g0,g1, ?_,d1,Ke (zF (V0 (za rfl) zb) (congrArg some (zyO (show(0:Int)<b by trivial)))) (Av (ze (za rfl) (ze (yc (za rfl) (za rfl) (by trivial)) zJ)) (zl rfl) (zl rfl)) hg⟩;rw[<-Int.mul_ediv_add_emod a b];exact Int.dvd_add (Int.dvd_trans d1 (Int.dvd_mul_right _ _)) d2
def MR{n m:Nat}{s t:Bool}(hn:0<n)(hn2:n<=8)(hm:m<=8):∃g:Int,0<g/\g<1000/\g ∣ (n:Int)/\g ∣ (m:Int)/\Zt [(true,.int n),(true,.int m)]=sI g:=by
 obtain⟨g,e,a,b,c,d,f⟩:=MD m n 10000 (by trivial) (by trivial) (by trivial) (by trivial);exact⟨g,a,b,c,d,vr rfl (zV f (wq (za rfl)))⟩
theorem strs_snoc:∀(os:List O) (o:O),O.strs os=true->o.str=true->O.strs (os++[o])=true
 | [],o,_,h=>by show(o.str&&true)=true;rw[h];rfl
 |p::r,o,h,a=>by
  have h:=(zyC _ _).mp (show(p.str&&O.strs r)=true from h);show(p.str&&O.strs (r++[o]))=true;rw[h.1,strs_snoc r o h.2 a];rfl
theorem Qx:∀(os:List O) (o:O),O.toDs (os++[o])=O.toDs os++[o.toD]
 | [],o=>rfl
 |p::r,o=>congrArg (p.toD :: ·) (Qx r o)
structure Ows{α:Type}(toD:α->D)(Q:α->Prop)(os:List O)(l:List α):Prop where
 st:O.strs os=true
 ds:O.toDs os=l.map toD
 al:∀a ∈ l,Q a
 ln:os.length=l.length
def Ows.nil{α:Type}{toD:α->D}{Q:α->Prop}:Ows toD Q [] []:=⟨rfl,rfl,(λ_ m=>nomatch m),rfl⟩
def Ows.snoc{α:Type}{toD:α->D}{Q:α->Prop}{os:List O}{l:List α}{o:O}{a:α}(h:Ows toD Q os l)(h1:o.str=true)(h2:o.toD=toD a)(h3:Q a):Ows toD Q (os++[o]) (l++[a]):=
 ⟨strs_snoc os o h.st h1,(by rw[Qx,h.ds,h2,zyM];rfl),(λb m=>(zzM.mp m).elim (h.al b) λm=>(by rw[zzR.mp m];exact h3)),(by rw[zzJ,zzJ,h.ln];rfl)⟩
def U2{as as1:AS}{a:EF}{i:Nat}{os0 os:List O}{o:O}(h:as[i]? = some (sN os0))(ha:a as=some (.ow o,as1))(h1:as1[i]? = some (sN os))(hl:os.length<sizeLine):yB (yZ i (dC a dN) y9) as=some (.nx (as1.set i (sN (os++[o])))):=by
 unfold yB yZ;rw[h];have e:dC a dN as=some ([o],as1):=yD ha rfl;show((dC a dN as).bind _).bind _=_;rw[e];show(Option.bind (match as1[i]? with|some (some (.nd .ls os))=>_|_=>none) _)=_;rw[h1];show((y9 os [o]).bind _).bind _=_;have e2:y9 os [o]=some (os++[o],.lf true .non):=by unfold y9;exact if_pos hl
 rw[e2];rfl
def SO{α:Type}{toD:α->D}{Q:α->Prop}{as:AS}{a:EF}{i:Nat}{os:List O}{l:List α}{x:α}(h:as[i]? = some (sN os))(ho:Ows toD Q os l)(hl:l.length<1000)(ha:WE a as (toD x))(hx:Q x):
 ∃os',Ows toD Q os' (l++[x])/\yB (yZ i (dC a dN) y9) as=some (.nx (as.set i (sN os'))):=by
 obtain⟨o,b,c,d⟩:=ha;exact⟨os++[o],ho.snoc c d hx,U2 h b h (by rw[ho.ln];exact xF (by trivial))⟩
def Ows.retB{α:Type}{toD:α->D}{Q:α->Prop}{as:AS}{i:Nat}{os:List O}{l:List α}(h:as[i]? = some (sN os))(ho:Ows toD Q os l):Rt (zT (fV i) as) (.lst (l.map toD)):=
 ⟨_,FC h ho.st,ho.st,congrArg D.lst ho.ds⟩
def at2{xs:List Int}(h:∀x ∈ xs,St x){k:Int}(h0:0<=k)(h1:k<xs.length):∃x,zk (zc xs) (.int k)=some (.im (.int x))/\St x:=RD h0 h1 h
def wG{x:Int}{n:Nat}(hn:0<n):0<=x%n/\x%n<(n:Int):=⟨zyN _ (by trivial),zyH _ (by trivial)⟩
structure OwsX{α:Type}(toD:α->D)(Q:Nat->α->Prop)(os:List O)(l:List α):Prop where
 st:O.strs os=true
 ds:O.toDs os=l.map toD
 al:∀i a,l[i]? = some a->Q i a
 ln:os.length=l.length
def OwsX.nil{α:Type}{toD:α->D}{Q:Nat->α->Prop}:OwsX toD Q [] []:=⟨rfl,rfl,(λi a h=>by simp at h),rfl⟩
def OwsX.snoc{α:Type}{toD:α->D}{Q:Nat->α->Prop}{os:List O}{l:List α}{o:O}{a:α}(h:OwsX toD Q os l)(h1:o.str=true)(h2:o.toD=toD a)(h3:Q l.length a):OwsX toD Q (os++[o]) (l++[a]):=by
 refine⟨strs_snoc os o h.st h1,(by rw[Qx,h.ds,h2,zyM];rfl),(λi b m=>?_),(by rw[zzJ,zzJ,h.ln];rfl)⟩
 by_cases d:i<l.length
 . rw[zyP d]at m;exact h.al i b m
 . have c:=(zzG.mp m).1;rw[zzJ]at c;have e:i=l.length:=by have:i<l.length+1:=c;trivial
   subst e;rw[zyR (zzN _),Nat.sub_self]at m;cases m;exact h3
def OwsX.ows{α:Type}{toD:α->D}{Q:Nat->α->Prop}{os:List O}{l:List α}(h:OwsX toD Q os l):Ows toD (λ_=>True) os l:=⟨h.st,h.ds,(λ_ _=>trivial),h.ln⟩
def J7{α:Type}{toD:α->D}{Q:Nat->α->Prop}{as:AS}{a:EF}{i:Nat}{os:List O}{l:List α}{x:α}(h:as[i]? = some (sN os))(ho:OwsX toD Q os l)(hl:l.length<1000)(ha:WE a as (toD x))(hx:Q l.length x):
 ∃os',OwsX toD Q os' (l++[x])/\yB (yZ i (dC a dN) y9) as=some (.nx (as.set i (sN os'))):=by
 obtain⟨o,b,c,d⟩:=ha;exact⟨os++[o],ho.snoc c d hx,U2 h b h (by rw[ho.ln];exact xF (by trivial))⟩
def IU{n m:Nat}{xs:List Int}(hn:0<n)(hn2:n<=8)(hm0:0<m)(hm:m<=8)(hl:xs.length=9)(hx:∀x ∈ xs,St x):∃T,(Tab m n T/\LD n m (jS n) 0 (yt T))/\RE (WR [(true,.int n),(true,.int m),(true,zc xs)]) (zv T):=by
 obtain⟨g,B,S,E,F,G⟩:=MR (s:=true) (t:=true) hn hn2 hm;obtain⟨o,H,U⟩:=at2 hx (by trivial) (by trivial);obtain⟨p,I,V⟩:=at2 hx (k:=1) (by trivial) (by trivial);have u:0<=(n:Int)/g:=Int.ediv_nonneg (by trivial) (by trivial);have J:(n:Int)/g<=n:=Int.ediv_le_self _ (by trivial);have j:=oF (x0:=o) (x1:=p) hn hm0 B E F;generalize v:(n:Int)/g=f at u J j;have w:∀(h:List O) (c:Int),0<=c->c<8->∃l:List Int,PU n n (λa=>(a*o+c*f*p)%n) l/\WE (zq (ya xr yb) [none,some 0,some 2,some 5,some 3] zG zH (f2 (f2 (f2 zh (f2 zu zX zk) zE) (f2 (f2 zD zP zE) (f2 zu zW zk) zE) zA) zj zB))
  [sI n,sI m,sT (zc xs),sI f,sN h,sI c] (zc l):=λh c K W=>
  Vt (zg (za rfl) zt) (by trivial) λb ⟨X,Y⟩=>by
   have Z:0<=c*f/\c*f<=64:=⟨Int.mul_nonneg K u,by have:=Int.mul_le_mul (show c<=8 by trivial) (show f<=8 by trivial) u (by trivial);trivial⟩;exact⟨_,rfl,WD.e (yc (yC (yV (za rfl) (zi (za rfl) zb H rfl) (zO (by trivial) (by trivial)) (zO (by trivial) (by trivial))) (yV (yV (za rfl) (za rfl) (zO (by trivial) (by trivial)) (zO (by trivial) (by trivial))) (zi (za rfl) zb I rfl) (zO (by trivial) (by trivial)) (zO (by trivial) (by trivial)))) (za rfl) (by trivial)),wG hn⟩
 obtain⟨L,M,h,l,y,rfl,q,d⟩:=yJ (g:=gN 5)
  (λi as=>∃(h:List O) (l:TZ) (y:Option O),as=[sI n,sI m,sT (zc xs),sI f,sN h,y]/\OwsX zc (λ(i:Nat) r=>PU n n (λa=>(a*o+(i:Int)*f*p)%n) r) h l/\l.length=i)
  (y6 0 m) 0 [sI n,sI m,sT (zc xs),sI f,sN [],none] (λi x as z N=>by
   obtain⟨h,l,y,rfl,q,d⟩:=N;obtain⟨rfl,hi⟩:=xg z;obtain⟨r,C,P⟩:=w h (0+i) (by trivial) (by trivial);obtain⟨A,Q,R⟩:=J7 (i:=4) rfl q (by trivial) P (by rw[d,zyY];rw[Int.zero_add]at C;exact C);exact⟨_,rfl,_,R,A,l++[r],_,rfl,Q,by rw[zzJ,d];rfl⟩)
  ⟨[],[],none,rfl,OwsX.nil,rfl⟩
 rw[yG]at d;have D:RM m n (λc a=>(a*o+c*f*p)%n) l:=Xs (by trivial) q.al;refine⟨l,⟨D.1,j.congr hm0 (q_ hn) (λ_ _ _ _=>rfl) D.2⟩,ym rfl (zd (as1:=[sI n,sI m,sT (zc xs),sI f,none,none]) ?_ (zd (yI (xt zJ (wC rfl)) (zl rfl)) (zd (yH (yO (zg (za rfl) zt) (by trivial) (by trivial)) M) (Ows.retB rfl q.ows))))⟩;have:=yj (st:=true) (i:=3) (as:=[sI n,sI m,sT (zc xs),none,none,none]) (wN (za (i:=0) rfl) (yX (zg (za (i:=0) rfl) (zg (za (i:=1) rfl) zt)) G) B (zO (by trivial) (by trivial))) (zl rfl);rw[v]at this;exact this
def Jy{fr:AF}{as:AS}{rs:List (Bool×D)}{g:List D->Option R0}{zs:List D}(ha:WA fr as rs)(hg:g (rs.map (·.2))=some (.fl zs)):fP fr g as=some (.ow (.nd .ls (zs.map (K8 (rs.all (·.1))))),as):=by
 unfold fP;unfold WA at ha;rw[ha];show(views as _).bind _=_;rw[Y3];show(g _).bind _=_;rw[hg];show(if(zs.all zN||(some (rs.all (·.1))).isSome)=true then _ else _:Option RV).bind _=_;rw[if_pos (by simp)];rfl
def QH{a:EF}{as:AS}{x:D}{g:List D->Option R0}{zs:List D}(ha:WE a as x)(hg:g [x]=some (.fl zs)):fP (aC a aN) g as=some (.ow (.nd .ls (zs.map (O.lf true))),as):=by
 have:=Jy (vk ha (zt)) hg;rw[show([(true,x)].all (·.1))=true from rfl,Xy]at this;exact this
def Jv{a:EF}{as:AS}{s:Bool}{r:List Int}(h:WD a as s (zc r)):fP (aC a aN) lstP as=some (.ow (vq r),as):=by
 have:=Jy (g:=lstP) (zg h (zt)) rfl;rw[zyB]at this;exact this
def DS{a:EF}{as:AS}{s:Bool}{r:List Int}(h:WD a as s (zc r)):WE (fP (aC a aN) lstP) as (zc r):=⟨_,Jv h,(wy r).1,(wy r).2⟩
def Ae{a b c d:EF}{as:AS}{x y z u w:D}{g:List (Bool×D)->Option O}(ha:WE a as x)(hb:WE b as y)(hc:WE c as z)(hd:WE d as u)(hg:RE (g [(true,x),(true,y),(true,z),(true,u)]) w):WE (zp (aC a (aC b (aC c (aC d aN)))) g) as w:=by
 obtain⟨o,e,f⟩:=hg;exact⟨o,Zq (vk ha (vk hb (vk hc (vk hd zt)))) (by show g [(zN x||true,x),(zN y||true,y),(zN z||true,z),(zN u||true,u)]=_;rw[zyD,zyD,zyD,zyD];exact e),f⟩
def Ki{a b c d e:EF}{as:AS}{x y z u v w:D}{g:List (Bool×D)->Option O}(ha:WE a as x)(hb:WE b as y)(hc:WE c as z)(hd:WE d as u)(he:WE e as v)(hg:RE (g [(true,x),(true,y),(true,z),(true,u),(true,v)]) w):WE (zp (aC a (aC b (aC c (aC d (aC e aN))))) g) as w:=by
 obtain⟨o,f,h⟩:=hg;exact⟨o,Zq (vk ha (vk hb (vk hc (vk hd (vk he zt))))) (by show g [(zN x||true,x),(zN y||true,y),(zN z||true,z),(zN u||true,u),(zN v||true,v)]=_;rw[zyD,zyD,zyD,zyD,zyD];exact f),h⟩
def XJ{fr:DF}{as:AS}{os:List O}{x:D}(h:WO fr as os)(hl:os.length<=sizeLine)(hs:O.strs os=true)(e:D.tup (O.toDs os)=x):WE (zY fr) as x:=by
 refine⟨_,Mw h hl, ?_, ?_⟩
 . unfold Zw
   split
   . exact hs
   . exact hs
 . unfold Zw
   split
   . exact e
   . exact e
theorem Yc:∀l:List Int,wL (l.map D.int)=some l
 | []=>rfl
 |x::r=>by
  show(wL (r.map D.int)).bind _=_;rw[Yc r];rfl
def Oc{n m:Nat}{fr:AF}{cap:List (Option Nat)}{as:AS}{u s:Bool}{r:List Int}(hr:Row n r)(hm:m<=8)(h1:WA fr as [(u,.int m)])(h2:∀b:Int,∃as1,gN 0 (true,.int b) (wk cap as)=some as1/\WD zj as1 s (zc r)):
 ∃T,RM m n (λ_ a=>zw r a) T/\WE (zq (ya fr yb) cap zG zH (fP yS lstP)) as (zv T):=
 U8 h1 (by trivial) λb _=>by
  obtain⟨c,d,e⟩:=h2 b;exact⟨c,r,d,DS e,hr.1,hr.2,λ_ _=>rfl⟩
def Bg{l:List Int}(h:l.Pairwise (· <= ·)){i j:Nat}(hij:i<j)(hj:j<l.length):l[i]<=l[j]:=List.pairwise_iff_getElem.mp h i j (by trivial) hj hij
def Zr{r:List Int}{a:Int}(h:a.toNat<r.length):zw r a=r[a.toNat]:=by unfold zw;rw[zzE h];rfl
def BF{n m:Nat}{xs:List Int}(hn:0<n)(hn2:n<=8)(hm0:0<m)(hm:m<=8)(hl:xs.length=9)(hx:∀x ∈ xs,St x):∃T,(Tab m n T/\LD n m jM 0 (yt T))/\RE (ZS [(true,.int n),(true,.int m),(true,zc xs)]) (zv T):=by
 obtain⟨l,F,u,v⟩:=Po (as:=[sI n,sI m,sT (zc xs),none]) D.int (Q:=λx=>0<=x/\x<(n:Int)) (cap:=[none,some 0,some 2]) (fr:=aC (f2 zh zW Y6) aN) (fe:=f2 (f2 zu zh zk) zj zB)
  (by rw[show(((n-1:Nat):Nat):Int)=(n:Int)-1 by trivial];exact zg (Kx (za rfl) zb) zt) (by trivial) (λb f G=>by
   obtain⟨x,h,w⟩:=at2 hx f (by trivial);exact⟨[sI b,sI n,sT (zc xs)],_,rfl,WD.e (yc (zi (za rfl) (za rfl) h rfl) (za rfl) (by trivial)),wG hn⟩)
 have z:=
  IR (xu (os:=[xf 0]) (ze zb zJ) (wC rfl) rfl rfl) v (add_lists (by rw[zzB];exact LV (by show 1+_<=_;trivial)))
 have o:=sortI_perm (0::l);have c:(sortI (0::l)).length=n:=by rw[o.length_eq,zzT];trivial
 have d:Row n ((sortI (0::l)).set 0 0):=by
  refine⟨by rw[zzU];exact c,λx m=>?_⟩
  rcases List.mem_or_eq_of_mem_set m with m|rfl
  . rcases zzC.mp (o.mem_iff.mp m)with rfl|m
    . trivial
    . exact u x m
  . trivial
 have p:=yI (i:=3) (QH (g:=Yy) z (by
  show(wL ((0::l).map D.int)).bind _=_;rw[Yc];show(if(0::l).length<64 then _ else _)=_;rw[if_pos (by rw[zzT];trivial)])) (zl rfl)
 rw[V8]at p;have A:SK 3 (xC 0) (xC 0) [sI n,sI m,sT (zc xs),sN ((sortI (0::l)).map xf)]=some (.nx [sI n,sI m,sT (zc xs),sN (((sortI (0::l)).set 0 0).map xf)]):=by
  cases hs:sortI (0::l)with
  |nil=>rw[hs]at c;simp at c;trivial
  |cons y t=>rfl
 obtain⟨T,q,B⟩:=Oc (cap:=[none,some 3]) (as:=[sI n,sI m,sT (zc xs),sN (((sortI (0::l)).set 0 0).map xf)]) (fr:=aC zj aN) d hm (zg (za rfl) zt) (λb=>⟨[sI b,some (.lf false (.lst (O.toDs (((sortI (0::l)).set 0 0).map xf))))],rfl,by rw[(xj _).2.2];exact za rfl⟩);have r:zw ((sortI (0::l)).set 0 0) 0=0:=by
  rw[Zr (by rw[d.1];exact hn)];exact List.getElem_set_self (by rw[zzU,c];exact hn)
 have j:LD n m jM 0 (λ_ a=>zw ((sortI (0::l)).set 0 0) a):=by
  refine p4 hm0 r (λa k=>(rowAt d k).2) λa b k s C=>?_
  by_cases f:a=0
  . rw[f,r];exact(rowAt d s).2.1
  by_cases E:a=b
  . rw[E];exact Int.le_refl _
  have H:=k.1;have I:=s.2;rw[Zr (by rw[d.1];trivial),Zr (by rw[d.1];trivial),List.getElem_set_ne (by trivial),List.getElem_set_ne (by trivial)];exact Bg (wu (0::l)) (by trivial) (by rw[c];trivial)
 exact⟨T,⟨q.1,j.congr hm0 (rM hn) (λ_ _ _ _=>rfl) q.2⟩,ym rfl (zd p (zd A (yi B)))⟩
def E8{n m:Nat}{xs:List Int}(hn:2<=n)(hn2:n<=8)(hm0:0<m)(hm:m<=8)(hl:xs.length=9)(hx:∀x ∈ xs,St x):∃T,(Tab m n T/\LD n m jL 0 (yt T)/\LD n m jF 0 (yt T))/\RE (WB [(true,.int n),(true,.int m),(true,zc xs)]) (zv T):=by
 obtain⟨l,l1,l2,l3⟩:=Po (as:=[sI n,sI m,sT (zc xs),none]) D.int (Q:=λx=>1<=x/\x<(n:Int)) (cap:=[none,some 2,some 0]) (fr:=aC (f2 zh zW Y6) aN) (fe:=f2 zW (f2 (f2 zj zh zk) (f2 zu zW Y6) zB) zA)
  (by rw[show(((n-1:Nat):Nat):Int)=(n:Int)-1 by trivial];exact zg (Kx (za rfl) zb) zt) (by trivial) (λb h0 h1=>by
   obtain⟨x,hx1,hx2⟩:=at2 hx h0 (by trivial);have m0:=zyN x (show(n:Int)-1≠0 by trivial);have m1:=zyH x (show(0:Int)<(n:Int)-1 by trivial);exact⟨[sI b,sT (zc xs),sI n],_,rfl,WD.e (yC zb (yc (zi (za rfl) (za rfl) hx1 rfl) (Kx (za rfl) zb) (by trivial))),by trivial,by trivial⟩)
 have w0:=
  IR (xu (os:=[xf 0]) (ze zb zJ) (wC rfl) rfl rfl) l3 (add_lists (by rw[zzB];exact LV (by show 1+_<=_;trivial)))
 have hr:Row n (0::l):=⟨by rw[zzT];trivial,λx m=>by
  rcases zzC.mp m with rfl|m
  . trivial
  . have:=l2 x m;trivial⟩
 obtain⟨T,t1,t2⟩:=Oc (cap:=[none,some 3]) (as:=[sI n,sI m,sT (zc xs),sT (.lst ((0::l).map D.int))]) (fr:=aC zj aN) hr hm (zg (za rfl) zt) (λb=>⟨_,rfl,za rfl⟩);have hz:zw (0::l) 0=0:=rfl;have hp:∀a,zC n a->a≠0->zw (0::l) a≠0:=λa ha h0=>by
  have a0:=ha.1;have a1:=ha.2;have hk:a.toNat<(0::l).length:=by rw[hr.1];trivial
  rw[Zr hk];have hm:=zxA hk;obtain⟨k,ek⟩:∃k,a.toNat=k+1:=⟨a.toNat-1,by trivial⟩;have:(0::l)[a.toNat]=l[k]'(by rw[zzT]at hk;trivial):=by simp only[ek,List.getElem_cons_succ]
  rw[this];have:=l2 _ (zxA (show k<l.length by rw[zzT]at hk;trivial));trivial
 have hc:∀a,zC n a->zC n (zw (0::l) a):=λa ha=>(rowAt hr ha).2;have n0:0<n:=by trivial
 exact⟨T,⟨t1.1,(og hz hc hp).congr hm0 (rq n0) (λ_ _ _ _=>rfl) t1.2,(oy hz hc hp).congr hm0 (rX n0) (λ_ _ _ _=>rfl) t1.2⟩,ym rfl (zd (yU w0 (zl rfl)) (yi t2))⟩
def KN(k:Int)(n:Nat):Prop:=(k=0/\1<=n)\/(k=1/\1<=n)\/(k=2/\2<=n)\/(k=3/\2<=n)\/(k=4/\n=4)
def Jg{x y:Int}{c:Bool}:zk (.lst [.int x,.int y]) (.int (if c=true then 1 else 0))=some (.im (.int (if c=true then y else x))):=by cases c<;>rfl
noncomputable def jK(k:Int)(n:Nat):Int->Int->Int:=if k=0 then jS n else if k=1 then jM else if k=2 then jL else if k=3 then jF else j4
def pU{k:Int}{n:Nat}(h:KN k n):LJ n (jK k n) 0:=by
 rcases h with⟨rfl,a⟩|⟨rfl,a⟩|⟨rfl,a⟩|⟨rfl,a⟩|⟨rfl,rfl⟩
 . exact q_ a
 . exact rM a
 . exact rq (by trivial)
 . exact rX (by trivial)
 . exact sU
def Iv{as:AS}{n:Nat}{cap cap2:List (Option Nat)}{fr:AF}{u:Bool}{fe:EF}{f:Int->Int->Int}(hn2:n<=8)(h1:WA fr as [(true,.int n)])(H:∀a:Int,zC n a->∃as1,gN 0 (true,.int a) (wk cap as)=some as1/\WA yS as1 [(true,.int n)]/\∀b:Int,zC n b->∃as2,gN 0 (true,.int b) (wk cap2 as1)=some as2/\WD fe as2 true (.int (f a b))/\zC n (f a b)):
 ∃T,RM n n f T/\WE (zq (ya fr yb) cap zG zH (zq (ya yS yb) cap2 zG zH fe)) as (zv T):=
 U8 h1 (by trivial) λa g=>by
  obtain⟨c,h,i,j⟩:=H a g;obtain⟨r,k,l⟩:=Vt i (by trivial) λb m=>by
   obtain⟨d,o,p,q⟩:=j b m;exact⟨d,o,WD.e p,q⟩
  exact⟨c,r,h,l,k⟩
abbrev Tf:List D:=[.tup [.int 0,.int 1],.tup [.int 1,.int 0],.tup [.int 0,.int 0],.tup [.int 1,.int 1]]
def EN{i:Nat}{y:wx}(m:(Tf.map λd=>(true,d))[i]? = some y):y=(true,.tup [.int (p1 i),.int (p2 i)])/\i<4:=by
 match i,m with
 |0,m=>cases m;exact⟨rfl,by decide⟩
 |1,m=>cases m;exact⟨rfl,by decide⟩
 |2,m=>cases m;exact⟨rfl,by decide⟩
 |3,m=>cases m;exact⟨rfl,by decide⟩
def SZ(i:Int):p1 i=0\/p1 i=1:=by unfold p1;split<;>simp
def HV(i:Int):p2 i=0\/p2 i=1:=by unfold p2;split<;>simp
def Jh{u v k:Int}(hu:u=0\/u=1)(hv:v=0\/v=1):pk u v k=0\/pk u v k=1:=by unfold pk;split<;>assumption
def Oo{u v:Int}(hu:u=0\/u=1)(hv:v=0\/v=1):zC 4 (rL u v)/\x6 (.lst Tf) [.tup [.int u,.int v]]=some (.im (.int (rL u v))):=by
 rcases hu with rfl|rfl<;>rcases hv with rfl|rfl
 . exact⟨by decide,rfl⟩
 . exact⟨by decide,rfl⟩
 . exact⟨by decide,rfl⟩
 . exact⟨by decide,rfl⟩
def E7{p q k:Int}(hk:k=0\/k=1):zk (.tup [.int p,.int q]) (.int k)=some (.im (.int (pk p q k))):=by
 rcases hk with rfl|rfl
 . rfl
 . rfl
def JS:∃T,RM 4 4 j4 T/\RE (Zg [(true,.int 4),(true,.int (4:Nat))]) (zv T):=by
 obtain⟨T,a,c,d⟩:=GG (as:=[sI 4,sI (4:Nat),sT (.lst Tf)]) zc (cap:=[none,some 2]) (g:=gN 0) (P8 (f:=fV 2) (WD.e (za rfl))) (by rw[zzB];show 4<=1000;decide) λi y m=>by
  obtain⟨rfl,o⟩:=EN m;obtain⟨r,b,h,j⟩:=GG (as:=[sT (.tup [.int (p1 i),.int (p2 i)]),sT (.lst Tf)]) D.int (Q:=λk x=>x=j4 i k/\zC 4 x) (cap:=[none,some 1,some 0]) (g:=gN 0) (fe:=wm .lst zj (aC (zY (dC (f2 zh (f2 zu zX zk) zk) (dC (f2 zh (f2 zu zW zk) zk) dN))) aN) x6) (P8 (f:=fV 1) (WD.e (za rfl))) (by rw[zzB];show 4<=1000;decide) λk y m=>by
   obtain⟨rfl,p⟩:=EN m;obtain⟨l,n⟩:=Oo (Jh (SZ k) (HV k)) (Jh (SZ k) (HV k));exact⟨[sT (.tup [.int (p1 k),.int (p2 k)]),sT (.lst Tf),sT (.tup [.int (p1 i),.int (p2 i)])],j4 i k,rfl,WD.e (Vi (za rfl) rfl (zg (WI (ze (zi (za rfl) (zi (za rfl) zb rfl rfl) (E7 (SZ i)) rfl) (ze (zi (za rfl) (zi (za rfl) zb rfl rfl) (E7 (HV i)) rfl) zJ)) (wC rfl) rfl) zt) n rfl),rfl,l⟩
  rw[zzB]at b;exact⟨[sT (.tup [.int (p1 i),.int (p2 i)]),sT (.lst Tf)],r,rfl,j,Lo b h⟩
 rw[zzB]at a;refine⟨T,Xs a c,ym rfl (zd (zL (zF (yo (za rfl) zb rfl) rfl) rfl) (zd (zL (zF (yo (za rfl) zb rfl) rfl) rfl) (zd (zL (zF (yo (za rfl) zb rfl) rfl) rfl) (zd (zL (zF (yo (za rfl) zb rfl) rfl) rfl) (zd (yU (xu (os:=Tf.map (O.lf true)) ?_ (wC rfl) rfl rfl) (zl rfl)) (yi d))))))⟩;exact ze (WI (ze zb (ze zb zJ)) (wC rfl) rfl) (ze (WI (ze zb (ze zb zJ)) (wC rfl) rfl) (ze (WI (ze zb (ze zb zJ)) (wC rfl) rfl) (ze (WI (ze zb (ze zb zJ)) (wC rfl) rfl) zJ)))
def Od{k:Int}{n:Nat}(h:KN k n)(hn2:n<=8):∃T,RM n n (jK k n) T/\RE (Zg [(true,.int k),(true,.int n)]) (zv T):=by
 rcases h with⟨rfl,i⟩|⟨rfl,i⟩|⟨rfl,i⟩|⟨rfl,i⟩|⟨rfl,rfl⟩
 . obtain⟨T,c,d⟩:=Iv (as:=[sI 0,sI n,none]) (u:=true) (cap:=[none,some 1]) (cap2:=[none,some 1,some 0]) (fr:=aC zj aN) (fe:=f2 (f2 zu zh zA) zj zB) hn2 (zg (za rfl) zt) λa f=>⟨_,rfl,zg (za rfl) zt,λb g=>⟨_,rfl,yc (yC (za rfl) (za rfl)) (za rfl) (by trivial),NI i⟩⟩;exact⟨T,c,ym rfl (y7 (wa (zF (yo (za rfl) zb rfl) rfl) (yi d)))⟩
 . obtain⟨T,c,d⟩:=Iv (as:=[sI 1,sI n,none]) (u:=true) (cap:=[none,some 1]) (cap2:=[none,some 0]) (fr:=aC zj aN) (fe:=fP (aC zj xr) uc) hn2 (zg (za rfl) zt) λa f=>⟨_,rfl,zg (za rfl) zt,λb g=>⟨_,rfl,xh (zg (za rfl) (zg (za rfl) zt)) rfl rfl,(rM i).cl a b f g⟩⟩;exact⟨T,c,ym rfl (zd (zL (zF (yo (za rfl) zb rfl) rfl) rfl) (y7 (wa (zF (yo (za rfl) zb rfl) rfl) (yi d))))⟩
 . obtain⟨T,c,d⟩:=Iv (as:=[sI 2,sI n,none]) (u:=true) (cap:=[none,some 1]) (cap2:=[none,some 0]) (fr:=aC zj aN) (fe:=f2 (yF (dC zh (dC zj dN))) (fP (aC (f2 zh zX (zy .Eq)) aN) Nw) zk) hn2 (zg (za rfl) zt) λa f=>⟨_,rfl,zg (za rfl) zt,λb g=>⟨_,rfl,FN (xu (ze (za rfl) (ze (za rfl) zJ)) (wC rfl) rfl rfl) (WD.e (xh (zg (yo (za rfl) zb rfl) zt) rfl rfl)) (Jg.trans (by unfold jL;by_cases h:b=0<;>simp[h])),(rq (by trivial)).cl a b f g⟩⟩;exact⟨T,c,ym rfl (zd (zL (zF (yo (za rfl) zb rfl) rfl) rfl) (zd (zL (zF (yo (za rfl) zb rfl) rfl) rfl) (y7 (wa (zF (yo (za rfl) zb rfl) rfl) (yi d)))))⟩
 . obtain⟨T,c,d⟩:=Iv (as:=[sI 3,sI n,none]) (u:=true) (cap:=[none,some 1]) (cap2:=[none,some 0]) (fr:=aC zj aN) (fe:=f2 (yF (dC zj (dC zh dN))) (fP (aC (f2 zj zX (zy .Eq)) aN) Nw) zk) hn2 (zg (za rfl) zt) λa f=>⟨_,rfl,zg (za rfl) zt,λb g=>⟨_,rfl,FN (xu (ze (za rfl) (ze (za rfl) zJ)) (wC rfl) rfl rfl) (WD.e (xh (zg (yo (za rfl) zb rfl) zt) rfl rfl)) (Jg.trans (by unfold jF;by_cases h:a=0<;>simp[h])),(rX (by trivial)).cl a b f g⟩⟩;exact⟨T,c,ym rfl (zd (zL (zF (yo (za rfl) zb rfl) rfl) rfl) (zd (zL (zF (yo (za rfl) zb rfl) rfl) rfl) (zd (zL (zF (yo (za rfl) zb rfl) rfl) rfl) (y7 (wa (zF (yo (za rfl) zb rfl) rfl) (yi d))))))⟩
 . exact JS
def Ie{k:Int}{n m:Nat}{xs:List Int}(h:KN k n)(hn2:n<=8)(hm0:0<m)(hm:m<=8)(hl:xs.length=9)(hx:∀x ∈ xs,St x):∃T,(Tab m n T/\LD n m (jK k n) 0 (yt T))/\RE (ZR [(true,.int k),(true,.int n),(true,.int m),(true,zc xs)]) (zv T):=by
 rcases h with⟨rfl,d⟩|⟨rfl,d⟩|⟨rfl,d⟩|⟨rfl,d⟩|⟨rfl,rfl⟩
 . obtain⟨T,c,f⟩:=IU d hn2 hm0 hm hl hx;exact⟨T,c,ym rfl (y7 (wa (zF (yo (za rfl) zb rfl) rfl) (yi (vf (WD.e (za rfl)) (WD.e (za rfl)) (WD.e (za rfl)) f))))⟩
 . obtain⟨T,c,f⟩:=BF d hn2 hm0 hm hl hx;exact⟨T,c,ym rfl (zd (zL (zF (yo (za rfl) zb rfl) rfl) rfl) (y7 (wa (zF (yo (za rfl) zb rfl) rfl) (yi (vf (WD.e (za rfl)) (WD.e (za rfl)) (WD.e (za rfl)) f)))))⟩
 . obtain⟨T,c,f⟩:=E8 d hn2 hm0 hm hl hx;exact⟨T,⟨c.1,c.2.1⟩,ym rfl (zd (zL (zF (yo (za rfl) zb rfl) rfl) rfl) (zd (zL (zF (yo (za rfl) zb rfl) rfl) rfl) (y7 (wa (zF (G7 (za rfl) zb) rfl) (yi (vf (WD.e (za rfl)) (WD.e (za rfl)) (WD.e (za rfl)) f))))))⟩
 . obtain⟨T,c,f⟩:=E8 d hn2 hm0 hm hl hx;exact⟨T,⟨c.1,c.2.2⟩,ym rfl (zd (zL (zF (yo (za rfl) zb rfl) rfl) rfl) (zd (zL (zF (yo (za rfl) zb rfl) rfl) rfl) (y7 (wa (zF (G7 (za rfl) zb) rfl) (yi (vf (WD.e (za rfl)) (WD.e (za rfl)) (WD.e (za rfl)) f))))))⟩
 . obtain⟨g,o,t⟩:=at2 hx (by trivial) (by trivial);have p:∃r:List Int,(Row 4 r/\LD 4 m j4 0 (λ_ a=>zw r a))/\zk (.lst [zc [0,1,2,3],zc [0,1,3,2]]) (.int (g%2))=some (.im (zc r)):=by
    rcases(show g%2=0\/g%2=1 by trivial)with e|e<;>rw[e]
    . exact⟨[0,1,2,3],⟨⟨rfl,by decide⟩,pQ (.inl λa i=>f4 (P:=λa=>zw [0,1,2,3] a=a) (by decide) i)⟩,rfl⟩
    . exact⟨[0,1,3,2],⟨⟨rfl,by decide⟩,pQ (.inr λa i=>f4 (P:=λa=>zw [0,1,3,2] a=(if a=2 then 3 else if a=3 then 2 else a)) (by decide) i)⟩,rfl⟩
   obtain⟨r,j,q⟩:=p;obtain⟨T,l,s⟩:=U8 (as:=[sI 4,sI (4:Nat),sI m,sT (zc xs)]) (cap:=[none,some 3]) (fr:=aC zu aN) (fe:=f2 (yF (dC (yF (dC zX (dC zW (dC yk (dC xv dN))))) (dC (yF (dC zX (dC zW (dC xv (dC yk dN))))) dN))) (f2 (f2 zj zX zk) yk zB) zk) (zg (za rfl) zt) (by trivial) λb _=>
    ⟨[sI b,sT (zc xs)],r,rfl,WD.e (FN (xu (vV (xt (ze zb (ze zb (ze zb (ze zb zJ)))) (wC rfl)) (vV (xt (ze zb (ze zb (ze zb (ze zb zJ)))) (wC rfl)) zJ)) (wC rfl) rfl rfl) (WD.e (yc (zi (za rfl) zb o rfl) zb (by decide))) q),j.1.1,j.1.2,λ_ _=>rfl⟩
   exact⟨T,⟨l.1,j.2.congr hm0 sU (λ_ _ _ _=>rfl) l.2⟩,ym rfl (zd (zL (zF (yo (za rfl) zb rfl) rfl) rfl) (zd (zL (zF (yo (za rfl) zb rfl) rfl) rfl) (zd (zL (zF (G7 (za rfl) zb) rfl) rfl) (yi s))))⟩
structure LawP(n m:Nat)(J:TZ)(Ds:List TZ):Prop where
 tj:Tab n n J
 lj:LJ n (yt J) 0
 td:∀T ∈ Ds,Tab m n T
 ld:∀T ∈ Ds,LD n m (yt J) 0 (yt T)
abbrev Tv(n:Nat)(J:TZ)(Ds:List TZ):D:=.tup [.int n,zv J,.lst (Ds.map zv)]
def PK{k c:Int}{n m w:Nat}(h:KN k n)(hn2:n<=8)(hm0:0<m)(hm:m<=8)(hw:w<=8):∃J Ds,LawP n m J Ds/\Ds.length=w/\RE (wg [(true,.int k),(true,.int n),(true,.int m),(true,.int w),(true,.int c)]) (Tv n J Ds):=by
 obtain⟨J,d,g,l,o,j4⟩:=Od h hn2;obtain⟨i,p,j,q⟩:=Po (as:=[sI k,sI n,sI m,sI w,sI c,none]) zv (cap:=[none,some 0,some 1,some 2,some 4]) (fr:=aC zD aN) (fe:=zp (aC zj (aC zu (aC zD (aC (zp (aC (f2 zP (f2 (fC (.int 31)) zh zE) zA) (aC (fC (.int 9)) aN)) yu) aN)))) ZR) (zg (za rfl) zt) (by trivial) λb y z=>by
  obtain⟨A,r,s,t⟩:=I_ (as:=[sI b,sI k,sI n,sI m,sI c]) (a:=f2 zP (f2 (fC (.int 31)) zh zE) zA) (m:=9) (by trivial) (WD.e (yC (za rfl) (yV zb (za rfl) (zO (by decide) (by decide)) (zO (by trivial) (by trivial))))) (WD.e zb);obtain⟨T,u,v⟩:=Ie h hn2 hm0 hm r s;exact⟨[sI b,sI k,sI n,sI m,sI c],T,rfl,Ae (WD.e (za rfl)) (WD.e (za rfl)) (WD.e (za rfl)) t v,u⟩
 have x:=(pU h).congr d.2;refine⟨J,i,⟨d.1,x,λT f=>(j T f).1,λT f=>(j T f).2.congr hm0 (pU h) d.2 (λ_ _ _ _=>rfl)⟩,p,ym rfl (zd (yU q (zl rfl)) (yi (XJ (ze (za rfl) (vV (Zq (zg (za rfl) (zg (za rfl) zt)) l) (ze (za rfl) zJ))) (wC rfl) ?_ ?_)))⟩
 . show(true&&(g.str&&(true&&true)))=true;rw[o];rfl
 . show D.tup [.int n,g.toD,.lst (i.map zv)]=_;rw[j4]
def EY{as:AS}{i j:Nat}{os ps:List O}(hij:i≠j)(h:as[i]? = some (sN os))(hj:as[j]? = some (sN ps))(hl:os.length<sizeLine):
 yB (yZ i (dC (fV j) dN) y9) as=some (.nx ((as.set j (some (O.nd .ls ps).frz)).set i (sN (os++[(O.nd .ls ps).frz])))):=by
 have e:dC (fV j) dN as=some ([(O.nd .ls ps).frz],as.set j (some (O.nd .ls ps).frz)):=by
  unfold dC;rw[Xc hj];show((OO as (.bo j)).bind _)=_;rw[Se hj];rfl
 unfold yB yZ;rw[h];show((dC (fV j) dN as).bind _).bind _=_;rw[e];show(Option.bind (match(as.set j (some (O.nd .ls ps).frz))[i]? with|some (some (.nd .ls os))=>_|_=>none) _)=_;rw[zzY (Ne.symm hij),h];show((y9 os [(O.nd .ls ps).frz]).bind _).bind _=_;have e2:y9 os [(O.nd .ls ps).frz]=some (os++[(O.nd .ls ps).frz],.lf true .non):=by unfold y9;exact if_pos hl
 rw[e2];rfl
theorem Ows.frz{α:Type}{toD:α->D}{Q:α->Prop}{os:List O}{l:List α}(h:Ows toD Q os l):(O.nd .ls os).frz = .lf true (.lst (l.map toD)):=by
 show O.lf (O.strs os) (.lst (O.toDs os))=_;rw[h.st,h.ds]
section
variable{n1 n2 m:Nat}{J1 J2:TZ}{D1 D2:List TZ}
def Sr(h1:0<n1)(h2:0<n2)(hn:n1*n2<=8)(j1:Tab n1 n1 J1)(j2:Tab n2 n2 J2):
 ∃os l e6 e7 e8,OwsX zc (λ(i:Nat) r=>PU (n1*n2) (n1*n2) (jB n2 (yt J1) (yt J2) i) r) os l/\l.length=n1*n2/\forL (gN 6) (zm (zz true 7 (f2 (f2 zh zW zk) (f2 y0 zP zR) zk))
 (zm (zz true 8 (f2 (f2 zj zW zk) (f2 y0 zP zB) zk))
 (yB (yZ 5 (dC (zq (ya Yk yb) [none,some 4,some 8,some 7] zG zH (f2 (f2 (f2 zD (f2 zh zj zR) zk) zj zE) (f2 zu (f2 zh zj zB) zk) zA)) dN) y9))))
  (y6 0 (n1*n2)) [sT (Tv n1 J1 D1),sT (Tv n2 J2 D2),sI m,sI ((n1*n2:Nat):Int),sI n2,sN [],none,none,none,none,none,none,none,none]
  = some (.nx [sT (Tv n1 J1 D1),sT (Tv n2 J2 D2),sI m,sI ((n1*n2:Nat):Int),sI n2,sN os,e6,e7,e8,none,none,none,none,none]):=by
 have t:=zzO (Nat.le_mul_of_pos_left n2 h1) hn;obtain⟨u,v,c,l,d,h,j,rfl,k,a⟩:=yJ (g:=gN 6) (f:=(zm (zz true 7 (f2 (f2 zh zW zk) (f2 y0 zP zR) zk))
  (zm (zz true 8 (f2 (f2 zj zW zk) (f2 y0 zP zB) zk))
  (yB (yZ 5 (dC (zq (ya Yk yb) [none,some 4,some 8,some 7] zG zH (f2 (f2 (f2 zD (f2 zh zj zR) zk) zj zE) (f2 zu (f2 zh zj zB) zk) zA)) dN) y9)))))
  (λi as=>∃(c:List O) (l:TZ) (d h j:Option O),as=[sT (Tv n1 J1 D1),sT (Tv n2 J2 D2),sI m,sI ((n1*n2:Nat):Int),sI n2,sN c,d,h,j,none,none,none,none,none]/\OwsX zc (λ(i:Nat) r=>PU (n1*n2) (n1*n2) (jB n2 (yt J1) (yt J2) i) r) c l/\l.length=i)
  (y6 0 (n1*n2)) 0 [sT (Tv n1 J1 D1),sT (Tv n2 J2 D2),sI m,sI ((n1*n2:Nat):Int),sI n2,sN [],none,none,none,none,none,none,none,none] (λi x as n w=>by
   obtain⟨c,l,d,h,j,rfl,k,a⟩:=w;obtain⟨rfl,P⟩:=xg n;obtain⟨y,z⟩:=yf (n1:=n1) (p:=0+i) h2 ⟨by trivial,by trivial⟩;obtain⟨A,B⟩:=xQ j1 y;obtain⟨C,D⟩:=xQ j2 z;have E:=zzO (Nat.le_mul_of_pos_right n1 h2) hn;obtain⟨r,s,F⟩:=Vt (as:=[sT (Tv n1 J1 D1),sT (Tv n2 J2 D2),sI m,sI ((n1*n2:Nat):Int),sI n2,sN c,sI (0+i),sT (zc (LC J1 ((0+i)/n2))),sT (zc (LC J2 ((0+i)%n2))),none,none,none,none,none]) (cap:=[none,some 4,some 8,some 7]) (fr:=aC zD aN) (fe:=f2 (f2 (f2 zD (f2 zh zj zR) zk) zj zE) (f2 zu (f2 zh zj zB) zk) zA) (zg (za rfl) zt) (by trivial) λb G=>by
    obtain⟨H,I⟩:=yf h2 G;obtain⟨J,o⟩:=rowAt B H;obtain⟨K,L⟩:=rowAt D I;have Q:=o.1;have R:=o.2;exact⟨_,rfl,WD.e (yC (yV (zi (za rfl) (wN (za rfl) (za rfl) (by trivial) (zO (by trivial) (by trivial))) J rfl) (za rfl) (zO (by trivial) (by trivial)) (zO (by trivial) (by trivial))) (zi (za rfl) (yc (za rfl) (za rfl) (by trivial)) K rfl)),Hj o L⟩
   rw[Int.zero_add]at s;obtain⟨q,M,N⟩:=J7 (i:=5) rfl k (by trivial) F (by rw[a,zyY];exact s);refine⟨_,rfl,_,zV (yj (zZ (zZ (za rfl) zb rfl) (wN (za rfl) (za rfl) (by trivial) (zO (by trivial) (by trivial))) A) (zl rfl)) (zV (yj (zZ (zZ (za rfl) zb rfl) (yc (za rfl) (za rfl) (by trivial)) C) (zl rfl)) N),q,l++[r],_,_,_,rfl,M,by rw[zzJ,a];rfl⟩)
  ⟨[],[],none,none,none,rfl,OwsX.nil,rfl⟩
 rw[yG]at a;exact⟨c,l,d,h,j,k,by trivial,v⟩
end
abbrev K5(n1 n2 m:Nat)(J1 J2:TZ)(D1 D2:List TZ)(os5:List O)(e6 e7 e8 e9 e10 e11 e12 e13:Option O):AS:=
 [sT (Tv n1 J1 D1),sT (Tv n2 J2 D2),sI m,sI ((n1*n2:Nat):Int),sI n2,sN os5,e6,e7,e8,e9,e10,e11,e12,e13]
abbrev qV:SF:=(zm (zz true 13 (f2 (f2 (f2 yK yz zk) (f2 y0 zP zR) zk) zP zE))
 (yB (yZ 12 (dC (f2 (fV 13) (f2 (f2 (fV 8) yz zk) (f2 y0 zP zB) zk) zA) dN) y9)))
abbrev pq:SF:=(zm (zz false 12 (yF dN))
 (zm (yM (ya Yk yb) (gN 6) qV)
 (yB (yZ 10 (dC (fV 12) dN) y9))))
abbrev p6:SF:=(zm (zz false 10 (yF dN))
 (zm (yM (ya xI yb) (gN 11) pq)
 (yB (yZ 9 (dC (fV 10) dN) y9))))
section
variable{n1 n2 m:Nat}{J1 J2:TZ}{D1 D2:List TZ}{os5:List O}
def qf{T1 T2:TZ}{c:Int}{e6 e9 e10 e13:Option O}(h1:0<n1)(h2:0<n2)(hn:n1*n2<=8)(t1:Tab m n1 T1)(t2:Tab m n2 T2)(c0:0<=c)(c1:c<m):
 ∃os r f6 f13,OwsX D.int (λ(i:Nat) x=>x=dB n2 (yt T1) (yt T2) c i/\zC (n1*n2) x) os r/\r.length=n1*n2/\forL (gN 6) qV (y6 0 (n1*n2)) (K5 n1 n2 m J1 J2 D1 D2 os5 e6 (sT (zv T1)) (sT (zv T2)) e9 e10 (sI c) (sN []) e13)
  = some (.nx (K5 n1 n2 m J1 J2 D1 D2 os5 f6 (sT (zv T1)) (sT (zv T2)) e9 e10 (sI c) (sN os) f13)):=by
 have z:=zzO (Nat.le_mul_of_pos_left n2 h1) hn;have A:=zzO (Nat.le_mul_of_pos_right n1 h2) hn;obtain⟨B,C⟩:=xQ t1 ⟨c0,c1⟩;obtain⟨E,F⟩:=xQ t2 ⟨c0,c1⟩;obtain⟨G,H,h,l,j,d,rfl,n,b⟩:=yJ (g:=gN 6) (f:=qV)
  (λi as=>∃(h:List O) (l:List Int) (j d:Option O),as=K5 n1 n2 m J1 J2 D1 D2 os5 j (sT (zv T1)) (sT (zv T2)) e9 e10 (sI c) (sN h) d/\OwsX D.int (λ(i:Nat) x=>x=dB n2 (yt T1) (yt T2) c i/\zC (n1*n2) x) h l/\l.length=i)
  (y6 0 (n1*n2)) 0 (K5 n1 n2 m J1 J2 D1 D2 os5 e6 (sT (zv T1)) (sT (zv T2)) e9 e10 (sI c) (sN []) e13) (λi x as o I=>by
   obtain⟨h,l,j,d,rfl,n,b⟩:=I;obtain⟨rfl,N⟩:=xg o;obtain⟨J,K⟩:=yf (n1:=n1) (p:=0+i) h2 ⟨by trivial,by trivial⟩;obtain⟨u,k⟩:=rowAt C J;obtain⟨v,w⟩:=rowAt F K;have q:=Hj k w;have s:zw (LC T1 c) ((0+i)/n2)*n2+zw (LC T2 c) ((0+i)%n2)=dB n2 (yt T1) (yt T2) c i:=by rw[Int.zero_add];rfl
   generalize zw (LC T1 c) ((0+i)/n2)=x at u k q s;generalize zw (LC T2 c) ((0+i)%n2)=y at v w q s;have P:=k.1;have Q:=k.2;obtain⟨t,L,M⟩:=J7 (as:=K5 n1 n2 m J1 J2 D1 D2 os5 (sI (0+i)) (sT (zv T1)) (sT (zv T2)) e9 e10 (sI c) (sN h) (sI (x*n2))) (i:=12) (a:=f2 (fV 13) (f2 (f2 (fV 8) yz zk) (f2 y0 zP zB) zk) zA) rfl n (by trivial)
    (WD.e (yC (za rfl) (zi (zZ (za rfl) (za rfl) E) (yc (za rfl) (za rfl) (by trivial)) v rfl))) ⟨by rw[b,zyY];exact s,q⟩
   exact⟨K5 n1 n2 m J1 J2 D1 D2 os5 (sI (0+i)) (sT (zv T1)) (sT (zv T2)) e9 e10 (sI c) (sN h) d,rfl,_,zV (yj (yV (zi (zZ (za rfl) (za rfl) B) (wN (za rfl) (za rfl) (by trivial) (zO (by trivial) (by trivial))) u rfl) (za rfl) (zO (by trivial) (by trivial)) (zO (by trivial) (by trivial))) (zl rfl)) M,t,l++[x*n2+y],_,_,rfl,L,by rw[zzJ,b];rfl⟩)
  ⟨[],[],_,_,rfl,OwsX.nil,rfl⟩
 rw[yG]at b;exact⟨h,l,j,d,n,by trivial,H⟩
def qs{T1 T2:TZ}{e6 e9 e11 e12 e13:Option O}(h1:0<n1)(h2:0<n2)(hn:n1*n2<=8)(hm:m<=8)(t1:Tab m n1 T1)(t2:Tab m n2 T2):
 ∃os T f6 f11 f12 f13,OwsX zc (λ(c:Nat) r=>PU (n1*n2) (n1*n2) (dB n2 (yt T1) (yt T2) c) r) os T/\T.length=m/\forL (gN 11) pq (y6 0 m) (K5 n1 n2 m J1 J2 D1 D2 os5 e6 (sT (zv T1)) (sT (zv T2)) e9 (sN []) e11 e12 e13)
  = some (.nx (K5 n1 n2 m J1 J2 D1 D2 os5 f6 (sT (zv T1)) (sT (zv T2)) e9 (sN os) f11 f12 f13)):=by
 obtain⟨q,s,f,l,h,e,b,d,rfl,k,a⟩:=yJ (g:=gN 11)
  (λi as=>∃(f:List O) (l:TZ) (h e b d:Option O),as=K5 n1 n2 m J1 J2 D1 D2 os5 h (sT (zv T1)) (sT (zv T2)) e9 (sN f) e b d/\OwsX zc (λ(c:Nat) r=>PU (n1*n2) (n1*n2) (dB n2 (yt T1) (yt T2) c) r) f l/\l.length=i)
  (y6 0 m) 0 (K5 n1 n2 m J1 J2 D1 D2 os5 e6 (sT (zv T1)) (sT (zv T2)) e9 (sN []) e11 e12 e13) (λi x as n t=>by
   obtain⟨f,l,h,e,b,d,rfl,k,a⟩:=t;obtain⟨rfl,z⟩:=xg n;obtain⟨u,r,v,o,p1,p2,w⟩:=qf h1 h2 hn t1 t2 (c:=0+i) (by trivial) (by trivial);have p:=EY (as:=K5 n1 n2 m J1 J2 D1 D2 os5 v (sT (zv T1)) (sT (zv T2)) e9 (sN f) (sI (0+i)) (sN u) o) (i:=10) (j:=12) (by decide) rfl rfl (by rw[k.ln];exact xF (by trivial));rw[p1.ows.frz]at p;have y:PU (n1*n2) (n1*n2) (dB n2 (yt T1) (yt T2) i) r:=by
    have:=Lo p2 p1.al;rw[Int.zero_add]at this;exact this
   exact⟨K5 n1 n2 m J1 J2 D1 D2 os5 h (sT (zv T1)) (sT (zv T2)) e9 (sN f) (sI (0+i)) b d,rfl,_,zV (yI (i:=12) (xt zJ (wC rfl)) (zl rfl)) (zV (yH (yO (zg (za (i:=3) rfl) zt) (by trivial) (by trivial)) w) p),_,l++[r],_,_,_,_,rfl,k.snoc rfl rfl (by rw[a,zyY];exact y),by rw[zzJ,a];rfl⟩)
  ⟨[],[],_,_,_,_,rfl,OwsX.nil,rfl⟩
 rw[yG]at a;exact⟨f,l,h,e,b,d,k,by trivial,s⟩
def U9{α:Type}{f:α->D}{l:List α}{i:Nat}{d:D}(h:(l.map f)[i]? = some d):∃a ∈ l,d=f a:=by
 rw[zzI]at h;obtain⟨a,b,c⟩:=zzX.mp h;exact⟨a,zyA b,c.symm⟩
def qH{w:Nat}{e6 e7 e8 e10 e11 e12 e13:Option O}(h1:0<n1)(h2:0<n2)(hn:n1*n2<=8)(hm:m<=8)(hw:w<=8)(l1:D1.length=w)(l2:D2.length=w)(hm0:0<m)(L1:LawP n1 m J1 D1)(L2:LawP n2 m J2 D2):
 ∃os Ds f6 f7 f8 f10 f11 f12 f13,Ows zv (λT=>Tab m (n1*n2) T/\LD (n1*n2) m (jB n2 (yt J1) (yt J2)) 0 (yt T)) os Ds/\Ds.length=w/\forL (gT 2 (ye (gN 7) (ye (gN 8) xD))) p6 (vR true (D1.map zv) (D2.map zv)) (K5 n1 n2 m J1 J2 D1 D2 os5 e6 e7 e8 (sN []) e10 e11 e12 e13)
  = some (.nx (K5 n1 n2 m J1 J2 D1 D2 os5 f6 f7 f8 (sN os) f10 f11 f12 f13)):=by
 obtain⟨E,F,k,l,n,o,p,a,b,c,f,rfl,q,h⟩:=yJ (g:=gT 2 (ye (gN 7) (ye (gN 8) xD)))
  (λi as=>∃(k:List O) (l:List TZ) (n o p a b c f:Option O),as=K5 n1 n2 m J1 J2 D1 D2 os5 n o p (sN k) a b c f/\Ows zv (λT=>Tab m (n1*n2) T/\LD (n1*n2) m (jB n2 (yt J1) (yt J2)) 0 (yt T)) k l/\l.length=i)
  (vR true (D1.map zv) (D2.map zv)) 0 (K5 n1 n2 m J1 J2 D1 D2 os5 e6 e7 e8 (sN []) e10 e11 e12 e13) (λi x as t G=>by
   obtain⟨k,l,n,o,p,a,b,c,f,rfl,q,h⟩:=G;obtain⟨d,e,z,H,rfl⟩:=ZH t;have I:i<D1.length:=by have:=(zzG.mp z).1;rw[zzB]at this;exact this
   obtain⟨r,A,rfl⟩:=U9 z;obtain⟨s,B,rfl⟩:=U9 H;obtain⟨J,T,K,u,v,y,p1,p2,L⟩:=qs h1 h2 hn hm (L1.td r A) (L2.td s B);have C:=EY (as:=K5 n1 n2 m J1 J2 D1 D2 os5 K (sT (zv r)) (sT (zv s)) (sN k) (sN J) u v y) (i:=9) (j:=10) (by decide) rfl rfl (by rw[q.ln];exact xF (by trivial));rw[p1.ows.frz]at C;have D:=Xs p2 p1.al;exact⟨K5 n1 n2 m J1 J2 D1 D2 os5 n (sT (zv r)) (sT (zv s)) (sN k) a b c f,rfl,_,zV (yI (i:=10) (xt zJ (wC rfl)) (zl rfl)) (zV (yH (yO (zg (za (i:=2) rfl) zt) (by trivial) (by trivial)) L) C),_,l++[T],_,_,_,_,_,_,_,rfl,q.snoc rfl rfl ⟨D.1,(om L1.lj L2.lj h2 (L1.ld r A) (L2.ld s B)).congr hm0 (pH L1.lj L2.lj h2) (λ_ _ _ _=>rfl) D.2⟩,by rw[zzJ,h];rfl⟩)
  ⟨[],[],_,_,_,_,_,_,_,rfl,Ows.nil,rfl⟩
 rw[Xn,zzB,zzB,l1,l2,Nat.min_self]at h;exact⟨k,l,n,o,p,a,b,c,f,q,by trivial,F⟩
def QC{as as2:AS}{j:Nat}{ps:List O}{fr:DF}{os:List O}(hj:as[j]? = some (sN ps))(hr:fr (as.set j (some (O.nd .ls ps).frz))=some (os,as2)):dC (fV j) fr as=some ((O.nd .ls ps).frz::os,as2):=by
 unfold dC;rw[Xc hj];show((OO as (.bo j)).bind _)=_;rw[Se hj];show(fr (as.set j (some (O.nd .ls ps).frz))).bind _=_;rw[hr];rfl
def U0{as as1:AS}{fr:DF}{os:List O}(h:fr as=some (os,as1))(hl:os.length<=sizeLine):zY fr as=some (.ow (Zw os),as1):=by
 unfold zY;rw[h];show(if os.length<=sizeLine then _ else _)=_;rw[if_pos hl]
def FU{w:Nat}(h1:0<n1)(h2:0<n2)(hn:n1*n2<=8)(hm:m<=8)(hw:w<=8)(l1:D1.length=w)(l2:D2.length=w)(hm0:0<m)(L1:LawP n1 m J1 D1)(L2:LawP n2 m J2 D2):
 ∃J Ds,LawP (n1*n2) m J Ds/\Ds.length=w/\RE (ZP [(true,Tv n1 J1 D1),(true,Tv n2 J2 D2),(true,.int m)]) (Tv (n1*n2) J Ds):=by
 have p:=zzO (Nat.le_mul_of_pos_left n2 h1) hn;have q:=zzO (Nat.le_mul_of_pos_right n1 h2) hn;obtain⟨r,J,D,E,F,o,s,t⟩:=Sr h1 h2 hn L1.tj L2.tj;obtain⟨u,v,y,z,A,c,d,f,h,k,B,C⟩:=qH h1 h2 hn hm hw l1 l2 hm0 L1 L2;have l:=Xs s o.al;have b:=pH L1.lj L2.lj h2;refine⟨J,v,⟨l.1,b.congr l.2,λT n=>(k.al T n).1,λT n=>(k.al T n).2.congr hm0 b l.2 (λ_ _ _ _=>rfl)⟩,B,ym rfl (zd (as1:=[sT (Tv n1 J1 D1),sT (Tv n2 J2 D2),sI m,sI ((n1*n2:Nat):Int),none,none,none,none,none,none,none,none,none,none]) ?_ (zd (yj (zi (za rfl) zb rfl rfl) (zl rfl)) (zd (yI (xt zJ (wC rfl)) (zl rfl)) (zd (yH (yO (zg (za rfl) zt) (by trivial) (by trivial)) t) (zd (yI (xt zJ (wC rfl)) (zl rfl)) (zd (yH ?_ C) ?_))))))⟩
 . have:=yj (st:=true) (i:=3) (as:=[sT (Tv n1 J1 D1),sT (Tv n2 J2 D2),sI m,none,none,none,none,none,none,none,none,none,none,none]) (yV (zi (g:=zk) (za (i:=0) rfl) (zb (x:=.int 0)) rfl rfl) (zi (g:=zk) (za (i:=1) rfl) (zb (x:=.int 0)) rfl rfl) (zO (by trivial) (by trivial)) (zO (by trivial) (by trivial))) (zl rfl);rw[zzV];exact this
 . rfl
 . have e:=yD (as:=K5 n1 n2 m J1 J2 D1 D2 r y z A (sN u) c d f h) (a:=fV 3) (za rfl) (QC (j:=5) rfl (QC (j:=9) (fr:=dN) rfl rfl));rw[o.ows.frz,k.frz]at e;exact⟨_,XB (U0 e (wC rfl)) rfl,rfl,rfl⟩
end
abbrev HF:List D:=[.tup [.int 2,.int 2],.tup [.int 3,.int 2],.tup [.int 2,.int 3],.tup [.int 4,.int 2],.tup [.int 2,.int 4],.tup [.int 2,.int 2]]
def Ow(x:Int):∃a b:Nat,2<=a/\2<=b/\a*b<=8/\zk (.lst HF) (.int (x%6))=some (.im (.tup [.int a,.int b])):=by
 rcases(show x%6=0\/x%6=1\/x%6=2\/x%6=3\/x%6=4\/x%6=5 by trivial)with e|e|e|e|e|e<;>rw[e]
 . exact⟨2,2,by decide,by decide,by decide,rfl⟩
 . exact⟨3,2,by decide,by decide,by decide,rfl⟩
 . exact⟨2,3,by decide,by decide,by decide,rfl⟩
 . exact⟨4,2,by decide,by decide,by decide,rfl⟩
 . exact⟨2,4,by decide,by decide,by decide,rfl⟩
 . exact⟨2,2,by decide,by decide,by decide,rfl⟩
def sm(x:Int):∃n:Nat,2<=n/\n<=8/\zk (.lst [.int 2,.int 3,.int 4,.int 5,.int 3,.int 4,.int 6,.int 8]) (.int (x%8))=some (.im (.int n)):=by
 rcases(show x%8=0\/x%8=1\/x%8=2\/x%8=3\/x%8=4\/x%8=5\/x%8=6\/x%8=7 by trivial)with e|e|e|e|e|e|e|e<;>rw[e]
 . exact⟨2,by decide,by decide,rfl⟩
 . exact⟨3,by decide,by decide,rfl⟩
 . exact⟨4,by decide,by decide,rfl⟩
 . exact⟨5,by decide,by decide,rfl⟩
 . exact⟨3,by decide,by decide,rfl⟩
 . exact⟨4,by decide,by decide,rfl⟩
 . exact⟨6,by decide,by decide,rfl⟩
 . exact⟨8,by decide,by decide,rfl⟩
def pC{x:Int}{n:Nat}(h:2<=n):KN (x%4) n:=by
 rcases(show x%4=0\/x%4=1\/x%4=2\/x%4=3 by trivial)with e|e|e|e<;>rw[e]
 . exact .inl ⟨rfl,by trivial⟩
 . exact .inr (.inl ⟨rfl,by trivial⟩)
 . exact .inr (.inr (.inl ⟨rfl,h⟩))
 . exact .inr (.inr (.inr (.inl ⟨rfl,h⟩)))
def Dr{as:AS}:WE (yF (dC (zY (dC yk (dC yk dN))) (dC (zY (dC xv (dC yk dN))) (dC (zY (dC yk (dC xv dN))) (dC (zY (dC xo (dC yk dN))) (dC (zY (dC yk (dC xo dN))) (dC (zY (dC yk (dC yk dN))) dN))))))) as (.lst HF):=by
 have t:∀a b:Int,WD (zY (dC (fC (.int a)) (dC (fC (.int b)) dN))) as true (.tup [.int a,.int b]):=λa b=>WI (ze zb (ze zb zJ)) (wC rfl) rfl;exact xu (ze (t 2 2) (ze (t 3 2) (ze (t 2 3) (ze (t 4 2) (ze (t 2 4) (ze (t 2 2) zJ)))))) (wC rfl) rfl rfl
def Iz{c:Int}{m w:Nat}(hm0:0<m)(hm:m<=8)(hw:w<=8):∃(n:Nat) (J:TZ) (Ds:List TZ),1<=n/\n<=8/\LawP n m J Ds/\Ds.length=w/\RE (WC [(true,.int c),(true,.int m),(true,.int w)]) (Tv n J Ds):=by
 obtain⟨o,hl,p,Q⟩:=I_ (as:=[sI c,sI m,sI w,none,none,none,none,none]) (a:=fV 0) (m:=5) (by trivial) (WD.e (za rfl)) (WD.e zb);obtain⟨v,R,_⟩:=at2 p (by trivial) (by trivial);obtain⟨I,K,_⟩:=at2 p (k:=1) (by trivial) (by trivial);obtain⟨y,B,_⟩:=at2 p (k:=2) (by trivial) (by trivial);obtain⟨x3,E,_⟩:=at2 p (k:=3) (by trivial) (by trivial);obtain⟨x4,S,_⟩:=at2 p (k:=4) (by trivial) (by trivial);have T:0<=v%7/\v%7<7:=⟨by trivial,by trivial⟩;have start:∀(C:SF) (x:D),Rt (C [sI c,sI m,sI w,sT (zc o),sI (v%7),none,none,none]) x->Rt (zm (zz true 3 (zp (aC zh (aC Z7 aN)) yu)) (zm (zz true 4 (f2 (f2 zD zX zk) (fC (.int 7)) zB)) C) [sI c,sI m,sI w,none,none,none,none,none]) x:=λC x h=>
  zd (yU Q (zl rfl)) (zd (yj (yc (zi (za rfl) zb R rfl) zb (by decide)) (zl rfl)) h)
 generalize v%7=k at T start
 by_cases L:4<k
 . obtain⟨a,b,U,V,i,W⟩:=Ow I;obtain⟨J1,D1,F,G,p1⟩:=PK (pC U) (zzO (Nat.le_mul_of_pos_right a (by trivial)) i) hm0 hm hw;obtain⟨J2,D2,X,Y,p2⟩:=PK (pC V) (zzO (Nat.le_mul_of_pos_left b (by trivial)) i) hm0 hm hw;obtain⟨J,d,Z,q2,q4⟩:=FU (by trivial) (by trivial) i hm hw G Y hm0 F X;refine⟨a*b,J,d,Nat.mul_pos (by trivial) (by trivial),i,Z,q2,ym rfl (start _ _ (y7 (wa (zF (V0 (za rfl) zb) (congrArg some (zyO L))) (zd (yj (FN Dr (WD.e (yc (zi (za rfl) zb K rfl) zb (by decide))) W) (zl rfl)) (zd (yU (Ki (WD.e (yc (zi (za rfl) zb B rfl) zb (by decide))) (WD.e (zi (za rfl) zb rfl rfl)) (WD.e (za rfl)) (WD.e (za rfl)) (WD.e (zi (za rfl) zb E rfl)) p1) (zl rfl)) (yi (vf (WD.e (za rfl)) (Ki (WD.e (yc (zi (za rfl) zb S rfl) zb (by decide))) (WD.e (zi (za rfl) zb rfl rfl)) (WD.e (za rfl)) (WD.e (za rfl)) (WD.e (yC (zi (za rfl) zb E rfl) zb)) p2) (WD.e (za rfl)) q4)))))))⟩
 . obtain⟨n,n2,n8,en⟩:=sm I;have j:∀f:Nat,KN k f->f<=8->∃(n:Nat) (J:TZ) (d:List TZ),1<=n/\n<=8/\LawP n m J d/\d.length=w/\Rt (zT (zp (aC zP (aC yK (aC zj (aC zu (aC (f2 zD xv zk) aN))))) wg) [sI c,sI m,sI w,sT (zc o),sI k,none,none,sI f]) (Tv n J d):=λf A M=>by
    obtain⟨J,d,F,G,p1⟩:=PK A M hm0 hm hw;refine⟨f,J,d, ?_,M,F,G,yi (Ki (WD.e (za rfl)) (WD.e (za rfl)) (WD.e (za rfl)) (WD.e (za rfl)) (WD.e (zi (za rfl) zb E rfl)) p1)⟩;unfold KN at A;trivial
   have l:=congrArg some (zyG L);have g:zz true 7 (f2 (yF (dC yk (dC xv (dC xo (dC Z7 (dC xv (dC xo (dC Wx (dC YR dN))))))))) (f2 (f2 zD zW zk) YR zB) zk) [sI c,sI m,sI w,sT (zc o),sI k,none,none,none]=some (.nx [sI c,sI m,sI w,sT (zc o),sI k,none,none,sI n]):=
    yj (FN (xu (ze zb (ze zb (ze zb (ze zb (ze zb (ze zb (ze zb (ze zb zJ)))))))) (wC rfl) rfl rfl) (WD.e (yc (zi (za rfl) zb K rfl) zb (by decide))) en) (zl rfl)
   by_cases N:k=4
   . subst N;obtain⟨f,J,d,q,r,s,t,u⟩:=j 4 (.inr (.inr (.inr (.inr ⟨rfl,rfl⟩)))) (by decide);exact⟨f,J,d,q,r,s,t,ym rfl (start _ _ (zd (zL (zF (V0 (za rfl) zb) l) rfl) (zd g (zd (zL (ZK (zF (yo (za rfl) zb rfl) rfl) (λh=>nomatch h) (λ_=>rfl)) rfl) (zd (wd (zF (yo (za rfl) zb rfl) rfl) (yj zb (zl rfl))) u)))))⟩
   . have f4:∀e:Option O,WT (fT (f2 zP xo (zy .Eq))) [sI c,sI m,sI w,sT (zc o),sI k,none,none,e] false:=λe=>zF (yo (za rfl) zb rfl) (by show some (k==4)=_;simp[N])
     by_cases P:k=0/\y%9=0
     . obtain⟨rfl,h9⟩:=P;obtain⟨f,J,d,q,r,s,t,u⟩:=j 1 (.inl ⟨rfl,zzN _⟩) (by decide);exact⟨f,J,d,q,r,s,t,ym rfl (start _ _ (zd (zL (zF (V0 (za rfl) zb) l) rfl) (zd g (zd (wd (ZK (zF (yo (za rfl) zb rfl) rfl) (λ_=>zF (yo (yc (zi (za rfl) zb B rfl) zb (by decide)) zb rfl) (by show some (y%9==0)=_;simp[h9])) (λh=>nomatch h)) (yj zb (zl rfl))) (zd (zL (f4 _) rfl) u)))))⟩
     . have A:KN k n:=by unfold KN;trivial
       obtain⟨f,J,d,q,r,s,t,u⟩:=j n A n8;refine⟨f,J,d,q,r,s,t,ym rfl (start _ _ (zd (zL (zF (V0 (za rfl) zb) l) rfl) (zd g (zd (zL (ZK (zF (yo (za rfl) zb rfl) rfl) (λh=>zF (yo (yc (zi (za rfl) zb B rfl) zb (by decide)) zb rfl) ?_) (λ_=>rfl)) rfl) (zd (zL (f4 _) rfl) u)))))⟩;have H:k=0:=by simpa using h
       show some (y%9==0)=some false;have:¬y%9=0:=λz=>P ⟨H,z⟩;simp[this]
def Dw{f:EF}{as:AS}{ds:List D}(h:WE f as (.lst ds)):Vd f as=some (ds.map λd=>(true,d),as):=by
 obtain⟨o,h1,h2,h3⟩:=h;unfold Vd;rw[h1];have e:YU as (.ow o)=some ((o.str,o.toD),as):=rfl;show(YU as (RV.ow o)).bind (λq=>(L5 q.1).bind λds=>some (ds,q.2))=_;rw[e,h2,h3];show some (kids true ds,as)=_;rw[Lc]
theorem Pz:∀(l:List Int) (k:Nat) (h:k<l.length),(l[k]::l.eraseIdx k).Perm l
 |x::r,0,_=>List.Perm.refl _
 |x::r,k+1,h=>(List.Perm.swap _ _ _).trans ((Pz r k (by simpa using h)).cons x)
abbrev zx(n:Nat):List Int:=(List.range n).map λ(i:Nat)=>(i:Int)
def NQ{c:Int}{n:Nat}(hn:0<n)(hn8:n<=8):∃F:List Int,F.Perm (zx n)/\RE (w_ [(true,.int c),(true,.int n)]) (zc F):=by
 obtain⟨w,q,H,z⟩:=I_ (as:=[sI c,sI n,sN ((zx n).map xf),sN [],none]) (a:=fV 0) (b:=fV 1) (by trivial) (WD.e (za rfl)) (WD.e (za rfl));obtain⟨A,B,L,F,p,rfl,m,f⟩:=yJ (g:=gN 4)
  (λi as=>∃(L F:List Int) (p:Option O),as=[sI c,sI n,sN (L.map xf),sN (F.map xf),p]/\(L++F).Perm (zx n)/\L.length+i=n)
  ((w.map D.int).map λd=>(true,d)) 0 [sI c,sI n,sN ((zx n).map xf),sN [],none] (λi x as h C=>by
    obtain⟨L,F,p,rfl,m,f⟩:=C;have I:i<n:=by
     have:=(zzG.mp h).1;rw[zzB,zzB,q]at this;exact this
    obtain⟨y,rfl⟩:∃y:Int,x=(true,.int y):=by
     rw[zyB,zzI]at h;obtain⟨a,_,E⟩:=zzX.mp h;exact⟨a,E.symm⟩
    have r:(0:Int)<((L.map xf).length:Int):=by rw[zzB];trivial
    have s:=zyN y (show((L.map xf).length:Int)≠0 by trivial);have t:=zyH y r;have o:(y%((L.map xf).length:Int)).toNat<L.length:=by rw[zzB]at s t ⊢;trivial
    generalize j:(y%((L.map xf).length:Int)).toNat=k at o;have l:=HU (as:=[sI c,sI n,sN (L.map xf),sN (F.map xf),sI y]) (i:=2) rfl (yc (za (i:=4) rfl) (DV (i:=2) rfl) r) s t (by rw[zzB];trivial) (by rw[j,zzI,zzE o];rfl);rw[j,show(L.map xf).eraseIdx k=(L.eraseIdx k).map xf by rw[List.eraseIdx_eq_take_drop_succ,List.eraseIdx_eq_take_drop_succ,zyM,List.map_take,List.map_drop]]at l;have u:=U2 (i:=3) rfl l rfl (by rw[zzB];have:=m.length_eq;rw[zzJ,zzB,zyU]at this;exact xF (by trivial));rw[<-PR]at u;refine⟨_,rfl,_,u,L.eraseIdx k,F++[L[k]],_,rfl, ?_,by rw[List.length_eraseIdx_of_lt o];trivial⟩;rw[<-zxD];refine(List.perm_append_singleton _ _).trans ?_;rw[<-List.cons_append];exact((Pz L k o).append_right F).trans m)
  ⟨zx n,[],none,rfl,by rw[zyE],by rw[zzB,zyU];rfl⟩
 rw[zzB,zzB,q]at f;have G:L=[]:=List.eq_nil_of_length_eq_zero (by trivial);subst G;have v:=yI (i:=2) (as:=[sI c,sI n,none,none,none]) (QH (a:=fV 1) (g:=Bw) (zs:=(zx n).map D.int) (WD.e (za rfl)) (by
  show(if(0:Int)<=n/\(n:Int)<=100000 then _ else _)=_;rw[if_pos ⟨by trivial,by trivial⟩,zyB];rfl)) (zl rfl)
 rw[V8]at v;exact⟨F,m,ym rfl (zd v (zd (yI (xt zJ (wC rfl)) (zl rfl)) (zd (yH (Dw z) B) ⟨_,FC rfl (xj F).2.1,(wy F).1,(wy F).2⟩)))⟩
abbrev EI:Str:="abcdefghijklmnopqrstuvwxyz"
def O1:∀k,k<26->EI.cps.toList[k]? = some (97+k):=by decide +kernel
def Sb{i:Int}(h0:0<=i)(h1:i<26):zk (.str EI) (.int i)=some (.im (.str ⟨#[97+i.toNat]⟩)):=by
 show(if EI.length<=sizeLine then(La EI.cps.toList i).bind (λc=>some (R0.im (.str ⟨#[c]⟩)))else none)=_;rw[if_pos (show EI.length<=sizeLine by decide +kernel)];have:=vZ (O1 i.toNat (by trivial));rw[show((i.toNat:Nat):Int)=i by trivial]at this;rw[this];rfl
theorem N3:∀l:List Str,Q9 (l.map D.str)=some l
 | []=>rfl
 |x::r=>by
  show(Q9 (r.map D.str)).bind _=_;rw[N3 r];rfl
theorem uZ:∀l:List Str,(∀s ∈ l,s.length=1)->(l.map (·.length)).sum=l.length
 | [],_=>rfl
 |x::r,h=>by
  show x.length+(r.map (·.length)).sum=r.length+1;rw[h x (zzF ..),uZ r λs m=>h s (zzD _ m)];trivial
def len_app(a b:Str):(a++b).length=a.length+b.length:=by
 show(a++b).cps.size=a.cps.size+b.cps.size;rw[Str.cps_append,Array.size_append]
theorem NW:∀l:List Str,(∀s ∈ l,s.length=1)->(Str.join "" l).length=l.length
 | [],_=>rfl
 | [x],h=>h x (zzF ..)
 |x::y::r,h=>by
  show(x++""++Str.join "" (y::r)).length=_;rw[len_app,len_app,h x (zzF ..),NW (y::r) λs m=>h s (zzD _ m)];show 1+0+(r.length+1)=r.length+1+1;trivial
def add_str{a b:Str}(h:a.length+b.length<=1000):WJ .Add (.str a) (.str b)=some (.im (.str (a++b))):=if_pos (LV (by trivial))
abbrev nm(A B:Str)(x:Int)(k:Nat):Str:=A++⟨#[97+((x+3*(k:Int))%26).toNat]⟩++B
def An{A B:Str}{x:Int}{k j:Nat}(hk:k<10)(hj:j<10)(h:nm A B x k=nm A B x j):k=j:=by
 have h:=congrArg (λs:Str=>s.cps.toList) h;simp only[Str.cps_append,Array.toList_append,zxD,List.append_cancel_left_eq]at h;have h:=(List.append_cancel_right h);injection h with h
 trivial
def Sa{c:Int}:∃ss:List Str,ss.length=10/\ss.Nodup/\RE (Y2 [(true,.int c),(true,.int (10:Nat))]) (.lst (ss.map D.str)):=by
 obtain⟨j,hl,L,M⟩:=I_ (as:=[sI c,sI (10:Nat),sT (.str EI),none,none,none,none,none]) (a:=fV 0) (m:=9) (by trivial) (WD.e (za rfl)) (WD.e zb);obtain⟨n,N,_⟩:=at2 L (k:=8) (by trivial) (by trivial);have hk:(1+c%8).toNat<=9:=by trivial
 have P:WE (Qr zD oN (oS (f2 zW (f2 zh YR zB) zA)) T6) [sI c,sI (10:Nat),sT (.str EI),sT (zc j),none,none,none,none] (.lst ((j.take (1+c%8).toNat).map D.int)):=by
  refine U_ (hi:=some (1+c%8)) (WD.e (za rfl)) rfl ?_ ?_
  . have:=yC (as:=[sI c,sI (10:Nat),sT (.str EI),sT (zc j),none,none,none,none]) (zb (x:=.int 1)) (yc (za (i:=0) rfl) (zb (x:=.int 8)) (by decide));unfold oS;unfold WD at this;rw[this];rfl
  . have:=OB (xs:=(j.take (1+c%8).toNat).map D.int) (ys:=(j.drop (1+c%8).toNat).map D.int);rw[<-zyM,List.take_append_drop,zzB,zzS,Nat.min_eq_left (by trivial),show(((1+c%8).toNat:Nat):Int)=1+c%8 by trivial]at this;exact this
 obtain⟨l,R,F,S⟩:=EO D.str (Q:=λs=>s.length=1) (cap:=[none,some 2]) (g:=gN 0) (fe:=f2 zj (f2 zh (fC (.int 26)) zB) zk) (P8 P) (by rw[zzB,zzB,zzS];trivial) λy m=>by
  rw[zyB]at m;obtain⟨z,_,rfl⟩:=zxE.mp m;exact⟨[sI z,sT (.str EI)],⟨#[97+(z%26).toNat]⟩,rfl,WD.e (zi (za rfl) (yc (za rfl) zb (by decide)) (Sb (by trivial) (by trivial)) rfl),rfl⟩
 rw[zzB,zzB,zzS]at R;have r:=NW l F;have G:WD (wm .str (fC (.str "")) (aC (zq (yw (Qr zD oN (oS (f2 zW (f2 zh YR zB) zA)) T6)) [none,some 2] zG zH (f2 zj (f2 zh (fC (.int 26)) zB) zk)) aN) EK) [sI c,sI (10:Nat),sT (.str EI),sT (zc j),none,none,none,none] true (.str (Str.join "" l)):=
  Vi zb rfl (vk S zt) (by
   show(Q9 (l.map D.str)).bind _=_;rw[N3];show(if(l.map (·.length)).sum+l.length*0<=16777216 then some (R0.im (.str (Txt.join "" l)))else none)=_;rw[if_pos (by rw[uZ l F];trivial),Oy]) rfl
 generalize Str.join "" l=b at r G;have H:(0:Int)<(b.length:Int):=by trivial
 have t:b.length<=sizeLine:=LV (by trivial);have T:=zyN (c/8) (show(b.length:Int)≠0 by trivial);have U:=zyH (c/8) H;generalize u:c/8%(b.length:Int)=d at T U;have V:=Txt.slice_le b none (some d);have W:=Txt.slice_le b (some (d+1)) none;have I:Ce (.str b) none (some d)=some (.im (.str (Txt.slice b none (some d)))):=if_pos t;have J:Ce (.str b) (some (d+1)) none=some (.im (.str (Txt.slice b (some (d+1)) none))):=if_pos t;generalize Txt.slice b none (some d)=A at V I;generalize Txt.slice b (some (d+1)) none=B at W J;have o:∀(f:EF) (as:AS) (k:Int),WD f as true (.int k)->oS f as=some (some k,as):=λf as k h=>by
  unfold oS;unfold WD at h;rw[h];rfl
 obtain⟨X,Y,p,v,rfl,q⟩:=yJ (g:=gN 7)
  (λi as=>∃(p:List O) (v:Option O),as=[sI c,sI (10:Nat),sT (.str EI),sT (zc j),sT (.str b),sI d,sN p,v]/\Ows D.str (λ_=>True) p ((List.range i).map (nm A B n)))
  (y6 0 10) 0 [sI c,sI (10:Nat),sT (.str EI),sT (zc j),sT (.str b),sI d,sN [],none] (λi x as w Z=>by
   obtain⟨p,v,rfl,q⟩:=Z;obtain⟨rfl,hi⟩:=xg w;rw[zyY]at q;have d1:=Sb (i:=(n+3*((0:Int)+i))%26) (by trivial) (by trivial);have e0:(n+3*((0:Int)+i))%26=(n+3*(i:Int))%26:=by rw[Int.zero_add]
   obtain⟨C,o1,o2⟩:=SO (as:=[sI c,sI (10:Nat),sT (.str EI),sT (zc j),sT (.str b),sI d,sN p,sI (0+i)]) (i:=6) (a:=f2 (f2 (Qr zP oN (oS yP) Ce) (f2 zu (f2 (f2 (f2 zD YR zk) (f2 xv yK zE) zA) (fC (.int 26)) zB) zk) zA) (Qr zP (oS (f2 yP zW zA)) oN Ce) zA) rfl q (by rw[zzB,zyU];trivial)
    (WD.e (zZ (zZ (GC (za rfl) rfl (o _ _ _ (za rfl)) I) (zi (za rfl) (yc (yC (zi (za rfl) zb N rfl) (yV zb (za rfl) (zO (by decide) (by decide)) (zO (by trivial) (by trivial)))) zb (by decide)) d1 rfl) (add_str (by show A.length+1<=_;trivial))) (GC (za rfl) (o _ _ _ (yC (za rfl) zb)) rfl J) (by
     rw[e0];exact add_str (by rw[len_app];show A.length+1+B.length<=_;trivial)))) trivial
   refine⟨_,rfl,_,o2,C,_,rfl, ?_⟩;rw[show 0+i+1=i+1 by trivial,List.range_succ,zyM];exact o1)
  ⟨[],none,rfl,Ows.nil⟩
 rw[yG,zyY]at q;have K:=yj (st:=true) (i:=5) (as:=[sI c,sI (10:Nat),sT (.str EI),sT (zc j),sT (.str b),none,none,none]) (yc (wN (za (i:=0) rfl) (zb (x:=.int 8)) (by decide) (zO (by decide) (by decide))) (xh (g:=vm) (zg (za (i:=4) rfl) zt) (if_pos t) rfl) H) (zl rfl);rw[u]at K;refine⟨(List.range 10).map (nm A B n),by rw[zzB,zyU], ?_,ym rfl (zd (yj zb (zl rfl)) (zd (yU M (zl rfl)) (zd (yj G (zl rfl)) (zd K (zd (yI (xt zJ (wC rfl)) (zl rfl)) (zd (yH (yO (zg (za rfl) zt) (by decide) (by decide)) Y) (Ows.retB rfl q)))))))⟩;exact List.pairwise_map.mpr ((List.nodup_range).imp_of_mem λha r E he=>E (An (List.mem_range.mp ha) (List.mem_range.mp r) he))
def ug{a b:EF}{as:AS}{d1 d2:List D}(ha:WE a as (.lst d1))(hb:WE b as (.lst d2)):Me (aC a (aC b aN)) as=some (vR true d1 d2,as):=by
 have h:=vk ha (vk hb (zt));unfold WA at h;unfold Me;rw[h];rfl
abbrev qk(x:Int):wx:=(true,.int x)
def Jk{n:Nat}:y6 0 n=(zx n).map qk:=by
 rw[zyB];exact List.map_congr_left λi _=>by show(true,D.int (0+(i:Int)))=_;rw[Int.zero_add];rfl
theorem Qj{g:GF}{tt:TF}{fe:EF}{as0:AS}:∀{xs:List Int},(∀x ∈ xs,∃as1 b,g (qk x) as0=some as1/\WT tt as1 b/\WD fe as1 true (.int x))->∃l:List Int,yR g tt fe as0 (xs.map qk)=some (l.map xf)/\l.Sublist xs
 | [],_=>⟨_,rfl,List.Sublist.slnil⟩
 |y::i,H=>by
  obtain⟨f,b,a,c,h⟩:=H y (zzF ..);obtain⟨l,d,e⟩:=Qj λz m=>H z (zzD _ m);cases b with
  |true=>exact⟨y::l,Bd a c h d,e.cons_cons y⟩
  |false=>exact⟨l,GK a c d,e.cons y⟩
abbrev yx(p:Str×List Int):D:=.tup [.str p.1,zc p.2]
abbrev Sg(n:Nat)(S:SS):Prop:=S.length<=10/\(S.map (·.1)).Nodup/\∀p ∈ S,p.2.Sublist (zx n)
abbrev uQ:List Int:=[1,2,4,8,16,32,64,128]
theorem E9(st:Bool):∀(a b:List D),(vR st a b).length<=b.length
 | [],b=>Nat.zero_le _
 |_::_,[]=>zzN _
 |_::a,_::b=>Nat.succ_le_succ (E9 st a b)
def SN{c:Int}{n:Nat}{ns:List Str}(hn:n<=8)(hl:ns.length<=10)(nd:ns.Nodup):∃ss:SS,Sg n ss/\RE (Zn [(true,.int c),(true,.int n),(true,.lst (ns.map D.str))]) (.lst (ss.map yx)):=by
 obtain⟨B,V,W,C⟩:=I_ (as:=[sI c,sI n,sT (.lst (ns.map D.str)),sN [],none,none]) (a:=fV 0) (b:=fP xI vm) (m:=ns.length) (by omega) (WD.e (za rfl)) (WD.e (xh (zg (za rfl) zt) (by show some (R0.im (.int ((ns.map D.str).length:Int)))=_;rw[zzB]) rfl));obtain⟨E,F,h,l,o,t,rfl,k,u,f⟩:=yJ (g:=gT 2 (ye vp (ye (gN 5) xD)))
  (λi as=>∃(h:List O) (l:SS) (o t:Option O),as=[sI c,sI n,sT (.lst (ns.map D.str)),sN h,o,t]/\Ows yx (λp=>p.2.Sublist (zx n)) h l/\l.length=i/\l.map (·.1)=ns.take i)
  (vR true (B.map D.int) (ns.map D.str)) 0 [sI c,sI n,sT (.lst (ns.map D.str)),sN [],none,none] (λi x as v G=>by
   obtain⟨h,l,o,t,rfl,k,j,f⟩:=G;obtain⟨d,e,H,w,rfl⟩:=ZH v;have I:i<ns.length:=by have:=(zzG.mp w).1;rw[zzB]at this;exact this
   obtain⟨y,X,rfl⟩:=U9 H;rw[zzI]at w;obtain⟨s,J,rfl⟩:=zzX.mp w;obtain⟨r,A,K⟩:=Qj (g:=gN 0) (as0:=[none,sI y]) (tt:=fT (f2 (f2 (f2 zj (f2 (yF (dC zW (dC yk (dC xo (dC YR (dC (fC (.int 16)) (dC (fC (.int 32)) (dC (fC (.int 64)) (dC (fC (.int 128)) dN))))))))) zh zk) zR) yk zB) zW (zy .Eq))) (fe:=fV 0) (xs:=zx n) λb m=>by
    obtain⟨i,L,rfl⟩:=zxE.mp m;have Y:=List.mem_range.mp L;have M:(0:Int)<=(i:Int):=by omega
    obtain⟨q,N,Q⟩:=RD (r:=uQ) (P:=λx=>0<x/\x<1000) M (by show(i:Int)<8;omega) (by decide);exact⟨[sI (i:Int),sI y],_,rfl,zF (yo (yc (wN (za rfl) (FN (xu (ze zb (ze zb (ze zb (ze zb (ze zb (ze zb (ze zb (ze zb zJ)))))))) (wC rfl) rfl rfl) (WD.e (za rfl)) N) Q.1 (zO (by omega) (by omega))) zb (by decide)) zb rfl) rfl,za rfl⟩
   rw[<-Jk]at A;have R:=ZX (as:=[sI c,sI n,sT (.lst (ns.map D.str)),sN h,sI y,sT (.str s)]) (cap:=[none,some 4]) (yO (zg (za (i:=1) rfl) zt) (by omega) (by omega)) (by rw[yG];exact LV (by omega)) A;obtain⟨z,S,T⟩:=SO (x:=(s,r)) (i:=3) rfl k (by omega) (XJ (ze (za (i:=5) rfl) (vV R zJ)) (wC rfl) (by show(true&&((O.nd .ls (r.map xf)).str&&true))=true;rw[(wy r).1];rfl) (by show D.tup [.str s,(O.nd .ls (r.map xf)).toD]=_;rw[(wy r).2])) K;exact⟨_,rfl,_,T,z,l++[(s,r)],_,_,rfl,S,by rw[zzJ,j];show 0+i+1=_;omega,by rw[zyM,f,zyY,List.take_succ,J];rfl⟩)
  ⟨[],[],none,none,rfl,Ows.nil,rfl,rfl⟩
 have U:=zzO (Nat.le_of_eq (u.trans (zyY _))) (zzO (E9 _ _ _) (zzO (Nat.le_of_eq (zzB ..)) hl));exact⟨l,⟨U,by rw[f];exact nd.sublist (List.take_sublist _ _),k.al⟩,ym rfl (zd (yI (xt zJ (wC rfl)) (zl rfl)) (zd (yH (ug C (WD.e (za rfl))) F) (Ows.retB rfl k)))⟩
theorem any_ints(b:Int):∀r:List Int,∃t,anyF (λy=>xk 50 y (.int b)) (r.map D.int)=some t
 | []=>⟨_,rfl⟩
 |x::r=>by
  obtain⟨t,h⟩:=any_ints b r;refine⟨(x==b)||t, ?_⟩;show(some (x==b)).bind _=_;rw[zyL,h];rfl
theorem PB{b:Int}:∀{r:List Int},b ∈ r->∃j:Nat,j<r.length/\r[j]? = some b/\VY (λy=>xk 50 y (.int b)) (r.map D.int)=some j
 |x::r,m=>by
  by_cases e:x=b
  . obtain⟨t,h⟩:=any_ints b r;refine⟨0,Nat.succ_pos _,by rw[e];rfl, ?_⟩;show(some (x==b)).bind _=_;rw[zyL,show(x==b)=true by simp[e]];show(anyF _ (r.map D.int)).bind _=_;rw[h];rfl
  . obtain⟨j,a,c,d⟩:=PB ((zzC.mp m).resolve_left λz=>e z.symm);refine⟨j+1,Nat.succ_lt_succ a,by simpa using c, ?_⟩;show(some (x==b)).bind _=_;rw[zyL,show(x==b)=false by simp[e]];show(VY _ (r.map D.int)).bind _=_;rw[d];rfl
def Tj{F:List Int}{n:Nat}(h:F.Perm (zx n)):Row n F/\∀b:Int,0<=b->b<n->b ∈ F:=by
 refine⟨⟨by rw[h.length_eq,zzB,zyU],λx m=>?_⟩,λb c d=>h.mem_iff.mpr ?_⟩
 . obtain⟨i,a,rfl⟩:=zxE.mp (h.mem_iff.mp m);have:=List.mem_range.mp a;trivial
 . exact zxE.mpr ⟨b.toNat,List.mem_range.mpr (by trivial),by trivial⟩
def C4{α:Type}(toD:α->D){Q:Nat->α->Prop}{fr:AF}{cap:List (Option Nat)}{fe:EF}{as:AS}{n:Nat}{u:Bool}(h1:WA fr as [(u,.int n)])(hl:n<=1000)(H:∀i:Nat,i<n->∃as1 a,gN 0 (true,.int (i:Int)) (wk cap as)=some as1/\WE fe as1 (toD a)/\Q i a):
 ∃l:List α,l.length=n/\(∀i a,l[i]? = some a->Q i a)/\WE (zq (ya fr yb) cap zG zH fe) as (.lst (l.map toD)):=by
 obtain⟨l,b,c,d⟩:=GG toD (yO h1 (by trivial) (by trivial)) (by rw[yG];trivial) (λi y m=>by
  obtain⟨rfl,e⟩:=xg m;rw[Int.zero_add];exact H i (by trivial))
 rw[yG]at b;exact⟨l,by trivial,c,d⟩
def So{F:List Int}{n:Nat}(h:F.Perm (zx n)){v w:Int}(hv:zC n v)(hw:zC n w)(e:zw F v=zw F w):v=w:=by
 have a:=(Tj h).1.1;have b:=hv.1;have c:=hv.2;have d:=hw.1;have f:=hw.2;have nd:F.Nodup:=by
  refine h.nodup_iff.mpr (List.pairwise_map.mpr (List.nodup_range.imp λz q=>z (by trivial)))
 rw[Zr (by trivial),Zr (by trivial)]at e;have:=(List.getElem_inj nd).mp e;trivial
def tH{as:AS}{F:List Int}{n:Nat}{cap:List (Option Nat)}{fr:AF}(hF:F.Perm (zx n))(hn:n<=8)(h1:WA fr as [(true,.int n)])(h2:∀b:Int,gN 0 (true,.int b) (wk cap as)=some [sI b,sT (zc F)]):
 ∃B,(Row n B/\(∀v,zC n v->zw F (zw B v)=v)/\∀v,zC n v->zw B (zw F v)=v)/\WE (zq (ya fr yb) cap zG zH (wm .lst zj xr x6)) as (zc B):=by
 obtain⟨c,k⟩:=Tj hF;obtain⟨B,l,d,o⟩:=C4 D.int (Q:=λi x=>zw F x=i/\zC n x) (fe:=wm .lst zj xr x6) h1 (by trivial) λb t=>by
  obtain⟨j,p,q,r⟩:=PB (k b (by trivial) (by trivial));refine⟨_,(j:Int),h2 b,WD.e (Vi (za rfl) rfl (zg (za rfl) zt) ?_ rfl), ?_,by trivial,by rw[c.1]at p;trivial⟩
  . show(VY _ (F.map D.int)).bind _=_;rw[r];show(if(F.map D.int).length<=1000 then some (R0.im (.int j))else none)=_;rw[if_pos (by rw[zzB,c.1];trivial)]
  . unfold zw;rw[zyI,q];rfl
 have f:Row n B:=⟨l,λx m=>by
  obtain⟨i,s⟩:=zyV m;exact(d i x s).2⟩
 have g:∀v,zC n v->zw F (zw B v)=v:=λv a=>by
  have u:=a.1;have w:=a.2;have h:v.toNat<B.length:=by trivial
  rw[Zr h,(d _ _ (zzE h)).1];trivial
 exact⟨B,⟨f,g,λv a=>So hF (rowAt f (rowAt c a).2).2 a (g _ (rowAt c a).2)⟩,o⟩
def RI{f:EF}{g:GF}{as as':AS}{x:D}(h:WE f as x)(hg:g (true,x) as=some as'):vS f g as=some (.nx as'):=by
 obtain⟨o,a,b,c⟩:=h;exact Du a (by rw[b,c];exact hg)
def si{as:AS}{F B:List Int}{J:TZ}{n:Nat}{fr:AF}{cap:List (Option Nat)}(hn:n<=8)(hF:Row n F)(hB:Row n B)(hJ:Tab n n J)(h1:WA fr as [(true,.int n)])(h2:∀a:Int,gN 0 (true,.int a) (wk cap as)=some [sI a,sT (zc F),sI n,sT (zv J),sT (zc B)]):
 ∃T,RM n n (λa b=>zw F (yt J (zw B a) (zw B b))) T/\WE (zq (ya fr yb) cap zG zH (zq (ya xI yb) [none,some 1,some 3,some 4,some 0] zG zH (f2 zj (f2 (f2 zu (f2 zD zP zk) zk) (f2 zD zh zk) zk) zk))) as (zv T):=
 U8 h1 (by trivial) λa c=>by
  obtain⟨r,d,f⟩:=Vt (as:=[sI a,sT (zc F),sI n,sT (zv J),sT (zc B)]) (fr:=aC zu aN) (cap:=[none,some 1,some 3,some 4,some 0]) (fe:=f2 zj (f2 (f2 zu (f2 zD zP zk) zk) (f2 zD zh zk) zk) zk) (zg (za rfl) zt) (by trivial) λb g=>by
   obtain⟨p1,p2⟩:=rowAt hB c;obtain⟨h,i⟩:=rowAt hB g;obtain⟨j,k⟩:=xQ hJ p2;obtain⟨l,m⟩:=rowAt k i;obtain⟨o,p⟩:=rowAt hF m;exact⟨_,rfl,WD.e (zi (za rfl) (zi (zZ (za rfl) (zi (za rfl) (za rfl) p1 rfl) j) (zi (za rfl) (za rfl) h rfl) l rfl) o rfl),p⟩
  exact⟨_,r,h2 a,f,d⟩
abbrev yh(p:Str×TZ):D:=.tup [.str p.1,zv p.2]
abbrev Js:EF:=zq (yw (fV 14)) [none,some 8,some 5,some 9] zG zH (zq (ya xI yb) [none,some 1,some 0,some 3] zG zH (f2 zj (f2 zu (f2 zD zh zk) zk) zk))
def t_{as:AS}{F B:List Int}{T:TZ}{m n:Nat}(hn:n<=8)(hm:m<=8)(hF:Row n F)(hB:Row n B)(hT:Tab m n T)(h1:as[14]? = some (sT (zv T)))(h2:∀d:D,gN 0 (true,d) (wk [none,some 8,some 5,some 9] as)=some [sT d,sT (zc F),sI n,sT (zc B)]):
 ∃T',RM m n (λc a=>zw F (yt T c (zw B a))) T'/\WE Js as (zv T'):=by
 obtain⟨i,b,j,k⟩:=GG zc (P8 (WD.e (za h1))) (by rw[zzB,zzB,hT.1];trivial) λc y g=>by
  rw[zyB,zzI]at g;obtain⟨r,h,rfl⟩:=zzX.mp g;have o:=hT.2 r (zyA h);have p:∀v,yt T c v=zw r v:=λv=>by unfold yt;rw[zyI,h];rfl
  obtain⟨l,q,s⟩:=Vt (f:=λa=>zw F (yt T c (zw B a))) (as:=[sT (zc r),sT (zc F),sI n,sT (zc B)]) (fr:=aC zu aN) (cap:=[none,some 1,some 0,some 3]) (fe:=f2 zj (f2 zu (f2 zD zh zk) zk) zk) (zg (za rfl) zt) (by trivial) λa t=>by
   obtain⟨p1,p2⟩:=rowAt hB t;obtain⟨u,w⟩:=rowAt o p2;obtain⟨x,z⟩:=rowAt hF w;rw[p];exact⟨_,rfl,WD.e (zi (za rfl) (zi (za rfl) (zi (za rfl) (za rfl) p1 rfl) u rfl) x rfl),z⟩
  exact⟨_,l,h2 _,s,q⟩
 rw[zzB,zzB]at b;exact⟨i,Xs (by rw[b,hT.1]) j,k⟩
structure Alg(n m:Nat)(J:TZ)(e:Int)(Ds:DZ):Prop where
 n1:1<=n
 n8:n<=8
 m1:1<=m
 m6:m<=6
 j:Tab n n J
 e0:0<=e
 en:e<n
 dl:Ds.length<=6
 ds:∀p ∈ Ds,Tab m n p.2
 nd:(Ds.map (·.1)).Nodup
structure LawA(n m:Nat)(J:TZ)(e:Int)(Ds:DZ):Prop where
 lj:LJ n (yt J) e
 ld:∀p ∈ Ds,LD n m (yt J) e (yt p.2)
abbrev zo(n m:Nat)(J:TZ)(e:Int)(Ds:DZ)(S:SS):D:=.tup [.int n,.int m,zv J,.int e,.lst (Ds.map yh),.lst (S.map yx)]
def HG{A0 A1 A2 A3 A4 A6 A7 A10 A11 A15:Option O}{F B:List Int}{Ds:List TZ}{ns:List Str}{m n:Nat}(hn:n<=8)(hm:m<=8)(hF:Row n F)(hB:Row n B)(hD:∀T ∈ Ds,Tab m n T)(hl:Ds.length<=ns.length)(hl8:Ds.length<=8):
 ∃os l e13 e14,Ows yh (λp=>∃T ∈ Ds,RM m n (λc a=>zw F (yt T c (zw B a))) p.2) os l/\l.map (·.1)=ns.take Ds.length/\l.length=Ds.length/\forL (gT 2 (ye (gN 13) (ye (gN 14) xD))) (yB (yZ 12 (dC (zY (dC (fV 13) (dC Js dN))) dN) y9)) (vR true (ns.map D.str) (Ds.map zv))
  [A0,A1,A2,A3,A4,sI n,A6,A7,sT (zc F),sT (zc B),A10,A11,sN [],none,none,A15]
  = some (.nx [A0,A1,A2,A3,A4,sI n,A6,A7,sT (zc F),sT (zc B),A10,A11,sN os,e13,e14,A15]):=by
 obtain⟨as',hf,os,l,e13,e14,rfl,ho,hlm,hlen⟩:=yJ (g:=gT 2 (ye (gN 13) (ye (gN 14) xD)))
  (λi as=>∃(os:List O) (l:DZ) (e13 e14:Option O),as=[A0,A1,A2,A3,A4,sI n,A6,A7,sT (zc F),sT (zc B),A10,A11,sN os,e13,e14,A15]/\Ows yh (λp=>∃T ∈ Ds,RM m n (λc a=>zw F (yt T c (zw B a))) p.2) os l/\l.map (·.1)=ns.take i/\l.length=i)
  (vR true (ns.map D.str) (Ds.map zv)) 0 [A0,A1,A2,A3,A4,sI n,A6,A7,sT (zc F),sT (zc B),A10,A11,sN [],none,none,A15] (λi x as hx' hI=>by
   obtain⟨os,l,e13,e14,rfl,ho,hlm,hlen⟩:=hI;obtain⟨d,e,z1,z2,rfl⟩:=ZH hx';have hil:i<Ds.length:=by have:=(zzG.mp z2).1;rw[zzB]at this;exact this
   obtain⟨T,mT,rfl⟩:=U9 z2;rw[zzI]at z1;obtain⟨s,s1,rfl⟩:=zzX.mp z1;obtain⟨T',t1,o,t2,t3,t4⟩:=t_ (as:=[A0,A1,A2,A3,A4,sI n,A6,A7,sT (zc F),sT (zc B),A10,A11,sN os,sT (.str s),sT (zv T),A15]) hn hm hF hB (hD T mT) rfl (λ_=>rfl);obtain⟨os',o1,o2⟩:=SO (x:=(s,T')) (i:=12) rfl ho (by trivial) (XJ (ze (za (i:=13) rfl) (vV t2 zJ)) (wC rfl) (by show(true&&(o.str&&true))=true;rw[t3];rfl) (by show D.tup [.str s,o.toD]=_;rw[t4])) ⟨T,mT,t1⟩;refine⟨_,rfl,_,o2,os',l++[(s,T')],_,_,rfl,o1, ?_,by rw[zzJ,hlen];rfl⟩;rw[zyM,hlm,show 0+i+1=i+1 by trivial,zyY,List.take_succ,s1];rfl)
  ⟨[],[],none,none,rfl,Ows.nil,rfl,rfl⟩
 rw[Xn,zzB,zzB,Nat.min_eq_right hl,zyY]at hlm hlen;exact⟨os,l,e13,e14,ho,hlm,hlen,hf⟩
def OY(x:Int):∃n:Nat,n<=6/\zk (.lst (([1,2,0,4,3,2,6,5]:List Int).map D.int)) (.int (x%8))=some (.im (.int n)):=by
 obtain⟨v,a,b⟩:=RD (r:=[1,2,0,4,3,2,6,5]) (P:=λx=>0<=x/\x<=6) (k:=x%8) (by trivial) (by show x%8<8;trivial) (by decide);exact⟨v.toNat,by trivial,by rw[show((v.toNat:Nat):Int)=v by trivial];exact a⟩
def DP(x:Int):∃n:Nat,n<=4/\zk (.lst (([1,2,1,4,0,2,3,1]:List Int).map D.int)) (.int (x%8))=some (.im (.int n)):=by
 obtain⟨v,a,b⟩:=RD (r:=[1,2,1,4,0,2,3,1]) (P:=λx=>0<=x/\x<=4) (k:=x%8) (by trivial) (by show x%8<8;trivial) (by decide);exact⟨v.toNat,by trivial,by rw[show((v.toNat:Nat):Int)=v by trivial];exact a⟩
def P9{f:EF}{as:AS}{k:Int}(h:WD f as true (.int k)):oS f as=some (some k,as):=by
 unfold oS;unfold WD at h;rw[h];rfl
def CF{α:Type}(f:α->D)(l:List α)(lo hi:Option Int):∃l':List α,l'.Sublist l/\PF.cutD (l.map f) lo hi=l'.map f:=by
 unfold PF.cutD;rw[zzB,<-List.map_drop,<-List.map_take];exact⟨_,(List.take_sublist _ _).trans (List.drop_sublist _ _),rfl⟩
def Jn{as:AS}{a b c d e f g h:Int}:WE (yF (dC (fC (.int a)) (dC (fC (.int b)) (dC (fC (.int c)) (dC (fC (.int d)) (dC (fC (.int e)) (dC (fC (.int f)) (dC (fC (.int g)) (dC (fC (.int h)) dN))))))))) as (.lst (([a,b,c,d,e,f,g,h]:List Int).map D.int)):=
 xu (ze zb (ze zb (ze zb (ze zb (ze zb (ze zb (ze zb (ze zb zJ)))))))) (wC rfl) rfl rfl
def Pl{c c':Int}:∃n m J e Ds S,(Alg n m J e Ds/\LawA n m J e Ds)/\Sg n S/\RE (xm [(true,.int c),(true,.int c')]) (zo n m J e Ds S):=by
 obtain⟨f,hl,t,ws⟩:=I_ (as:=[sI c,sI c',none,none,none,none,none,none,none,none,none,none,none,none,none,none]) (a:=fV 1) (m:=6) (by trivial) (WD.e (za rfl)) (WD.e zb);obtain⟨u,G,_⟩:=at2 t (by trivial) (by trivial);obtain⟨y1,a1,_⟩:=at2 t (k:=1) (by trivial) (by trivial);obtain⟨y2,a2,_⟩:=at2 t (k:=2) (by trivial) (by trivial);obtain⟨y3,a3,_⟩:=at2 t (k:=3) (by trivial) (by trivial);obtain⟨y4,a4,_⟩:=at2 t (k:=4) (by trivial) (by trivial);obtain⟨y5,a5,_⟩:=at2 t (k:=5) (by trivial) (by trivial);obtain⟨w,w6,ew⟩:=OY y1;obtain⟨k,k4,ek⟩:=DP y5;have b3:(2:Int).natAbs<big:=zO (by decide) (by decide);obtain⟨d,m11,m16,hC⟩:∃d:Int,1<=d/\d<=6/\xx (fT (f2 (f2 (f2 (f2 zu zX zk) Wx zR) yk zB) zX (zy .Eq))) (zz true 3 (f2 zW (f2 (f2 (f2 zu zX zk) (fC (.int 12)) zR) xv zB) zA)) xR
  [sI c,sI c',sT (zc f),sI (1+u%6),none,none,none,none,none,none,none,none,none,none,none,none]=some (.nx [sI c,sI c',sT (zc f),sI d,none,none,none,none,none,none,none,none,none,none,none,none]):=by
  by_cases h:u/6%2=0
  . exact⟨1+u/12%3,by trivial,by trivial,wd (zF (yo (yc (wN (zi (za rfl) zb G rfl) zb (by decide) (zO (by decide) (by decide))) zb (by decide)) zb rfl) (by show some (u/6%2==0)=_;simp[h])) (yj (yC zb (yc (wN (zi (za rfl) zb G rfl) zb (by decide) (zO (by decide) (by decide))) zb (by decide))) (zl rfl))⟩
  . exact⟨1+u%6,by trivial,by trivial,zL (zF (yo (yc (wN (zi (za rfl) zb G rfl) zb (by decide) (zO (by decide) (by decide))) zb (by decide)) zb rfl) (by show some (u/6%2==0)=_;simp[h])) rfl⟩
 obtain⟨m,K,L,hE⟩:∃m:Nat,1<=m/\m<=6/\xx (fT (f2 zP xv (zy .Gt))) (zz true 3 (f2 zW (f2 zD yk zB) zA)) xR
  [sI c,sI c',sT (zc f),sI d,sI w,none,none,none,none,none,none,none,none,none,none,none]=some (.nx [sI c,sI c',sT (zc f),sI m,sI w,none,none,none,none,none,none,none,none,none,none,none]):=by
  by_cases h:(3:Int)<w
  . refine⟨(1+d%2).toNat,by trivial,by trivial, ?_⟩;rw[show(((1+d%2).toNat:Nat):Int)=1+d%2 by trivial];exact wd (zF (V0 (za rfl) zb) (congrArg some (zyO h))) (yj (yC zb (yc (za rfl) zb (by decide))) (zl rfl))
  . refine⟨d.toNat,by trivial,by trivial, ?_⟩;rw[show((d.toNat:Nat):Int)=d by trivial];exact zL (zF (V0 (za rfl) zb) (congrArg some (zyG h))) rfl
 obtain⟨n,J,x,V,v,y,dl,o⟩:=Iz (w:=w) (by trivial) (by trivial) (by trivial);have hJ:=y.tj;have hD:=y.td;obtain⟨F,W,z⟩:=NQ V v;obtain⟨H,_⟩:=Tj W;obtain⟨B,⟨M,X,bf⟩,q⟩:=tH (as:=[sI c,sI c',sT (zc f),sI m,sI w,sI n,sT (zv J),sT (.lst (x.map zv)),sT (zc F),none,none,none,none,none,none,none]) (cap:=[none,some 8]) (fr:=aC yP aN) W v (zg (za rfl) zt) (λb=>rfl);obtain⟨I,r,s⟩:=si (as:=[sI c,sI c',sT (zc f),sI m,sI w,sI n,sT (zv J),sT (.lst (x.map zv)),sT (zc F),sT (zc B),none,none,none,none,none,none]) (cap:=[none,some 8,some 5,some 6,some 9]) (fr:=aC yP aN) v H M hJ (zg (za rfl) zt) (λa=>rfl);obtain⟨g,Y,A,i⟩:=Sa;obtain⟨Z,l,C,E,N,O,hlen,hf⟩:=HG (ns:=g.take 6) v (by trivial) H M hD (by rw[zzS,Y];trivial) (by trivial);obtain⟨ef,ff⟩:=rowAt H ⟨by trivial,by trivial⟩;obtain⟨ks,kl,ck⟩:=CF D.str g (some 6) (some (6+(k:Int)));obtain⟨S,P,hS⟩:=SN v (by have:=kl.length_le;omega) (A.sublist kl);have cF:∀a,zC n a->zC n (zw F a):=λa Q=>(rowAt H Q).2;have cB:∀a,zC n a->zC n (zw B a):=λa Q=>(rowAt M Q).2;have lj:=p5 y.lj cF cB X bf;refine⟨n,m,I,zw F 0,l,S,⟨⟨V,v,K,L,r.1,ff.1,ff.2,by trivial,λp R=>?_, ?_⟩,⟨lj.congr r.2,λp R=>?_⟩⟩,P, ?_⟩
 . obtain⟨T,_,U⟩:=N.al p R;exact U.1
 . rw[O];exact(A.sublist (List.take_sublist _ _)).sublist (List.take_sublist _ _)
 . obtain⟨T,mT,U⟩:=N.al p R;exact(pW (by trivial) y.lj (y.ld T mT) cF cB X bf).congr (by trivial) lj r.2 U.2
 have z6:WE (Qr yz oN (oS Wx) T6) [sI c,sI c',sT (zc f),sI m,sI w,sI n,sT (zv J),sT (.lst (x.map zv)),sT (zc F),sT (zc B),sT (zv I),sT (.lst (g.map D.str)),sN [],none,none,none] (.lst ((g.take 6).map D.str)):=by
  refine U_ (WD.e (za rfl)) rfl (P9 zb) ?_;have:=OB (xs:=(g.take 6).map D.str) (ys:=(g.drop 6).map D.str);rw[<-zyM,List.take_append_drop,zzB,zzS,Y]at this;exact this
 have zS:WE (zp (aC (f2 zu xo zk) (aC yP (aC (Qr yz (oS Wx) (oS (f2 Wx (f2 (yF (dC zW (dC yk (dC zW (dC xo (dC zX (dC yk (dC xv (dC zW dN))))))))) (f2 (f2 zu Z7 zk) YR zB) zk) zA)) T6) aN))) Zn) [sI c,sI c',sT (zc f),sI m,sI w,sI n,sT (zv J),sT (.lst (x.map zv)),sT (zc F),sT (zc B),sT (zv I),sT (.lst (g.map D.str)),sN Z,C,E,none] (.lst (S.map yx)):=
  vf (WD.e (zi (za rfl) zb a4 rfl)) (WD.e (za rfl)) (U_ (WD.e (za rfl)) (P9 zb) (P9 (yC zb (FN Jn (WD.e (yc (zi (za rfl) zb a5 rfl) zb (by decide))) ek))) (by show some (R0.fl (PF.cutD (g.map D.str) (some 6) (some (6+(k:Int)))))=_;rw[ck])) hS
 refine ym rfl (zd (yU ws (zl rfl)) (zd (yj (yC zb (yc (zi (za rfl) zb G rfl) zb (by decide))) (zl rfl)) (zd hC (zd (yj (FN Jn (WD.e (yc (zi (za rfl) zb a1 rfl) zb (by decide))) ew) (zl rfl)) (zd hE
  (zd (RI (vf (WD.e (za rfl)) (WD.e (za rfl)) (WD.e (za rfl)) o) rfl)
  (zd (yU (vU (WD.e (zi (za rfl) zb a2 rfl)) (WD.e (za rfl)) z) (zl rfl)) (zd (yU q (zl rfl)) (zd (yU s (zl rfl)) (zd (yU (vU (WD.e (zi (za rfl) zb a3 rfl)) (WD.e zb) i) (zl rfl)) (zd (yI (xt zJ (wC rfl)) (zl rfl)) (zd (yH (ug z6 (WD.e (za rfl))) hf) (zd (yU zS (zl rfl)) ?_)))))))))))))
 have e:=yD (as:=[sI c,sI c',sT (zc f),sI m,sI w,sI n,sT (zv J),sT (.lst (x.map zv)),sT (zc F),sT (zc B),sT (zv I),sT (.lst (g.map D.str)),sN Z,C,E,sT (.lst (S.map yx))]) (a:=fV 5) (za rfl) (yD (a:=fV 3) (za rfl) (yD (a:=fV 10) (za rfl) (yD (a:=f2 (fV 8) zX zk) (zi (za rfl) zb ef rfl) (QC (j:=12) (fr:=dC (fV 15) dN) rfl (yD (za rfl) rfl)))));rw[N.frz]at e;exact⟨_,XB (U0 e (wC rfl)) rfl,rfl,rfl⟩
def BB{c:Int}{n k:Nat}(hn:0<n)(hn8:n<=8)(hk:k<=900):∃ds:List Int,ds.length=k/\(∀x ∈ ds,zC n x)/\RE (ZI [(true,.int c),(true,.int n),(true,.int k)]) (zc ds):=by
 obtain⟨p,q,x,d,l,j,rfl,h,b⟩:=yJ (g:=gN 4) (f:=zm (yB (yZ 3 (dC (f2 zh zj zB) dN) y9)) (zz true 0 (f2 zh zj zR)))
  (λi as=>∃(x:Int) (d:List O) (l:List Int) (j:Option O),as=[sI x,sI n,sI k,sN d,j]/\Ows D.int (zC n) d l/\l.length=i)
  (y6 0 k) 0 [sI c,sI n,sI k,sN [],none] (λi y as m r=>by
   obtain⟨x,d,l,j,rfl,h,b⟩:=r;obtain⟨rfl,u⟩:=xg m;obtain⟨o,s,t⟩:=SO (as:=[sI x,sI n,sI k,sN d,sI (0+i)]) (i:=3) (a:=f2 zh zj zB) rfl h (by trivial) (WD.e (yc (za rfl) (za rfl) (by trivial))) (wG hn);exact⟨_,rfl,_,zV t (yj (wN (za rfl) (za rfl) (by trivial) (zO (by trivial) (by trivial))) (zl rfl)),x/n,o,l++[x%n],_,rfl,s,by rw[zzJ,b];rfl⟩)
  ⟨c,[],[],none,rfl,Ows.nil,rfl⟩
 rw[yG]at b;exact⟨l,by trivial,h.al,ym rfl (zd (yI (xt zJ (wC rfl)) (zl rfl)) (zd (yH (yO (zg (za rfl) zt) (by trivial) (by trivial)) q) (Ows.retB rfl h)))⟩
def Zp{ns:List Int}{k:Int}{s t:Bool}(hk:0<=k):∃x,zU [(s,.lst (ns.map .int)),(t,.int k)]=sT (.int x):=by
 by_cases h:k<((ns.map D.int).length:Int)
 . obtain⟨x,a⟩:=Cs hk (by rw[zzB]at h;exact h);exact⟨x,vr rfl (UZ (wd (zF (G7 (za rfl) (xh (zg (za rfl) zt) rfl rfl)) (congrArg some (zyO h))) (wq (zi (za rfl) (za rfl) a rfl))))⟩
 . exact⟨0,vr rfl (zV (zL (zF (G7 (za rfl) (xh (zg (za rfl) zt) rfl rfl)) (congrArg some (zyG h))) rfl) (wq zb))⟩
def C7{ds:List Int}{a n:Nat}(h:a+n<=ds.length):T6 (zc ds) (some (a:Int)) (some ((a+n:Nat):Int))=some (.fl (((ds.drop a).take n).map D.int)):=by
 show some (R0.fl (PF.cutD (ds.map D.int) (some (a:Int)) (some ((a+n:Nat):Int))))=_
 congr 2
 unfold PF.cutD;rw[HT.U5,HT.U5,zzB,Nat.min_eq_left h,Nat.min_eq_left (show a<=ds.length by trivial),<-List.map_drop,<-List.map_take,Nat.add_sub_cancel_left]
def Fb{ds:List Int}{a n N:Nat}(h:a+n<=ds.length)(hd:∀x ∈ ds,zC N x)(e:n=N):Row N ((ds.drop a).take n):=by
 refine⟨by rw[zzS,List.length_drop];trivial,λx m=>hd x (List.mem_of_mem_drop (List.mem_of_mem_take m))⟩
def uH{f fl fh:EF}{as:AS}{ds:List Int}{a n:Nat}{lo hi:Int}(h:a+n<=ds.length)(hf:WD f as true (zc ds))(h1:WD fl as true (.int lo))(h2:WD fh as true (.int hi))(e1:lo=(a:Int))(e2:hi=((a+n:Nat):Int)):WE (Qr f (oS fl) (oS fh) T6) as (zc ((ds.drop a).take n)):=by
 subst e1 e2;exact U_ (WD.e hf) (P9 h1) (P9 h2) (C7 h)
abbrev pJ:EF:=zq (ya Yk yb) [none,some 8,some 12,some 2] zG zH (Qr zj (oS (f2 zu (f2 zD zh zE) zA)) (oS (f2 (f2 zu (f2 zD zh zE) zA) zD zA)) T6)
abbrev pP:SF:=(zm (zz true 12 (f2 (f2 zW (f2 zu zu zE) zA) (f2 (f2 zu zD zE) yz zE) zA))
 (yB (yZ 10 (dC (zY (dC (f2 (f2 y0 yz zk) zX zk) (dC pJ dN))) dN) y9)))
abbrev J_(n m:Nat)(a0 a1 a4 a5 a7 a9:Option O)(Ds:DZ)(ds:List Int)(e10 e11 e12:Option O):AS:=
 [a0,a1,sI n,sI m,a4,a5,sT (.lst (Ds.map yh)),a7,sT (zc ds),a9,e10,e11,e12]
def DO{n m:Nat}{a0 a1 a4 a5 a7 a9:Option O}{Ds:DZ}{ds:List Int}(n1:1<=n)(n8:n<=8)(m6:m<=6)(dl:Ds.length<=6)(d1:ds.length=1+n*n+n*m*Ds.length)(d2:∀x ∈ ds,zC n x):
 ∃os l e11 e12,Ows yh (λp=>Tab m n p.2) os l/\l.map (·.1)=Ds.map (·.1)/\l.length=Ds.length/\forL (gN 11) pP (y6 0 Ds.length) (J_ n m a0 a1 a4 a5 a7 a9 Ds ds (sN []) none none)=some (.nx (J_ n m a0 a1 a4 a5 a7 a9 Ds ds (sN os) e11 e12)):=by
 have L:=Nat.mul_le_mul n8 n8;have nm:=Nat.mul_le_mul n8 m6;obtain⟨y,z,j,l,e,d,rfl,q,h,b⟩:=yJ (g:=gN 11) (f:=pP)
  (λi as=>∃(j:List O) (l:DZ) (e d:Option O),as=J_ n m a0 a1 a4 a5 a7 a9 Ds ds (sN j) e d/\Ows yh (λp=>Tab m n p.2) j l/\l.map (·.1)=(Ds.map (·.1)).take i/\l.length=i)
  (y6 0 Ds.length) 0 (J_ n m a0 a1 a4 a5 a7 a9 Ds ds (sN []) none none) (λi x as k A=>by
   obtain⟨j,l,e,d,rfl,q,h,b⟩:=A;obtain⟨rfl,v⟩:=xg k;rw[Int.zero_add]at k ⊢;have r:=zzE v;generalize Ds[i]=p at r;have B:n*m*i+n*m<=n*m*Ds.length:=by rw[<-Nat.mul_succ];exact Nat.mul_le_mul_left _ v
   have C:=zzO (zzO (Nat.le_add_right _ _) B) (Nat.mul_le_mul nm dl);have s:((1+n*n+n*m*i:Nat):Int)=1+n*n+n*m*i:=by rw[Int.natCast_add,Int.natCast_add,zzV,zzV,zzV];rfl
   have t:=zzV n m;obtain⟨T,E,F,o,G,H,I⟩:=Po (as:=J_ n m a0 a1 a4 a5 a7 a9 Ds ds (sN j) (sI i) (sI ((1+n*n+n*m*i:Nat):Int))) zc (fr:=aC zD aN) (cap:=[none,some 8,some 12,some 2]) (fe:=Qr zj (oS (f2 zu (f2 zD zh zE) zA)) (oS (f2 (f2 zu (f2 zD zh zE) zA) zD zA)) T6) (zg (za rfl) zt) (by trivial) λc M N=>by
    have P:n*c.toNat+n<=n*m:=by rw[<-Nat.mul_succ];exact Nat.mul_le_mul_left n (by trivial)
    have ec:(c.toNat:Int)=c:=by trivial
    have w:WD (f2 zu (f2 zD zh zE) zA) [sI c,sT (zc ds),sI ((1+n*n+n*m*i:Nat):Int),sI n] true (.int (((1+n*n+n*m*i:Nat):Int)+n*c)):=yC (za rfl) (yV (za rfl) (za rfl) (zO (by trivial) (by trivial)) (zO (by trivial) (by trivial)));exact⟨[sI c,sT (zc ds),sI ((1+n*n+n*m*i:Nat):Int),sI n],_,rfl,uH (a:=(1+n*n+n*m*i)+n*c.toNat) (by trivial) (za rfl) w (yC w (za rfl)) (by rw[Int.natCast_add (1+n*n+n*m*i),zzV n c.toNat,ec]) (by rw[Int.natCast_add (1+n*n+n*m*i+n*c.toNat),Int.natCast_add (1+n*n+n*m*i),zzV n c.toNat,ec]),Fb (by trivial) d2 rfl⟩
   obtain⟨u,J,K⟩:=SO (a:=zY (dC (f2 (f2 y0 yz zk) zX zk) (dC pJ dN))) (x:=(p.1,T)) (i:=10) rfl q (by trivial) (XJ (ze (zi (zZ (za rfl) (za rfl) (Qz r)) zb rfl rfl) (vV G zJ)) (wC rfl) (by show(true&&(o.str&&true))=true;rw[H];rfl) (by show D.tup [.str p.1,o.toD]=_;rw[I])) ⟨E,F⟩;refine⟨J_ n m a0 a1 a4 a5 a7 a9 Ds ds (sN j) (sI i) d,rfl,_,zV ?_ K,u,l++[(p.1,T)],_,_,rfl,J, ?_,by rw[zzJ,b];rfl⟩
   . rw[s];exact yj (yC (yC zb (yV (za rfl) (za rfl) (zO (by trivial) (by trivial)) (zO (by trivial) (by trivial)))) (yV (yV (za rfl) (za rfl) (zO (by trivial) (by trivial)) (zO (by trivial) (by trivial))) (za rfl) (by rw[<-t];exact zO (by trivial) (by trivial)) (zO (by trivial) (by trivial)))) (zl rfl)
   . rw[zyM,h,show 0+i+1=i+1 by trivial,zyY,List.take_succ,zzI,r];rfl)
  ⟨[],[],none,none,rfl,Ows.nil,rfl,rfl⟩
 rw[yG,zyY]at h b;exact⟨j,l,e,d,q,by rw[h,<-zzB,List.take_length],b,z⟩
abbrev Ex(T:TZ):O:=.nd .ls (T.map vq)
abbrev xO(p:Str×TZ):O:=.nd .tp [.lf true (.str p.1),Ex p.2]
abbrev Dj:EF:=fP xr lstP
theorem GJ:∀T:TZ,yR zG zH Dj [none] ((T.map zc).map λd=>(true,d))=some (T.map vq)
 | []=>rfl
 |r::T=>VE rfl (Jv (za rfl)) (xj r).2.1 (GJ T)
def SM{f:EF}{as:AS}{T:TZ}(hl:T.length<=1000)(h:WE f as (zv T)):zq (yw f) [none] zG zH Dj as=some (.ow (Ex T),as):=
 ZX (P8 h) (by rw[zzB,zzB];exact LV (by trivial)) (GJ T)
def Qt(p:Str×TZ):(xO p).str=true/\(xO p).toD=yh p:=by
 constructor
 . show(true&&(O.strs (p.2.map vq)&&true))=true;rw[(XH p.2).1];rfl
 . show D.tup [.str p.1,.lst (O.toDs (p.2.map vq))]=_;rw[(XH p.2).2]
theorem XI:∀Ds:DZ,O.strs (Ds.map xO)=true/\O.toDs (Ds.map xO)=Ds.map yh
 | []=>⟨rfl,rfl⟩
 |p::a=>⟨by show((xO p).str&&O.strs (a.map xO))=true;rw[(Qt p).1,(XI a).1];rfl,by
  show(xO p).toD::O.toDs (a.map xO)=_;rw[(Qt p).2,(XI a).2];rfl⟩
abbrev tK:EF:=zY (dC zh (dC (zq (yw zj) [none] zG zH Dj) dN))
def HL{p:Str×TZ}(hl:p.2.length<=1000):tK [sT (.str p.1),sT (zv p.2)]=some (.ow (xO p),[sT (.str p.1),sT (zv p.2)]):=
 Mw (ze (za rfl) (vV (SM hl (WD.e (za rfl))) zJ)) (wC rfl)
theorem PH:∀Ds:DZ,(∀p ∈ Ds,p.2.length<=1000)->yR (gT 2 (ye zG (ye (gN 1) xD))) zH tK [none,none] ((Ds.map yh).map λd=>(true,d))=some (Ds.map xO)
 | [],_=>rfl
 |p::a,h=>VE rfl (HL (h p (zzF ..))) (Qt p).1 (PH a λq m=>h q (zzD _ m))
def Yh{as:AS}{i:Nat}{xs:List Int}{k x:Int}{s:Bool}(h:as[i]? = some (some (.lf s (zc xs))))(hk:0<=k)(hx:xs[k.toNat]? = some x):Ni i (xC k) as=some x:=by
 have e:(xs.map D.int)[k.toNat]? = some (.int x):=by rw[zzI,hx];rfl
 unfold Ni xC;show(if 0<=k then _ else none:Option Int)=_;rw[if_pos hk,VC (f:=Qm) h rfl];show((xs.map D.int)[k.toNat]?).bind QW=_;rw[e];rfl
def Qp{as:AS}{i:Nat}{k:Int}{s:Bool}(h:as[i]? = some (some (.lf s (.int k)))):xV i as=some k:=by
 unfold xV;rw[VC (f:=Qm) h rfl];rfl
def OH{as:AS}{i:Nat}{os:List O}(h:as[i]? = some (sN os)):Hy i as=some (os.length:Int):=by
 unfold Hy;rw[VC (f:=YY) h rfl];rfl
def vW{as:AS}{f g:KS}{a b:Int}(h1:f as=some a)(h2:g as=some b)(hb:0<b):Xj f g as=some (a%b):=by
 unfold Xj;simp only[h1,h2,zyL,if_pos hb]
def Hx{r:List Int}{k:Int}(h:k.toNat<r.length):(r.map xf)[k.toNat]? = sT (.int r[k.toNat]):=by
 rw[zzI,zzE h];rfl
def FX{as:AS}{i:Nat}{f1 f2 fv:KS}{k1 k2 c:Int}{T:TZ}{r:List Int}(h1:f1 as=some k1)(h2:f2 as=some k2)(hv:fv as=some c)(p1:0<=k1)(p2:0<=k2)(hi:as[i]? = some (some (Ex T)))(hr:T[k1.toNat]? = some r)(hk:k2.toNat<r.length):
 Nj i f1 f2 fv as=some (.nx (as.set i (some (Ex (T.set k1.toNat (r.set k2.toNat c)))))):=by
 have a:(T.map vq)[k1.toNat]? = sN (r.map xf):=by rw[zzI,hr];rfl
 have b:=Hx hk;have d:(T.map vq).set k1.toNat (.nd .ls ((r.map xf).set k2.toNat (.lf true (.int c))))=(T.set k1.toNat (r.set k2.toNat c)).map vq:=by
  rw[List.map_set];show _=(T.map vq).set k1.toNat (.nd .ls ((r.set k2.toNat c).map xf));rw[List.map_set]
 unfold Nj;simp only[h1,h2,hv,zyL,if_pos (show 0<=k1/\0<=k2 from⟨p1,p2⟩),(VC hi rfl:M4 YY as i=some (T.map vq)),(Xu a rfl:KH YY _ _=some (r.map xf)),(Xu b rfl:KH Qm _ _=some (.int r[k2.toNat])),d]
def Oi{as:AS}{y i:Nat}{f1 f2 f3 fv:KS}{k1 k2 k3 c:Int}{Ds:DZ}{p:Str×TZ}{r:List Int}(h1:f1 as=some k1)(h2:f2 as=some k2)(h3:f3 as=some k3)(hv:fv as=some c)(p1:0<=k1)(p2:0<=k2)(p3:0<=k3)(hy:tG as y=true)(hi:as[i]? = some (sN (Ds.map xO)))(hp:Ds[k1.toNat]? = some p)(hr:p.2[k2.toNat]? = some r)(hk:k3.toNat<r.length):
 Sx y i f1 1 f2 f3 fv as=some (.nx (as.set i (sN ((Ds.set k1.toNat (p.1,p.2.set k2.toNat (r.set k3.toNat c))).map xO)))):=by
 have a:(Ds.map xO)[k1.toNat]? = some (.nd .tp [.lf true (.str p.1),.nd .ls (p.2.map vq)]):=by rw[zzI,hp];rfl
 have b:([.lf true (.str p.1),.nd .ls (p.2.map vq)]:List O)[1]? = sN (p.2.map vq):=rfl;have d:(p.2.map vq)[k2.toNat]? = sN (r.map xf):=by rw[zzI,hr];rfl
 have e:=Hx hk;have f:(p.2.map vq).set k2.toNat (.nd .ls ((r.map xf).set k3.toNat (.lf true (.int c))))=(p.2.set k2.toNat (r.set k3.toNat c)).map vq:=by
  rw[List.map_set];show _=(p.2.map vq).set k2.toNat (.nd .ls ((r.set k3.toNat c).map xf));rw[List.map_set]
 have g:(Ds.map xO).set k1.toNat (.nd .tp ([.lf true (.str p.1),.nd .ls (p.2.map vq)].set 1 (.nd .ls ((p.2.set k2.toNat (r.set k3.toNat c)).map vq))))=(Ds.set k1.toNat (p.1,p.2.set k2.toNat (r.set k3.toNat c))).map xO:=by
  symm;rw[List.map_set];rfl
 unfold Sx;simp only[h1,h2,h3,hv,zyL,if_pos (show 0<=k1/\0<=k2/\0<=k3/\tG as y=true from⟨p1,p2,p3,hy⟩),(VC hi rfl:M4 YY as i=some (Ds.map xO)),(Xu a rfl:KH IE _ _=some [.lf true (.str p.1),.nd .ls (p.2.map vq)]),(Xu b rfl:KH YY _ _=some (p.2.map vq)),(Xu d rfl:KH YY _ _=some (r.map xf)),(Xu e rfl:KH Qm _ _=some (.int r[k3.toNat])),f,g]
def qY{as:AS}{i:Nat}{os:List O}{b:EF}(h:as[i]? = some (sN os))(hb:b as=some (.ow (.nd .ls []),as)):WD (f2 (fV i) b (zy .NotEq)) as true (.bl (!os.isEmpty)):=by
 have a:zy .NotEq (O.nd .ls os).toD (.lst [])=some (.im (.bl (!os.isEmpty))):=by
  cases os with
  |nil=>rfl
  |cons o r=>rfl
 have c:RV.view as (RV.ow (O.nd .ls [])).frz=some (.lst [],some true):=rfl;have d:RV.view as (RV.bo i).frz=some ((O.nd .ls os).toD,(O.nd .ls os).kl):=Zo h;have e:wrap (meet (O.nd .ls os).kl (some true)) (.im (.bl (!os.isEmpty)))=some (.ow (.lf true (.bl (!os.isEmpty)))):=by
  simp[wrap,zN,K8]
 unfold WD f2;rw[Xc h];simp only[zyL,hb,d,c,a,e]
def p8{as:AS}{i:Nat}{os:List O}(h:as[i]? = some (sN os)):WD (f2 (fV i) (yF dN) (zy .NotEq)) as true (.bl (!os.isEmpty)):=qY h (xt zJ (wC rfl))
def EV{n i:Nat}{r:List Int}{c:Int}(hr:Row n r)(hc:zC n c):Row n (r.set i c):=by
 refine⟨by rw[zzU];exact hr.1,λx m=>?_⟩
 rcases List.mem_or_eq_of_mem_set m with m|rfl
 . exact hr.2 x m
 . exact hc
def EU{k n i:Nat}{T:TZ}{r:List Int}(hT:Tab k n T)(hr:Row n r):Tab k n (T.set i r):=by
 refine⟨by rw[zzU];exact hT.1,λx m=>?_⟩
 rcases List.mem_or_eq_of_mem_set m with m|rfl
 . exact hT.2 x m
 . exact hr
theorem set_same{α:Type}:∀{l:List α}{i:Nat}{a:α},l[i]? = some a->l.set i a=l
 | [],_,_,h=>by simp at h
 |x::l,0,a,h=>by
  simp at h;rw[h];rfl
 |x::l,i+1,a,h=>congrArg (x :: ·) (set_same (by simpa using h))
abbrev F_(n m:Nat)(a0 a1 a4 a6 a7:Option O)(xs:List Int)(w:Int)(e:Int)(J:TZ)(Ds:DZ):AS:=
 [a0,a1,sI n,sI m,a4,sI e,a6,a7,sT (zc xs),some (Ex J),sN (Ds.map xO),sI w,none]
section
variable{n m:Nat}{a0 a1 a4 a6 a7:Option O}{xs:List Int}{w e:Int}{J:TZ}{Ds:DZ}
def Yj(hl:xs.length=8)(k:Nat)(hk:k<8):∃x,xs[k]? = some x/\zk (zc xs) (.int (k:Int))=some (.im (.int x)):=by
 have g:=zzE (l:=xs) (i:=k) (by trivial);exact⟨_,g,Qz g⟩
def sG(hl:xs.length=8)(n1:1<=n)(he:zC n e):∃e',zC n e'/\xx (fT (f2 yz zX (zy .Eq))) (zz true 5 (f2 (f2 (fV 8) zW zk) zu zB)) xR (F_ n m a0 a1 a4 a6 a7 xs w e J Ds)=some (.nx (F_ n m a0 a1 a4 a6 a7 xs w e' J Ds)):=by
 obtain⟨x,_,a⟩:=Yj hl 1 (by trivial)
 by_cases h:w=0
 . exact⟨x%n,wG n1,wd (zF (yo (za rfl) zb rfl) (by show some (w==0)=_;simp[h])) (yj (yc (zi (za rfl) zb a rfl) (za rfl) (by trivial)) (zl rfl))⟩
 . exact⟨e,he,zL (zF (yo (za rfl) zb rfl) (by show some (w==0)=_;simp[h])) rfl⟩
def sF(hl:xs.length=8)(n1:1<=n)(hJ:Tab n n J):∃J',Tab n n J'/\xx (XM (fT (f2 yz zW (zy .Eq))) (fT (f2 yz yk (zy .Eq)))) (Nj 9 (Xj (Ni 8 (xC 2)) (xV 2)) (Xj (Ni 8 (xC 3)) (xV 2)) (Xj (Ni 8 (xC 4)) (xV 2))) xR (F_ n m a0 a1 a4 a6 a7 xs w e J Ds)=some (.nx (F_ n m a0 a1 a4 a6 a7 xs w e J' Ds)):=by
 obtain⟨a,g,_⟩:=Yj hl 2 (by trivial);obtain⟨i,j,_⟩:=Yj hl 3 (by trivial);obtain⟨k,l,_⟩:=Yj hl 4 (by trivial);have o:WT (fT (f2 yz zW (zy .Eq))) (F_ n m a0 a1 a4 a6 a7 xs w e J Ds) (w==1):=zF (yo (za rfl) zb rfl) rfl;have p:WT (fT (f2 yz yk (zy .Eq))) (F_ n m a0 a1 a4 a6 a7 xs w e J Ds) (w==2):=zF (yo (za rfl) zb rfl) rfl;have t:WT (XM (fT (f2 yz zW (zy .Eq))) (fT (f2 yz yk (zy .Eq)))) (F_ n m a0 a1 a4 a6 a7 xs w e J Ds) (w==1||w==2):=Us o (λh=>by rw[h,Bool.false_or];exact p) (λh=>by rw[h];rfl);cases hw:(w==1||w==2)with
 |false=>rw[hw]at t;exact⟨J,hJ,zL t rfl⟩
 |true=>
  rw[hw]at t;have q:=wG (x:=a) n1;have s:=wG (x:=i) n1;have u:=wG (x:=k) n1;have d:(a%(n:Int)).toNat<J.length:=by rw[hJ.1];trivial
  have f:=zzE d;have b:=hJ.2 _ (zxA d);generalize J[(a%(n:Int)).toNat]=r at f b;have c:(0:Int)<n:=by trivial
  exact⟨_,EU hJ (EV b u),wd t (FX (vW (Yh rfl (by decide) g) (Qp rfl) c) (vW (Yh rfl (by decide) j) (Qp rfl) c) (vW (Yh rfl (by decide) l) (Qp rfl) c) q.1 s.1 rfl f (by rw[b.1];trivial))⟩
def uU(hl:xs.length=8)(n1:1<=n)(m1:1<=m)(hD:∀p ∈ Ds,Tab m n p.2):∃Ds',Ds'.map (·.1)=Ds.map (·.1)/\(∀p ∈ Ds',Tab m n p.2)/\xx (Wp (fT (f2 yz yk (zy .Gt))) (fT (f2 (fV 10) (yF dN) (zy .NotEq)))) (Sx 12 10 (Xj (Ni 8 (xC 5)) (Hy 10)) 1 (Xj (Ni 8 (xC 6)) (xV 3)) (Xj (Ni 8 (xC 7)) (xV 2)) (Xj (Ni 8 (xC 4)) (xV 2))) xR (F_ n m a0 a1 a4 a6 a7 xs w e J Ds)=some (.nx (F_ n m a0 a1 a4 a6 a7 xs w e J Ds')):=by
 obtain⟨k,v,_⟩:=Yj hl 4 (by trivial);obtain⟨c,y,_⟩:=Yj hl 5 (by trivial);obtain⟨d,z,_⟩:=Yj hl 6 (by trivial);obtain⟨l,A,_⟩:=Yj hl 7 (by trivial);have B:WT (fT (f2 yz yk (zy .Gt))) (F_ n m a0 a1 a4 a6 a7 xs w e J Ds) (decide (2<w)):=zF (V0 (za rfl) zb) rfl;have C:WT (fT (f2 (fV 10) (yF dN) (zy .NotEq))) (F_ n m a0 a1 a4 a6 a7 xs w e J Ds) (!(Ds.map xO).isEmpty):=zF (p8 rfl) rfl;have t:WT (Wp (fT (f2 yz yk (zy .Gt))) (fT (f2 (fV 10) (yF dN) (zy .NotEq)))) (F_ n m a0 a1 a4 a6 a7 xs w e J Ds) (decide (2<w) && !(Ds.map xO).isEmpty):=ZK B (λh=>by rw[h,Bool.true_and];exact C) (λh=>by rw[h];rfl);cases hw:(decide (2<w) && !(Ds.map xO).isEmpty)with
 |false=>rw[hw]at t;exact⟨Ds,rfl,hD,zL t rfl⟩
 |true=>
  rw[hw]at t;have g:0<Ds.length:=by
   cases Ds with
   |nil=>simp at hw
   |cons p r=>exact Nat.zero_lt_succ _
  have a:((Ds.map xO).length:Int)=Ds.length:=by rw[zzB]
  have D:=wG (x:=k) n1;have E:=wG (x:=c) g;have F:=wG (x:=d) m1;have G:=wG (x:=l) n1;have o:(c%(Ds.length:Int)).toNat<Ds.length:=by trivial
  have i:=zzE o;have f:=hD _ (zxA o);generalize Ds[(c%(Ds.length:Int)).toNat]=p at i f;have b:(d%(m:Int)).toNat<p.2.length:=by rw[f.1];trivial
  have s:=zzE b;have j:=f.2 _ (zxA b);generalize p.2[(d%(m:Int)).toNat]=r at s j;have u:(0:Int)<n:=by trivial
  have H:(0:Int)<m:=by trivial
  refine⟨Ds.set (c%(Ds.length:Int)).toNat (p.1,p.2.set (d%(m:Int)).toNat (r.set (l%(n:Int)).toNat (k%n))), ?_,λq mq=>?_,wd t (Oi (vW (Yh rfl (by decide) y) (by rw[<-a];exact OH rfl) (by trivial)) (vW (Yh rfl (by decide) z) (Qp rfl) H) (vW (Yh rfl (by decide) A) (Qp rfl) u) (vW (Yh rfl (by decide) v) (Qp rfl) u) E.1 F.1 G.1 rfl rfl i s (by rw[j.1];trivial))⟩
  . rw[List.map_set];exact set_same (by rw[zzI,i];rfl)
  . rcases List.mem_or_eq_of_mem_set mq with mq|rfl
    . exact hD q mq
    . exact EU f (EV j D)
end
def IB(T:TZ):(Ex T).frz = .lf true (zv T):=by
 show O.lf (O.strs _) (.lst (O.toDs _))=_;rw[(XH T).1,(XH T).2]
def Bs(Ds:DZ):(O.nd .ls (Ds.map xO)).frz = .lf true (.lst (Ds.map yh)):=by
 show O.lf (O.strs _) (.lst (O.toDs _))=_;rw[(XI Ds).1,(XI Ds).2]
def CM{n m:Nat}{J:TZ}{e c:Int}{Ds:DZ}{S:SS}(A:Alg n m J e Ds):∃J' e' Ds',Alg n m J' e' Ds'/\RE (WG [(true,zo n m J e Ds S),(true,.int c)]) (zo n m J' e' Ds' S):=by
 have t:=A.n8;have u:=A.m6;have G:=A.dl;obtain⟨g,d,H,v⟩:=I_ (as:=[sT (zo n m J e Ds S),sI c,sI n,sI m,sT (zv J),sI e,sT (.lst (Ds.map yh)),sT (.lst (S.map yx)),none,none,none,none,none]) (a:=fV 1) (m:=8) (by trivial) (WD.e (za rfl)) (WD.e zb);obtain⟨w,_,x⟩:=Yj d 0 (by trivial);obtain⟨k,l,y⟩:=sG d A.n1 ⟨A.e0,A.en⟩;obtain⟨o,z,B⟩:=sF d A.n1 A.j;obtain⟨b,r,C,D⟩:=uU d A.n1 A.m1 A.ds;have s:b.length=Ds.length:=by rw[<-zzB,r,zzB]
 refine⟨o,k,b,⟨A.n1,t,A.m1,u,z,l.1,l.2,by trivial,C,by rw[r];exact A.nd⟩, ?_⟩;have E:=yI (i:=9) (SM (f:=fV 4) (as:=[sT (zo n m J e Ds S),sI c,sI n,sI m,sT (zv J),sI e,sT (.lst (Ds.map yh)),sT (.lst (S.map yx)),sT (zc g),none,none,none,none]) (by rw[A.j.1];trivial) (WD.e (za rfl))) (zl rfl);have h:=yI (i:=10) (ZX (cap:=[none,none]) (P8 (f:=fV 6) (as:=[sT (zo n m J e Ds S),sI c,sI n,sI m,sT (zv J),sI e,sT (.lst (Ds.map yh)),sT (.lst (S.map yx)),sT (zc g),some (Ex J),none,none,none]) (WD.e (za rfl))) (by rw[zzB,zzB];exact LV (by trivial)) (PH Ds λp F=>by rw[(A.ds p F).1];trivial)) (zl rfl);refine ym rfl (zd (RI (WD.e (za rfl)) rfl) (zd (yU v (zl rfl)) (zd E (zd h (zd (yj (yc (zi (za rfl) zb x rfl) zb (by decide)) (zl rfl)) (zd y (zd B (zd D ?_))))))));have q:=yD (as:=F_ n m (sT (zo n m J e Ds S)) (sI c) (sT (zv J)) (sT (.lst (Ds.map yh))) (sT (.lst (S.map yx))) g (w%6) k o b) (a:=fV 2) (za rfl) (yD (a:=fV 3) (za rfl) (QC (j:=9) rfl (yD (a:=fV 5) (za rfl) (QC (j:=10) (fr:=dC yK dN) rfl (yD (za rfl) rfl)))));rw[IB,Bs]at q;exact⟨_,XB (U0 q (wC rfl)) rfl,rfl,rfl⟩
def wB{n:Nat}{J:TZ}{w v:Int}(hJ:Tab n n J)(hw:zC n w)(hv:zC n v):zC n (yt J w v):=(rowAt (xQ hJ hw).2 hv).2
def x_{a b c:EF}{as:AS}{n:Nat}{J:TZ}{w v:Int}(hJ:Tab n n J)(hw:zC n w)(hv:zC n v)(ha:WD a as true (zv J))(hb:WD b as true (.int w))(hc:WD c as true (.int v)):WD (f2 (f2 a b zk) c zk) as true (.int (yt J w v)):=
 zi (zZ ha hb (xQ hJ hw).1) hc (rowAt (xQ hJ hw).2 hv).1 rfl
def YW{a b c:EF}{as:AS}{m n:Nat}{T:TZ}{w v:Int}(hT:Tab m n T)(hw:zC m w)(hv:zC n v)(ha:WD a as true (zv T))(hb:WD b as true (.int w))(hc:WD c as true (.int v)):WD (f2 (f2 a b zk) c zk) as true (.int (yt T w v))/\zC n (yt T w v):=
 ⟨zi (zZ ha hb (xQ hT hw).1) hc (rowAt (xQ hT hw).2 hv).1 rfl,(rowAt (xQ hT hw).2 hv).2⟩
def vJ{v n:Nat}{g:GF}{f:SF}{as:AS}{s:Bool}(h:as[v]? = some (some (.lf s (.int n))))(hn:n<=1000):yM (ya (aC (fV v) aN) yb) g f as=forL g f (y6 0 n) as:=
 yH (yO (zg (za h) zt) (by trivial) (by trivial)) (by rw[zyI])
def Es{a b:EF}{as:AS}{x y:Int}{s t:Bool}(ha:WD a as s (.int x))(hb:WD b as t (.int y)):WT (fT (f2 a b (zy .NotEq))) as (!(x==y)):=zF (Wg ha hb rfl) rfl
abbrev FT:=Option (List D)
noncomputable def oD:FT->D
 |none=>.non
 |some ds=>.tup ds
def fs(n:Nat)(t:Int->FT):FT:=(List.range n).findSome? λi:Nat=>t (i:Int)
abbrev R4(r:Option Out)(I:AS->Prop)(t:FT):Prop:=(t=none/\∃as',r=some (.nx as')/\I as')\/∃ds,t=some ds/\Rt r (.tup ds)
def Iy{g:GF}{f:SF}{d:wx}{r:List wx}{as as1:AS}{x:D}(h1:g d as=some as1)(h2:Rt (f as1) x):Rt (forL g f (d::r) as) x:=by
 obtain⟨o,a,b⟩:=h2;exact⟨o,L6 h1 a,b⟩
theorem rh{α:Type}{g:GF}{f:SF}{it:α->wx}(I:AS->Prop)(t:α->FT):∀(l:List α),(∀x ∈ l,∀as,I as->∃as1,g (it x) as=some as1/\R4 (f as1) I (t x))->∀as,I as->R4 (forL g f (l.map it) as) I (l.findSome? t)
 | [],_,as,h=>.inl ⟨rfl,as,rfl,h⟩
 |x::l,H,as,h=>by
  obtain⟨p,b,a⟩:=H x zzF as h
  rcases a with⟨e,c,a,q⟩|⟨d,e,a⟩
  . have k:=rh I t l (λy r=>H y (zzD _ r)) c q;rw[List.findSome?_cons,e]
    rcases k with⟨i,j,m,n⟩|⟨d,i,o,m,n⟩
    . exact .inl ⟨i,j,y8 b a m,n⟩
    . exact .inr ⟨d,i,o,y8 b a m,n⟩
  . rw[List.findSome?_cons,e];exact .inr ⟨d,rfl,Iy b a⟩
def X8{v n:Nat}{f:SF}(I:AS->Prop)(t:Int->FT)(H:∀b,zC n b->∀as,I as->∃as1,gN v (true,.int b) as=some as1/\R4 (f as1) I (t b)){as:AS}(h:I as):R4 (forL (gN v) f (y6 0 n) as) I (fs n t):=by
 refine rh I (λi:Nat=>t (i:Int)) (List.range n) (λi a as c=>?_) as h;have:=List.mem_range.mp a;rw[Int.zero_add];exact H i ⟨by omega,by omega⟩ as c
def SQ{c:TF}{f:EF}{as:AS}{q:Bool}{ds:List D}{I:AS->Prop}(ht:WT c as q)(hf:WE f as (.tup ds))(hI:I as):R4 (xx c (zT f) xR as) I (if q=true then some ds else none):=by
 cases q with
 |true=>exact .inr ⟨ds,rfl,wa ht (yi hf)⟩
 |false=>exact .inl ⟨rfl,as,zL ht rfl,hI⟩
def R4.seq{f g:SF}{as as1:AS}{I:AS->Prop}{t:FT}(h:f as=some (.nx as1))(k:R4 (g as1) I t):R4 (zm f g as) I t:=by
 rcases k with⟨e,a,b,c⟩|⟨d,e,b⟩
 . exact .inl ⟨e,a,zV h b,c⟩
 . exact .inr ⟨d,e,zd h b⟩
theorem R4.imp{r:Option Out}{I I':AS->Prop}{t:FT}(h:R4 r I t)(k:∀as,I as->I' as):R4 r I' t:=Or.imp (λ⟨e,a,b,c⟩=>⟨e,a,b,k a c⟩) id h
def R4.rt{f g:SF}{as:AS}{I:AS->Prop}{t t':FT}(h:R4 (f as) I t)(k:∀as',I as'->Rt (g as') (oD t')):Rt (zm f g as) (oD (t.or t')):=by
 rcases h with⟨rfl,a,b,c⟩|⟨d,rfl,b⟩
 . exact zd b (k a c)
 . exact y7 b
def or_none{t:FT}:t.or none=t:=by cases t<;>rfl
def NR{n:Nat}{t t':Int->FT}(h:∀b,zC n b->t b=t' b):fs n t=fs n t':=by
 unfold fs;have:∀l:List Nat,(∀i ∈ l,i<n)->l.findSome? (λi:Nat=>t (i:Int))=l.findSome? λi:Nat=>t' (i:Int):=λl=>by
  induction l with
  |nil=>exact λ_=>rfl
  |cons i l c=>
   intro a;have:=a i zzF;rw[List.findSome?_cons,List.findSome?_cons,h i ⟨by omega,by omega⟩,c λj d=>a j (zzD _ d)]
 exact this _ λi e=>List.mem_range.mp e
theorem El{m:Nat}(m1:1<=m)(t:Int->Int->FT):∀n:Nat,fs (n*m) (λp=>t (p/m) (p%m))=fs n λa=>fs m λi=>t a i
 |0=>by rw[Nat.zero_mul];unfold fs;rfl
 |n+1=>by
  have b:=El m1 t n;unfold fs at b ⊢;rw[Nat.succ_mul,List.range_add,List.findSome?_append,b,List.range_succ,List.findSome?_append]
  congr 1
  rw[List.findSome?_map];have e:∀l:List Nat,(∀j ∈ l,j<m)->l.findSome? ((λp:Nat=>t ((p:Int)/m) ((p:Int)%m))∘λx=>n*m+x)=l.findSome? λi:Nat=>t (n:Int) (i:Int):=λl=>by
   induction l with
   |nil=>exact λ_=>rfl
   |cons j l b=>
    intro c;have d:=c j zzF;have f:(((n*m+j:Nat):Int))/m=n:=by
     rw[<-Int.natCast_ediv,Nat.mul_comm,Nat.mul_add_div (by omega),Nat.div_eq_of_lt d,Nat.add_zero]
    have g:(((n*m+j:Nat):Int))%m=j:=by
     rw[<-Int.natCast_emod,Nat.mul_comm,Nat.mul_add_mod,Nat.mod_eq_of_lt d]
    rw[List.findSome?_cons,List.findSome?_cons,b λi h=>c i (zzD _ h)];have k:((λp:Nat=>t ((p:Int)/m) ((p:Int)%m))∘λx=>n*m+x) j=t (n:Int) (j:Int):=by
     show t (((n*m+j:Nat):Int)/m) (((n*m+j:Nat):Int)%m)=_;rw[f,g]
    rw[k]
  rw[e _ λj o=>List.mem_range.mp o];simp only[List.findSome?_cons,List.findSome?_nil];cases(List.range m).findSome? λi:Nat=>t (n:Int) (i:Int)<;>rfl
section
variable{S:Option O->Option O->Option O->AS}{vj vn ve:Nat}{J T:TZ}{n m:Nat}{e:Int}{Ds:DZ}{SS':SS}
def tU(n:Nat)(J:TZ)(e:Int):FT:=fs n λa=>if(!(yt J e a==a) || !(yt J a e==a))=true then some [.str "nothing",.int a]else none
def tA(n:Nat)(J:TZ):FT:=fs n λa=>fs n λb=>fs n λc=>if(!(yt J (yt J a b) c==yt J a (yt J b c)))=true then some [.str "parting",.int a,.int b,.int c]else none
def tD(n m:Nat)(J T:TZ)(s:Str):FT:=fs n λa=>fs m λi=>fs n λb=>fs m λk=>if(!(yt T ((i+k)%m) (yt J a b)==yt J (yt T i a) (yt T k b)))=true then some [.str "doing",.str s,.int a,.int i,.int b,.int k]else none
def HS{x y z:Option O}(hJ:Tab n n J)(he:zC n e)(hj:∀x y z,(S x y z)[vj]? = some (sT (zv J)))(hv:∀x y z,(S x y z)[ve]? = some (sI e))(h3:∀x y z,(S x y z)[3]? = some x)(g3:∀d x y z,gN 3 (true,d) (S x y z)=some (S (sT d) y z)):
 R4 (forL (gN 3) (xx (XM (fT (f2 (f2 (f2 (fV vj) (fV ve) zk) zD zk) zD (zy .NotEq))) (fT (f2 (f2 (f2 (fV vj) zD zk) (fV ve) zk) zD (zy .NotEq)))) (zT (zY (dC (fC (.str "nothing")) (dC zD dN)))) xR) (y6 0 n) (S x y z)) (λas=>∃x,as=S x y z) (tU n J e):=by
 refine X8 (λas=>∃x,as=S x y z) _ (λa c as f=>?_) ⟨x,rfl⟩;obtain⟨x,rfl⟩:=f;have b:WD zD (S (sI a) y z) true (.int a):=za (h3 _ _ _);have g:=Es (x_ hJ he c (za (hj (sI a) y z)) (za (hv (sI a) y z)) b) b;have i:=Es (x_ hJ c he (za (hj (sI a) y z)) b (za (hv (sI a) y z))) b;exact⟨S (sI a) y z,g3 _ _ _ _,SQ (Us g (λh=>by rw[h,Bool.false_or];exact i) (λh=>by rw[h];rfl)) (XJ (ze zb (ze b zJ)) (wC rfl) rfl rfl) ⟨_,rfl⟩⟩
abbrev qI(vj:Nat):SF:=xx (fT (f2 (f2 (f2 (fV vj) (f2 (f2 (fV vj) zD zk) zP zk) zk) yP zk) (f2 (f2 (fV vj) zD zk) (f2 (f2 (fV vj) zP zk) yP zk) zk) (zy .NotEq))) (zT (zY (dC (fC (.str "parting")) (dC zD (dC zP (dC yP dN)))))) xR
abbrev u6(vj vn:Nat):SF:=yM (ya (aC (fV vn) aN) yb) vp (yM (ya (aC (fV vn) aN) yb) (gN 5) (qI vj))
def Kb{x y z:Option O}(n8:n<=8)(hJ:Tab n n J)(hj:∀x y z,(S x y z)[vj]? = some (sT (zv J)))(hn:∀x y z,(S x y z)[vn]? = some (sI n))(h3:∀x y z,(S x y z)[3]? = some x)(h4:∀x y z,(S x y z)[4]? = some y)(h5:∀x y z,(S x y z)[5]? = some z)
 (g3:∀d x y z,gN 3 (true,d) (S x y z)=some (S (sT d) y z)) (g4:∀d x y z,gN 4 (true,d) (S x y z)=some (S x (sT d) z)) (g5:∀d x y z,gN 5 (true,d) (S x y z)=some (S x y (sT d))):
 R4 (forL (gN 3) (u6 vj vn) (y6 0 n) (S x y z)) (λas=>∃x y z,as=S x y z) (tA n J):=by
 refine X8 (λas=>∃x y z,as=S x y z) _ (λa i as f=>?_) ⟨x,y,z,rfl⟩;obtain⟨x,y,z,rfl⟩:=f;refine⟨_,g3 _ _ _ _, ?_⟩;unfold u6;rw[vJ (hn _ _ _) (by trivial)];refine(X8 (λas=>∃y z,as=S (sI a) y z) _ (λb g as f=>?_) ⟨y,z,rfl⟩).imp λas ⟨y,z,e⟩=>⟨_,y,z,e⟩;obtain⟨y,z,rfl⟩:=f;refine⟨_,g4 _ _ _ _, ?_⟩;rw[vJ (hn _ _ _) (by trivial)];refine(X8 (λas=>∃z,as=S (sI a) (sI b) z) _ (λc j as f=>?_) ⟨z,rfl⟩).imp λas ⟨z,e⟩=>⟨_,z,e⟩;obtain⟨z,rfl⟩:=f;have k:WD zD (S (sI a) (sI b) (sI c)) true (.int a):=za (h3 _ _ _);have l:WD zP (S (sI a) (sI b) (sI c)) true (.int b):=za (h4 _ _ _);have m:WD yP (S (sI a) (sI b) (sI c)) true (.int c):=za (h5 _ _ _);have h:WD (fV vj) (S (sI a) (sI b) (sI c)) true (zv J):=za (hj _ _ _);have o:=wB hJ i g;have bc:=wB hJ g j;exact⟨_,g5 _ _ _ _,SQ (Es (x_ hJ o j h (x_ hJ i g h k l) m) (x_ hJ i bc h k (x_ hJ g j h l m))) (XJ (ze zb (ze k (ze l (ze m zJ)))) (wC rfl) rfl rfl) ⟨_,rfl⟩⟩
end
section
variable{n m:Nat}{J T:TZ}{e:Int}{Ds:DZ}{S:SS}
def Rn(n8:n<=8)(hJ:Tab n n J)(he:zC n e):RE (Zu [(true,.int n),(true,zv J),(true,.int e)]) (oD ((tU n J e).or (tA n J))):=by
 have a:=HS (S:=λx y z=>[sI n,sT (zv J),sI e,x,y,z]) (x:=none) (y:=none) (z:=none) (vj:=1) (ve:=2) hJ he (λ_ _ _=>rfl) (λ_ _ _=>rfl) (λ_ _ _=>rfl) (λ_ _ _ _=>rfl);rw[<-vJ (v:=0) rfl (by trivial)]at a;refine ym rfl (a.rt λc d=>?_);obtain⟨x,rfl⟩:=d;have b:=Kb (S:=λx y z=>[sI n,sT (zv J),sI e,x,y,z]) (x:=x) (y:=none) (z:=none) (vj:=1) (vn:=0) n8 hJ (λ_ _ _=>rfl) (λ_ _ _=>rfl) (λ_ _ _=>rfl) (λ_ _ _=>rfl) (λ_ _ _=>rfl) (λ_ _ _ _=>rfl) (λ_ _ _ _=>rfl) (λ_ _ _ _=>rfl);rw[<-vJ (v:=0) rfl (by trivial)]at b;rw[<-or_none (t:=tA n J)];exact b.rt λ_ _=>yi (WD.e zb)
def Mt(n8:n<=8)(hJ:Tab n n J)(he:zC n e):RE (vg [(true,zo n m J e Ds S)]) (oD (tU n J e)):=by
 have b:zz true 1 (f2 zh yk zk) [sT (zo n m J e Ds S),none,none,none]=some (.nx [sT (zo n m J e Ds S),sT (zv J),none,none]):=yj (zZ (za rfl) zb rfl) (zl rfl);have c:zz true 2 (f2 zh xv zk) [sT (zo n m J e Ds S),sT (zv J),none,none]=some (.nx [sT (zo n m J e Ds S),sT (zv J),sI e,none]):=yj (zZ (za rfl) zb rfl) (zl rfl);have k:=HS (S:=λx _ _=>[sT (zo n m J e Ds S),sT (zv J),sI e,x]) (x:=none) (y:=none) (z:=none) (vj:=1) (ve:=2) hJ he (λ_ _ _=>rfl) (λ_ _ _=>rfl) (λ_ _ _=>rfl) (λ_ _ _ _=>rfl);have a:=yO (as:=[sT (zo n m J e Ds S),sT (zv J),sI e,none]) (zg (zZ (g:=zk) (za (i:=0) rfl) (zb (x:=.int 0)) rfl) zt) (by trivial) (by trivial);rw[zyI]at a;refine ym rfl (zd b (zd c ?_));rw[<-or_none (t:=tU n J e)];refine R4.rt (I:=λas=>∃x,as=[sT (zo n m J e Ds S),sT (zv J),sI e,x]) ?_ λ_ _=>yi (WD.e zb);rw[yH a rfl];exact k
def MN(n8:n<=8)(hJ:Tab n n J):RE (vh [(true,zo n m J e Ds S)]) (oD (tA n J)):=by
 have a:zz true 1 (f2 zh zX zk) [sT (zo n m J e Ds S),none,none,none,none,none]=some (.nx [sT (zo n m J e Ds S),sI n,none,none,none,none]):=yj (zZ (za rfl) zb rfl) (zl rfl);have b:zz true 2 (f2 zh yk zk) [sT (zo n m J e Ds S),sI n,none,none,none,none]=some (.nx [sT (zo n m J e Ds S),sI n,sT (zv J),none,none,none]):=yj (zZ (za rfl) zb rfl) (zl rfl);have k:=Kb (S:=λx y z=>[sT (zo n m J e Ds S),sI n,sT (zv J),x,y,z]) (x:=none) (y:=none) (z:=none) (vj:=2) (vn:=1) n8 hJ (λ_ _ _=>rfl) (λ_ _ _=>rfl) (λ_ _ _=>rfl) (λ_ _ _=>rfl) (λ_ _ _=>rfl) (λ_ _ _ _=>rfl) (λ_ _ _ _=>rfl) (λ_ _ _ _=>rfl);rw[<-vJ (v:=1) rfl (by trivial)]at k;refine ym rfl (zd a (zd b ?_));rw[<-or_none (t:=tA n J)];exact k.rt λ_ _=>yi (WD.e zb)
end
section
variable{n m:Nat}{J T:TZ}{e:Int}{Ds:DZ}{S:SS}
abbrev pN:SF:=(xx (fT (f2 (f2 (f2 zu (f2 (f2 yK (fV 9) zA) zP zB) zk) (f2 (f2 yP y0 zk) (fV 8) zk) zk) (f2 (f2 yP (f2 (f2 zu yK zk) y0 zk) zk) (f2 (f2 zu (fV 9) zk) (fV 8) zk) zk) (zy .NotEq))) (zT (zY (dC (fC (.str "doing")) (dC zj (dC y0 (dC yK (dC (fV 8) (dC (fV 9) dN)))))))) xR)
abbrev LU(n m:Nat)(J T:TZ)(e:Int)(Ds:DZ)(S:SS)(s:Str)(x y z w:Option O):AS:=[sT (zo n m J e Ds S),sT (.str s),sT (zv T),sI n,sI m,sT (zv J),x,y,z,w]
def oi{s:Str}{a i b k:Int}(hJ:Tab n n J)(hT:Tab m n T)(m1:1<=m)(ha:zC n a)(hi:zC m i)(hb:zC n b)(hk:zC m k):R4 (pN (LU n m J T e Ds S s (sI a) (sI i) (sI b) (sI k))) (λas=>∃w,as=LU n m J T e Ds S s (sI a) (sI i) (sI b) w) (if(!(yt T ((i+k)%m) (yt J a b)==yt J (yt T i a) (yt T k b)))=true then some [.str "doing",.str s,.int a,.int i,.int b,.int k]else none):=by
 have c:WD zu (LU n m J T e Ds S s (sI a) (sI i) (sI b) (sI k)) true (zv T):=za rfl;have j:WD yP (LU n m J T e Ds S s (sI a) (sI i) (sI b) (sI k)) true (zv J):=za rfl;have d:WD y0 (LU n m J T e Ds S s (sI a) (sI i) (sI b) (sI k)) true (.int a):=za rfl;have f:WD yK (LU n m J T e Ds S s (sI a) (sI i) (sI b) (sI k)) true (.int i):=za rfl;have g:WD (fV 8) (LU n m J T e Ds S s (sI a) (sI i) (sI b) (sI k)) true (.int b):=za rfl;have h:WD (fV 9) (LU n m J T e Ds S s (sI a) (sI i) (sI b) (sI k)) true (.int k):=za rfl;obtain⟨l,o⟩:=YW hT hi ha c f d;obtain⟨p,q⟩:=YW hT hk hb c h g;obtain⟨r,t⟩:=YW hT (NI m1) (wB hJ ha hb) c (yc (yC f h) (za (i:=4) rfl) (by trivial)) (x_ hJ ha hb j d g);exact SQ (Es r (x_ hJ o q j l p)) (XJ (ze zb (ze (za rfl) (ze d (ze f (ze g (ze h zJ)))))) (wC rfl) rfl rfl) ⟨_,rfl⟩
def HB{s:Str}(n8:n<=8)(m1:1<=m)(m6:m<=6)(hJ:Tab n n J)(hT:Tab m n T):RE (wZ [(true,zo n m J e Ds S),(true,.str s),(true,zv T)]) (oD (tD n m J T s)):=by
 have k:R4 (forL (gN 6) (yM (ya (aC zP aN) yb) (gN 7) (yM (ya Yk yb) (gN 8) (yM (ya (aC zP aN) yb) (gN 9) pN))) (y6 0 n) (LU n m J T e Ds S s none none none none)) (λas=>∃x y z w,as=LU n m J T e Ds S s x y z w) (tD n m J T s):=by
  refine X8 (λas=>∃x y z w,as=LU n m J T e Ds S s x y z w) _ (λa d as c=>?_) ⟨_,_,_,_,rfl⟩;obtain⟨x,y,z,w,rfl⟩:=c;refine⟨LU n m J T e Ds S s (sI a) y z w,rfl, ?_⟩;rw[vJ rfl (by trivial)];refine(X8 (λas=>∃y z w,as=LU n m J T e Ds S s (sI a) y z w) _ (λi f as c=>?_) ⟨_,_,_,rfl⟩).imp λas ⟨y,z,w,e⟩=>⟨_,y,z,w,e⟩;obtain⟨y,z,w,rfl⟩:=c;refine⟨LU n m J T e Ds S s (sI a) (sI i) z w,rfl, ?_⟩;rw[vJ rfl (by trivial)];refine(X8 (λas=>∃z w,as=LU n m J T e Ds S s (sI a) (sI i) z w) _ (λb g as c=>?_) ⟨_,_,rfl⟩).imp λas ⟨z,w,e⟩=>⟨_,z,w,e⟩;obtain⟨z,w,rfl⟩:=c;refine⟨LU n m J T e Ds S s (sI a) (sI i) (sI b) w,rfl, ?_⟩;rw[vJ rfl (by trivial)];refine(X8 (λas=>∃w,as=LU n m J T e Ds S s (sI a) (sI i) (sI b) w) _ (λk h as c=>?_) ⟨_,rfl⟩).imp λas ⟨w,e⟩=>⟨_,w,e⟩;obtain⟨w,rfl⟩:=c;exact⟨_,rfl,oi hJ hT m1 d f g h⟩
 rw[<-vJ (v:=3) rfl (by trivial)]at k;have j:zz true 3 (f2 zh zX zk) [sT (zo n m J e Ds S),sT (.str s),sT (zv T),none,none,none,none,none,none,none]=some (.nx [sT (zo n m J e Ds S),sT (.str s),sT (zv T),sI n,none,none,none,none,none,none]):=yj (zZ (za rfl) zb rfl) (zl rfl);have l:zz true 4 (f2 zh zW zk) [sT (zo n m J e Ds S),sT (.str s),sT (zv T),sI n,none,none,none,none,none,none]=some (.nx [sT (zo n m J e Ds S),sT (.str s),sT (zv T),sI n,sI m,none,none,none,none,none]):=yj (zZ (za rfl) zb rfl) (zl rfl);have o:zz true 5 (f2 zh yk zk) [sT (zo n m J e Ds S),sT (.str s),sT (zv T),sI n,sI m,none,none,none,none,none]=some (.nx (LU n m J T e Ds S s none none none none)):=yj (zZ (za rfl) zb rfl) (zl rfl);refine ym rfl (zd j (zd l (zd o ?_)));rw[<-or_none (t:=tD n m J T s)];exact k.rt λ_ _=>yi (WD.e zb)
abbrev S6(n m:Nat)(J T:TZ)(s:Str)(p q a i b k v:Option O):AS:=[sI n,sI m,sT (zv J),sT (.str s),sT (zv T),p,q,a,i,b,k,v]
abbrev ldI:SF:=(zm (vS (fP (aC yP yS) K4) (gT 2 (ye (gN 7) (ye (gN 8) xD))))
 (zm (vS (fP (aC y0 yS) K4) (gT 2 (ye (gN 9) (ye (gN 10) xD))))
 (zm (zz true 11 (f2 (f2 zu (f2 (f2 zP (fV 8) zk) yK zk) zk) (f2 (f2 zP (fV 10) zk) (fV 9) zk) zk))
 (xx (fT (f2 (f2 (f2 zP (f2 (f2 (fV 8) (fV 10) zA) zj zB) zk) (f2 (f2 zu yK zk) (fV 9) zk) zk) yz (zy .NotEq))) (zT (zY (dC (fC (.str "doing")) (dC zD (dC yK (dC (fV 8) (dC (fV 9) (dC (fV 10) dN)))))))) xR))))
def uq{a b:EF}{as:AS}{x y:Int}(ha:WD a as true (.int x))(hb:WD b as true (.int y))(h0:0<y)(h1:y<1000):WD (fP (aC a (aC b aN)) K4) as true (.tup [.int (x/y),.int (x%y)]):=
 N_ (zg ha (zg hb zt)) (by show(if 0<y/\y<1073741824 then _ else _)=_;rw[if_pos ⟨h0,by trivial⟩]) rfl
def uK{s:Str}{p q:Int}{a i b k v:Option O}(hJ:Tab n n J)(hT:Tab m n T)(m1:1<=m)(m6:m<=6)(hp:zC (n*m) p)(hq:zC (n*m) q):R4 (ldI (S6 n m J T s (sI p) (sI q) a i b k v)) (λas=>∃y a i b k v,as=S6 n m J T s (sI p) y a i b k v) (if(!(yt T ((p%m+q%m)%m) (yt J (p/m) (q/m))==yt J (yt T (p%m) (p/m)) (yt T (q%m) (q/m))))=true then some [.str "doing",.str s,.int (p/m),.int (p%m),.int (q/m),.int (q%m)]else none):=by
 obtain⟨h,l⟩:=yf m1 hp;obtain⟨j,o⟩:=yf m1 hq;refine R4.seq (RI (WD.e (uq (za rfl) (za rfl) (by trivial) (by trivial))) rfl) ?_;refine R4.seq (RI (WD.e (uq (za rfl) (za rfl) (by trivial) (by trivial))) rfl) ?_;generalize p/(m:Int)=c at *;generalize p%(m:Int)=d at *;generalize q/(m:Int)=f at *;generalize q%(m:Int)=g at *;obtain⟨r,t⟩:=YW (as:=S6 n m J T s (sI p) (sI q) (sI c) (sI d) (sI f) (sI g) v) hT l h (za (i:=4) rfl) (za (i:=8) rfl) (za (i:=7) rfl);obtain⟨u,w⟩:=YW (as:=S6 n m J T s (sI p) (sI q) (sI c) (sI d) (sI f) (sI g) v) hT o j (za (i:=4) rfl) (za (i:=10) rfl) (za (i:=9) rfl);refine R4.seq (yj (x_ hJ t w (za rfl) r u) (zl rfl)) ?_;obtain⟨x,_⟩:=YW (as:=S6 n m J T s (sI p) (sI q) (sI c) (sI d) (sI f) (sI g) (sI (yt J (yt T d c) (yt T g f)))) hT (NI m1) (wB hJ h j) (za (i:=4) rfl) (yc (yC (za (i:=8) rfl) (za (i:=10) rfl)) (za (i:=1) rfl) (by trivial)) (x_ hJ h j (za (i:=2) rfl) (za (i:=7) rfl) (za (i:=9) rfl));exact SQ (Es x (za rfl)) (XJ (ze zb (ze (za rfl) (ze (za rfl) (ze (za rfl) (ze (za rfl) (ze (za rfl) zJ)))))) (wC rfl) rfl rfl) ⟨_,_,_,_,_,_,rfl⟩
def Nx{g:GF}{f:SF}{as:AS}(h0:as[0]? = some (sI n))(h1:as[1]? = some (sI m))(n8:n<=8)(m6:m<=6):yM (ya (aC (f2 zh zj zE) aN) yb) g f as=forL g f (y6 0 (n*m)) as:=by
 have nm:=Nat.mul_le_mul n8 m6;have w:=yV (za h0) (za h1) (zO (by trivial) (by trivial)) (zO (by trivial) (by trivial));rw[<-zzV]at w;exact yH (yO (zg w zt) (by trivial) (by trivial)) (by rw[zyI])
def Kn{s:Str}(n8:n<=8)(m1:1<=m)(m6:m<=6)(hJ:Tab n n J)(hT:Tab m n T):RE (v5 [(true,.int n),(true,.int m),(true,zv J),(true,.str s),(true,zv T)]) (oD (tD n m J T s)):=by
 have k:R4 (forL (gN 5) (yM (ya (aC (f2 zh zj zE) aN) yb) (gN 6) ldI) (y6 0 (n*m)) (S6 n m J T s none none none none none none none)) (λas=>∃x y a i b k v,as=S6 n m J T s x y a i b k v) (fs (n*m) λp=>fs (n*m) λq=>if(!(yt T ((p%m+q%m)%m) (yt J (p/m) (q/m))==yt J (yt T (p%m) (p/m)) (yt T (q%m) (q/m))))=true then some [.str "doing",.str s,.int (p/m),.int (p%m),.int (q/m),.int (q%m)]else none):=by
  refine X8 (λas=>∃x y a i b k v,as=S6 n m J T s x y a i b k v) _ (λp d as c=>?_) ⟨_,_,_,_,_,_,_,rfl⟩;obtain⟨x,y,a,i,b,k,v,rfl⟩:=c;refine⟨S6 n m J T s (sI p) y a i b k v,rfl, ?_⟩;rw[Nx rfl rfl n8 m6];refine(X8 (λas=>∃y a i b k v,as=S6 n m J T s (sI p) y a i b k v) _ (λq f as c=>?_) ⟨_,_,_,_,_,_,rfl⟩).imp λas ⟨y,a,i,b,k,v,e⟩=>⟨_,y,a,i,b,k,v,e⟩;obtain⟨y,a,i,b,k,v,rfl⟩:=c;exact⟨S6 n m J T s (sI p) (sI q) a i b k v,rfl,uK hJ hT m1 m6 d f⟩
 have g:=El m1 (λa i=>fs (n*m) λq=>if(!(yt T ((i+q%m)%m) (yt J a (q/m))==yt J (yt T i a) (yt T (q%m) (q/m))))=true then some [.str "doing",.str s,.int a,.int i,.int (q/m),.int (q%m)]else none) n;rw[g]at k;have h:(fs n λa=>fs m λi=>fs (n*m) λq=>if(!(yt T ((i+q%m)%m) (yt J a (q/m))==yt J (yt T i a) (yt T (q%m) (q/m))))=true then some [.str "doing",.str s,.int a,.int i,.int (q/m),.int (q%m)]else none)=tD n m J T s:=by
  unfold tD;refine NR λa _=>NR λi _=>?_;exact El m1 (λb k=>if(!(yt T ((i+k)%m) (yt J a b)==yt J (yt T i a) (yt T k b)))=true then some [.str "doing",.str s,.int a,.int i,.int b,.int k]else none) n
 rw[h]at k;rw[<-Nx rfl rfl n8 m6]at k;refine ym rfl ?_;rw[<-or_none (t:=tD n m J T s)];exact k.rt λ_ _=>yi (WD.e zb)
end
section
variable{n m:Nat}{J T:TZ}{e:Int}{Ds:DZ}{S:SS}
def R4.thn{f g:SF}{as:AS}{I I':AS->Prop}{t t':FT}(h:R4 (f as) I t)(k:∀as',I as'->R4 (g as') I' t'):R4 (zm f g as) I' (t.or t'):=by
 rcases h with⟨rfl,i,d,l⟩|⟨j,rfl,d⟩
 . rcases k i l with⟨e,a,b,c⟩|⟨j,e,b⟩
   . exact .inl ⟨e,a,zV d b,c⟩
   . exact .inr ⟨j,e,zd d b⟩
 . exact .inr ⟨j,rfl,y7 d⟩
noncomputable def tE(n m:Nat)(J:TZ)(e:Int)(p:Str×TZ):FT:=(if(!(yt p.2 0 e==e))=true then some [.str "empty",.str p.1]else none).or (tD n m J p.2 p.1)
noncomputable def tW(n m:Nat)(J:TZ)(e:Int)(Ds:DZ):FT:=((tU n J e).or (tA n J)).or (Ds.findSome? (tE n m J e))
def Hv{t:FT}:zy .Is (oD t) .non=some (.im (.bl t.isNone)):=by cases t<;>rfl
def Cw{t:FT}:zy .IsNot (oD t) .non=some (.im (.bl t.isSome)):=by cases t<;>rfl
def pz{as:AS}{i:Nat}{t:FT}(h:as[i]? = some (sT (oD t))):WT (fT (f2 (fV i) (fC .non) (zy .Is))) as t.isNone:=zF (zi (za h) (zb) Hv rfl) rfl
def qM{as:AS}{i:Nat}{t:FT}(h:as[i]? = some (sT (oD t))):WT (fT (f2 (fV i) (fC .non) (zy .IsNot))) as t.isSome:=zF (zi (za h) (zb) Cw rfl) rfl
def Ou(A:Alg n m J e Ds):RE (ZQ [(true,zo n m J e Ds S)]) (oD (Ds.findSome? (tE n m J e))):=by
 have h:=A.n8;have l:=A.m1;have o:zz true 1 (f2 zh xv zk) [sT (zo n m J e Ds S),none,none,none,none]=some (.nx [sT (zo n m J e Ds S),sI e,none,none,none]):=yj (zZ (za rfl) zb rfl) (zl rfl);have k:=rh (g:=gT 2 (ye (gN 2) (ye (gN 3) xD))) (f:=(zm (xx (fT (f2 (f2 (f2 zD zX zk) zj zk) zj (zy .NotEq))) (zT (zY (dC (fC (.str "empty")) (dC zu dN)))) xR)
  (zm (zz true 4 (zp (aC zh (aC zu Yk)) wZ))
  (xx (fT (f2 zP (fC .non) (zy .IsNot))) (zT zP) xR)))) (it:=λp:Str×TZ=>(true,yh p)) (λas=>∃(x y z:Option O),as=[sT (zo n m J e Ds S),sI e,x,y,z]) (tE n m J e) Ds (λp q as a=>by
   obtain⟨x,y,z,rfl⟩:=a;have c:=A.ds p q;obtain⟨r,_⟩:=YW (as:=[sT (zo n m J e Ds S),sI e,sT (.str p.1),sT (zv p.2),z]) c ⟨by trivial,by trivial⟩ ⟨A.e0,A.en⟩ (za (i:=3) rfl) (zb) (za (i:=1) rfl);have s:=Es r (za (i:=1) rfl);refine⟨_,rfl, ?_⟩;refine(SQ s (XJ (ze zb (ze (za rfl) zJ)) (wC rfl) rfl rfl) rfl).thn λu a=>?_;subst a;refine R4.seq (yU (vf (WD.e (za rfl)) (WD.e (za rfl)) (WD.e (za rfl)) (HB h l A.m6 A.j c)) (zl rfl)) ?_;have b:=qM (as:=[sT (zo n m J e Ds S),sI e,sT (.str p.1),sT (zv p.2),sT (oD (tD n m J p.2 p.1))]) (i:=4) rfl;generalize tD n m J p.2 p.1=t at b;cases t with
   |none=>exact .inl ⟨rfl,_,zL b rfl,_,_,_,rfl⟩
   |some v=>exact .inr ⟨v,rfl,wa b (yi (WD.e (za rfl)))⟩) [sT (zo n m J e Ds S),sI e,none,none,none] ⟨_,_,_,rfl⟩
 refine ym rfl (zd o ?_);rw[<-or_none (t:=Ds.findSome? (tE n m J e))];refine R4.rt (I:=λas=>∃(x y z:Option O),as=[sT (zo n m J e Ds S),sI e,x,y,z]) ?_ λ_ _=>yi (WD.e zb);have d:=GH (as:=[sT (zo n m J e Ds S),sI e,none,none,none]) (f:=f2 zh xo zk) (zZ (za rfl) zb rfl);rw[zyB]at d;rw[yH d rfl];exact k
def O4(A:Alg n m J e Ds):RE (Ym [(true,zo n m J e Ds S)]) (oD (tW n m J e Ds)):=by
 have d:=Mt (m:=m) (Ds:=Ds) (S:=S) A.n8 A.j ⟨A.e0,A.en⟩;have f:=MN (m:=m) (e:=e) (Ds:=Ds) (S:=S) A.n8 A.j;have h:=Ou (S:=S) A;have k:=yU (as:=ZV 2 [(true,zo n m J e Ds S)]) (p:=1) (xp (WD.e (za (i:=0) rfl)) d) (zl rfl);have b:∀(t a:FT) (g:Fn),RE (g [(true,zo n m J e Ds S)]) (oD a)->xx (fT (f2 zj (fC .non) (zy .Is))) (zz true 1 (zp xr g)) xR [sT (zo n m J e Ds S),sT (oD t)]=some (.nx [sT (zo n m J e Ds S),sT (oD (t.or a))]):=λt a g l=>by
  have c:=pz (as:=[sT (zo n m J e Ds S),sT (oD t)]) (i:=1) rfl;cases t with
  |none=>exact wd c (yU (xp (WD.e (za rfl)) l) (zl rfl))
  |some o=>exact zL c rfl
 exact ym rfl (zd k (zd (b _ _ _ f) (zd (b _ _ _ h) (yi (WD.e (za rfl))))))
abbrev Jc(n m:Nat)(J:TZ)(e:Int)(Ds:DZ)(S:SS)(d:D)(x y:Option O):AS:=[sT (zo n m J e Ds S),sI n,sI m,sT (zv J),sI e,sT (.lst (Ds.map yh)),sT (.lst (S.map yx)),sT d,x,y]
abbrev oH:SF:=(zm (xx (Wp (fT (f2 yK (fC .non) (zy .Is))) (fT (f2 (f2 (f2 (fV 9) zX zk) zP zk) zP (zy .NotEq)))) (zz true 7 (zY (dC (fC (.str "empty")) (dC (fV 8) dN)))) xR)
 (xx (fT (f2 yK (fC .non) (zy .Is))) (zz true 7 (zp (aC zj (aC zu (aC zD (aC (fV 8) (aC (fV 9) aN))))) v5)) xR))
def LR(A:Alg n m J e Ds):RE (v8 [(true,zo n m J e Ds S)]) (oD (tW n m J e Ds)):=by
 have k:=A.n8;have u:=A.m1;have l:zC n e:=⟨A.e0,A.en⟩;have v:=Rn k A.j l;obtain⟨w,o,x,y,rfl⟩:=yJ (g:=gT 2 (ye (gN 8) (ye (gN 9) xD))) (f:=oH)
  (λi as=>∃(x y:Option O),as=Jc n m J e Ds S (oD (((tU n J e).or (tA n J)).or ((Ds.take i).findSome? (tE n m J e)))) x y)
  ((Ds.map yh).map λd=>(true,d)) 0 (Jc n m J e Ds S (oD ((tU n J e).or (tA n J))) none none) (λi x as a z=>by
    obtain⟨x,y,rfl⟩:=z;rw[zyB,zzI]at a;obtain⟨p,r,rfl⟩:=zzX.mp a;have s:=A.ds p (zyA r);have B:((tU n J e).or (tA n J)).or ((Ds.take (0+i+1)).findSome? (tE n m J e))=(((tU n J e).or (tA n J)).or ((Ds.take (0+i)).findSome? (tE n m J e))).or (tE n m J e p):=by
     have C:List.findSome? (tE n m J e) (Option.toList (some p))=tE n m J e p:=by
      rw[Option.toList_some,List.findSome?_cons,List.findSome?_nil];cases tE n m J e p<;>rfl
     generalize (tU n J e).or (tA n J)=X;rw[zyY,List.take_succ,r,List.findSome?_append,C,Option.or_assoc]
    rw[B];generalize ((tU n J e).or (tA n J)).or ((Ds.take (0+i)).findSome? (tE n m J e))=t;refine⟨Jc n m J e Ds S (oD t) (sT (.str p.1)) (sT (zv p.2)),rfl, ?_⟩;have b:=pz (as:=Jc n m J e Ds S (oD t) (sT (.str p.1)) (sT (zv p.2))) (i:=7) rfl;cases t with
    |some G=>exact⟨_,zV (zL (ZK b (λh=>nomatch h) (λ_=>rfl)) rfl) (zL b rfl),_,_,rfl⟩
    |none=>
     obtain⟨D,_⟩:=YW (as:=Jc n m J e Ds S (oD none) (sT (.str p.1)) (sT (zv p.2))) s ⟨by trivial,by trivial⟩ l (za (i:=9) rfl) (zb) (za (i:=4) rfl);have E:=Es D (za (i:=4) rfl);have c:=ZK b (λ_=>E) (λh=>nomatch h);have F:tE n m J e p=(if(!(yt p.2 0 e==e))=true then some [.str "empty",.str p.1]else none).or (tD n m J p.2 p.1):=rfl;rw[show(none:FT).or (tE n m J e p)=tE n m J e p from rfl,F];generalize (!(yt p.2 0 e==e))=q at c;cases q with
     |true=>exact⟨_,zV (wd c (yU (XJ (ze zb (ze (za rfl) zJ)) (wC rfl) rfl rfl) (zl rfl))) (zL (zF (zi (za rfl) zb rfl rfl) rfl) rfl),_,_,rfl⟩
     |false=>exact⟨_,zV (zL c rfl) (wd b (yU (Ki (WD.e (za rfl)) (WD.e (za rfl)) (WD.e (za rfl)) (WD.e (za rfl)) (WD.e (za rfl)) (Kn k u A.m6 A.j s)) (zl rfl))),_,_,rfl⟩)
  ⟨none,none,by rw[List.take_zero,List.findSome?_nil,or_none]⟩
 rw[zzB,zzB,zyY,List.take_length]at o;exact ym rfl (zd (RI (WD.e (za rfl)) rfl) (zd (yU (vf (WD.e (za rfl)) (WD.e (za rfl)) (WD.e (za rfl)) v) (zl rfl)) (zd (yH (GH (za rfl)) o) (yi (WD.e (za rfl))))))
end
def Lp{n m:Nat}{J:TZ}{e c:Int}{Ds:DZ}{S:SS}(A:Alg n m J e Ds):∃J' e' Ds',Alg n m J' e' Ds'/\RE (vi [(true,zo n m J e Ds S),(true,.int c)]) (zo n m J' e' Ds' S):=by
 have f:=A.n1;have b:=A.n8;have g:=A.m6;have t:=A.dl;have O:=Nat.mul_le_mul b b;have nm:=Nat.mul_le_mul b g;have C:=Nat.mul_le_mul nm t;obtain⟨d,E,h,u⟩:=BB (c:=c) (k:=1+n*n+n*m*Ds.length) f b (by omega);obtain⟨F,G,v⟩:=RD (r:=d) (P:=zC n) (k:=0) (by omega) (by omega) h;obtain⟨x,H,I,K⟩:=Po (as:=[sT (zo n m J e Ds S),sI c,sI n,sI m,sT (zv J),sI e,sT (.lst (Ds.map yh)),sT (.lst (S.map yx)),sT (.lst (d.map D.int)),none,none,none,none]) zc (fr:=aC zu aN) (cap:=[none,some 8,some 2]) (fe:=Qr zj (oS (f2 zW (f2 zu zh zE) zA)) (oS (f2 (f2 zW (f2 zu zh zE) zA) zu zA)) T6) (zg (za rfl) zt) (by omega) λa Q R=>by
  have T:n*a.toNat+n<=n*n:=by rw[<-Nat.mul_succ];exact Nat.mul_le_mul_left n (by omega)
  have y:(a.toNat:Int)=a:=by omega
  have w:WD (f2 zW (f2 zu zh zE) zA) [sI a,sT (.lst (d.map D.int)),sI n] true (.int (1+n*a)):=yC zb (yV (za rfl) (za rfl) (zO (by omega) (by omega)) (zO (by omega) (by omega)));exact⟨[sI a,sT (.lst (d.map D.int)),sI n],_,rfl,uH (a:=1+n*a.toNat) (by omega) (za rfl) w (yC w (za rfl)) (by rw[Int.natCast_add,zzV,y];rfl) (by rw[Int.natCast_add,Int.natCast_add,zzV,y];rfl),Fb (by omega) h rfl⟩
 obtain⟨L,l,i,o,z,p,B,M⟩:=DO f b g t E h;refine⟨x,F,l,⟨f,b,A.m1,g,⟨H,I⟩,v.1,v.2,by omega,z.al,by rw[p];exact A.nd⟩, ?_⟩;have N:((1+n*n+n*m*Ds.length:Nat):Int)=1+n*n+n*m*((Ds.map yh).length:Int):=by rw[Int.natCast_add,Int.natCast_add,zzV,zzV,zzV,zzB];rfl
 have s:=zzV n m;rw[N]at u;refine ym rfl (zd (RI (WD.e (za rfl)) rfl) (zd (yU (vf (WD.e (za rfl)) (WD.e (za rfl)) (WD.e (yC (yC zb (yV (za rfl) (za rfl) (zO (by omega) (by omega)) (zO (by omega) (by omega)))) (yV (yV (za rfl) (za rfl) (zO (by omega) (by omega)) (zO (by omega) (by omega))) (xh (zg (za rfl) zt) rfl rfl) (by rw[<-s];exact zO (by omega) (by omega)) (zO (by rw[zzB];omega) (by rw[zzB];omega))))) u) (zl rfl)) (zd (yU K (zl rfl)) (zd (yI (xt zJ (wC rfl)) (zl rfl)) (zd (yH (yO (zg (xh (zg (za rfl) zt) rfl rfl) zt) (by omega) (by rw[zzB];omega)) (by rw[zzB];exact M)) ?_)))));have q:=yD (as:=J_ n m (sT (zo n m J e Ds S)) (sI c) (sT (zv J)) (sI e) (sT (.lst (S.map yx))) (sT (zv x)) Ds d (sN L) i o) (a:=fV 2) (za rfl) (yD (a:=fV 3) (za rfl) (yD (a:=fV 9) (za rfl) (yD (a:=f2 (fV 8) zX zk) (zi (za rfl) zb G rfl) (QC (j:=10) (fr:=dC yK dN) rfl (yD (za rfl) rfl)))));rw[z.frz]at q;exact⟨_,XB (U0 q (wC rfl)) rfl,rfl,rfl⟩
def ub{ns:List Int}:∃n m J e Ds S,Alg n m J e Ds/\Sg n S/\RE (Qh [(true,.lst (ns.map .int))]) (zo n m J e Ds S):=by
 obtain⟨c,q⟩:=Zp (k:=2) (by omega);obtain⟨u,d⟩:=Zp (k:=0) (by omega);obtain⟨r,f⟩:=Zp (k:=1) (by omega);obtain⟨n,m,J,e,s,S,⟨A,_⟩,b,t⟩:=Pl (c':=r);have o:zz true 1 (zp (aC zh (aC yk aN)) zU) [sT (.lst (ns.map .int)),none,none]=some (.nx [sT (.lst (ns.map .int)),sI c,none]):=yj (yX (zg (za rfl) (zg zb zt)) q) (zl rfl);have p:zz true 2 (zp (aC (zp (aC zh (aC zX aN)) zU) (aC (zp (aC zh (aC zW aN)) zU) aN)) xm) [sT (.lst (ns.map .int)),sI c,none]=some (.nx [sT (.lst (ns.map .int)),sI c,sT (zo n m J e s S)]):=
  yU (vU (WD.e (yX (zg (za rfl) (zg zb zt)) d)) (WD.e (yX (zg (za rfl) (zg zb zt)) f)) t) (zl rfl)
 by_cases h:c%2=1
 . obtain⟨g,i,a,j,l⟩:=Lp A;exact⟨n,m,g,i,a,S,j,b,ym rfl (zd o (zd p (y7 (wa (zF (yo (yc (za rfl) zb (by decide)) zb rfl) (by show some (c%2==1)=_;simp[h])) (yi (vU (WD.e (za rfl)) (WD.e (wN (za rfl) zb (by decide) (zO (by decide) (by decide)))) l))))))⟩
 . obtain⟨g,i,a,j,l⟩:=CM A;exact⟨n,m,g,i,a,S,j,b,ym rfl (zd o (zd p (zd (zL (zF (yo (yc (za rfl) zb (by decide)) zb rfl) (by show some (c%2==1)=_;simp[h])) rfl) (yi (vU (WD.e (za rfl)) (WD.e (wN (za rfl) zb (by decide) (zO (by decide) (by decide)))) l)))))⟩
def Ze{n:Nat}{t:Int->FT}(h:fs n t=none){b:Int}(hb:zC n b):t b=none:=by
 unfold fs at h;have:=List.findSome?_eq_none_iff.mp h b.toNat (List.mem_range.mpr (by have:=hb.1;have:=hb.2;omega));rw[show((b.toNat:Nat):Int)=b by have:=hb.1;omega]at this;exact this
def SX{t t':FT}(h:t.or t'=none):t=none/\t'=none:=by cases t with
 |none=>exact⟨rfl,h⟩
 |some d=>cases h
def Fz{q:Bool}{ds:List D}(h:(if q=true then some ds else none)=none):q=false:=by cases q with
 |false=>rfl
 |true=>cases h
def P5{a b:Int}(h:(!(a==b))=false):a=b:=by simpa using h
def HK{n m:Nat}{J:TZ}{e:Int}{Ds:DZ}(A:Alg n m J e Ds)(h:tW n m J e Ds=none):LawA n m J e Ds:=by
 obtain⟨l,q⟩:=SX h;obtain⟨l,r⟩:=SX l;have un:∀a,zC n a->yt J e a=a/\yt J a e=a:=λa d=>by
  have:=Fz (Ze l d);rw[Bool.or_eq_false_iff]at this;exact⟨P5 this.1,P5 this.2⟩
 have y:zC m (0:Int):=⟨Int.le_refl _,by have:=A.m1;omega⟩;have cl:∀{k:Nat}{T:TZ}(c a:Int),Tab k n T->zC k c->zC n a->zC n (yt T c a):=λc a s f d=>(rowAt (xQ s f).2 d).2;have t:zC n e:=⟨A.e0,A.en⟩;refine⟨⟨λa b d g=>cl a b A.j d g,t,λa d=>(un a d).1,λa d=>(un a d).2,λa b c d g f=>P5 (Fz (Ze (Ze (Ze r d) g) f))⟩,λp o=>?_⟩;obtain⟨u,v⟩:=SX (List.findSome?_eq_none_iff.mp q p o);exact⟨λc a f d=>cl c a (A.ds p o) f d,P5 (Fz u),λa i b k d w g x=>P5 (Fz (Ze (Ze (Ze (Ze v d) w) g) x))⟩
def SH{n m:Nat}{J:TZ}{e:Int}{Ds:DZ}(A:Alg n m J e Ds)(L:LawA n m J e Ds):tW n m J e Ds=none:=by
 have f:∀{k:Nat}{t:Int->FT},(∀b,zC k b->t b=none)->fs k t=none:=λ{k t} H=>by
  unfold fs;exact List.findSome?_eq_none_iff.mpr λi o=>H _ ⟨by omega,by have:=List.mem_range.mp o;omega⟩
 have bn:∀{a b:Int},a=b->(!(a==b))=false:=λh=>by simp[h]
 have d:∀{q:Bool}{r:List D},q=false->(if q=true then some r else none)=none:=λh=>by rw[h];rfl
 have s:tU n J e=none:=f λa g=>d (by rw[bn (L.lj.ul a g),bn (L.lj.ur a g)];rfl);have u:tA n J=none:=f λa g=>f λb j=>f λc v=>d (bn (L.lj.as a b c g j v));have w:Ds.findSome? (tE n m J e)=none:=List.findSome?_eq_none_iff.mpr λp x=>by
  have l:=L.ld p x;have y:(if(!(yt p.2 0 e==e))=true then some [D.str "empty",D.str p.1]else none)=none:=d (bn l.em);have z:tD n m J p.2 p.1=none:=f λa g=>f λi B=>f λb j=>f λk C=>d (bn (l.dn a i b k g B j C));unfold tE;rw[y,z];rfl
 unfold tW;rw[s,u,w];rfl
def SR{n m:Nat}{J:TZ}{e:Int}{Ds:DZ}{S:SS}(A:Alg n m J e Ds)(L:LawA n m J e Ds):xb [(true,zo n m J e Ds S)]=sT .non:=by
 have w:=O4 (S:=S) A;rw[SH A L]at w;have h:vT (ZV 2 [(true,zo n m J e Ds S)])=some (.nx [sT (zo n m J e Ds S),sT .non]):=zV (yU (xp (WD.e (za rfl)) w) (zl rfl)) (zL (zF (zi (za rfl) zb rfl rfl) rfl) rfl);unfold xb wK;rw[if_pos (show[(true,zo n m J e Ds S)].length=1 from rfl),h];rfl
def Ik{ns:List Int}:∃n m J e Ds S,Alg n m J e Ds/\LawA n m J e Ds/\Sg n S/\RE (Ye [(true,.lst (ns.map .int))]) (zo n m J e Ds S):=by
 obtain⟨c,D⟩:=Zp (k:=2) (s:=true) (by omega);obtain⟨G,q⟩:=Zp (k:=0) (by omega);obtain⟨E,r⟩:=Zp (k:=1) (by omega);obtain⟨n,m,J,e,t,S,⟨A,L⟩,B,F⟩:=Pl (c':=E);obtain⟨b,f,g,j,a,l,u,v,w⟩:=ub;have x:=yU (p:=1) (as:=[sT (.lst (ns.map .int)),none]) (xp (WD.e (za (i:=0) rfl)) w) (zl rfl);have C:Rt (zT (zp (aC (zp (aC zh (aC zX aN)) zU) (aC (zp (aC zh (aC zW aN)) zU) aN)) xm) [sT (.lst (ns.map .int)),sT (zo b f g j a l)]) (zo n m J e t S):=yi (vU (WD.e (yX (zg (za rfl) (zg zb zt)) q)) (WD.e (yX (zg (za rfl) (zg zb zt)) r)) F);have y:WT (fT (f2 (f2 (zp (aC zh (aC yk aN)) zU) yk zB) zW (zy .Eq))) [sT (.lst (ns.map .int)),sT (zo b f g j a l)] (c%2==1):=zF (yo (yc (yX (zg (za rfl) (zg zb zt)) D) zb (by decide)) zb rfl) rfl;have o:WT (fT (f2 (zp yS v8) (fC .non) (zy .Is))) [sT (.lst (ns.map .int)),sT (zo b f g j a l)] (tW b f g j a).isNone:=zF (FN (xp (WD.e (za rfl)) (LR u)) (WD.e (zb)) Hv) rfl
 by_cases h:(c%2==1)=true
 . cases hw:tW b f g j a with
   |none=>
    rw[hw]at o;exact⟨b,f,g,j,a,l,u,HK u hw,v,ym rfl (zd x (y7 (wa (ZK y (λ_=>o) (λz=>by rw[h]at z;cases z)) (yi (WD.e (za rfl))))))⟩
   |some d=>
    rw[hw]at o;exact⟨n,m,J,e,t,S,A,L,B,ym rfl (zd x (zd (zL (ZK y (λ_=>o) (λ_=>rfl)) rfl) C))⟩
 . exact⟨n,m,J,e,t,S,A,L,B,ym rfl (zd x (zd (zL (ZK y (λz=>absurd z h) (λ_=>rfl)) rfl) C))⟩
abbrev sL(x:Int):D:=.tup [.str "left",.int x]
abbrev sR(x:Int):D:=.tup [.str "right",.int x]
abbrev sD(s:Str)(c:Int):D:=.tup [.str "deed",.str s,.int c]
def xM{α:Type}{f:EF}{as:AS}{g:α->D}{l:List α}(h:WE f as (.lst (l.map g))):yw f as=some (l.map λa=>(true,g a),as):=by
 have:=P8 h;rw[zyB]at this;exact this
def zQ{n:Nat}{x:Int}(h:x ∈ zx n):zC n x:=by
 obtain⟨i,a,rfl⟩:=zxE.mp h;have:=List.mem_range.mp a;exact⟨by omega,by omega⟩
def x8{n:Nat}{x:Int}(h:zC n x):x ∈ zx n:=zxE.mpr ⟨x.toNat,List.mem_range.mpr (by have:=h.1;have:=h.2;omega),by have:=h.1;omega⟩
def vb{as:AS}{fr:AF}{n:Nat}{u:Bool}(h:WA fr as [(u,.int n)])(hn:n<=1000):ya fr yb as=some ((zx n).map λx=>(true,D.int x),as):=by
 rw[yO h (by omega) (by omega),zyI,zyB];unfold y6;simp only[Int.zero_add];rfl
abbrev Gf(q:D×List Int):D:=.tup [q.1,zc q.2]
def qW{a b:EF}{as:AS}{ds es:List D}(ha:WE a as (.lst ds))(hb:WE b as (.lst es))(hl:ds.length+es.length<=sizeLine):f2 a b zA as=some (.ow (.nd .ls ((ds++es).map (O.lf true))),as):=by
 obtain⟨o,c,d,e⟩:=ha;obtain⟨p,f,g,h⟩:=hb;have i:RV.view as (.ow o.frz)=some (.lst ds,some true):=by
  show some (o.toD,some o.str)=_;rw[d,e]
 have j:RV.view as (.ow p.frz)=some (.lst es,some true):=by
  show some (p.toD,some p.str)=_;rw[g,h]
 unfold f2;simp only[c,f,zyL,RV.frz,i,j];show((WJ .Add (.lst ds) (.lst es)).bind _)=_;rw[add_lists hl];show(if((ds++es).all zN||true)=true then some (RV.ow (.nd .ls ((ds++es).map (K8 true))))else none:Option RV).bind _=_;rw[if_pos (by simp),Xy];rfl
theorem Mh:∀(a b:List O),O.toDs (a++b)=O.toDs a++O.toDs b
 | [],_=>rfl
 |x::a,b=>congrArg (x.toD :: ·) (Mh a b)
theorem Nv:∀{a b:List O},O.strs a=true->O.strs b=true->O.strs (a++b)=true
 | [],_,_,h=>h
 |x::a,b,h,c=>by
  have h:=(zyC _ _).mp (show(x.str&&O.strs a)=true from h);show(x.str&&O.strs (a++b))=true;rw[h.1,Nv h.2 c];rfl
def r9{α:Type}{toD:α->D}{Q:α->Prop}{as:AS}{fi:IF}{cap:List (Option Nat)}{g:GF}{fe:EF}{i:Nat}{os ps:List O}{l k:List α}{xs:List wx}(h:as[i]? = some (sN os))(ho:Ows toD Q os l)(hi:fi as=some (xs,as))(hx:xs.length<=1000)(hc:yR g zH fe (wk cap as) xs=some ps)(hs:O.strs ps=true)(hd:O.toDs ps=k.map toD)(hk:∀a ∈ k,Q a)(hl:l.length+k.length<=1000):
 yB (yZ i (dC (zq fi cap g zH fe) dN) BL) as=some (.nx (as.set i (sN (os++ps))))/\Ows toD Q (os++ps) (l++k):=by
 have hlp:ps.length=k.length:=by have:=congrArg List.length hd;rw[Xd,zzB]at this;exact this
 refine⟨?_,Nv ho.st hs,by rw[Mh,ho.ds,hd,zyM],λa m=>(zzM.mp m).elim (ho.al a) (hk a),by rw[zzJ,zzJ,ho.ln,hlp]⟩;have e1:=ZX hi (LV (by omega)) hc;unfold yB yZ;rw[h];show(((dC (zq fi cap g zH fe) dN as).bind _).bind _)=_;unfold dC;rw[e1];show((match as[i]? with|some (some (.nd .ls os))=>(BL os [.nd .ls ps]).bind λz=>some (RV.ow z.2,as.set i (sN z.1))|_=>none).bind _)=_;rw[h];show(((if os.length+ps.length<=sizeLine then some (os++ps,O.lf true .non)else none:Option (List O×O)).bind _).bind _)=_;rw[if_pos (LV (by rw[ho.ln,hlp];omega))];rfl
section
variable{n m:Nat}{J:TZ}{e:Int}{Ds:DZ}{S:SS}{v:Int}
abbrev tR(T:TZ)(x:Int):List Int:=(T[x.toNat]?).getD []
abbrev col(J:TZ)(x:Int):List Int:=J.map λr=>zw r x
abbrev Fm(n m:Nat)(J:TZ)(Ds:DZ)(q:List Int):Prop:=(∃x,zC n x/\(q=tR J x\/q=col J x))\/∃p ∈ Ds,∃c,zC m c/\q=tR p.2 c
abbrev Gd(n m:Nat)(J:TZ)(Ds:DZ)(q:D×List Int):Prop:=Row n q.2/\Fm n m J Ds q.2
def qu{x:Int}(A:Alg n m J e Ds)(h:zC n x):Row n (col J x):=by
 refine⟨by rw[zzB];exact A.j.1,λy a=>?_⟩;obtain⟨r,b,rfl⟩:=zxE.mp a;exact(rowAt (A.j.2 r b) h).2
abbrev oh:SF:=(yB (yZ 3 (dC (zq (BC yP) [none,none,some 4] (gT 2 (ye zG (ye (gN 1) xD))) zH (zY (dC (zY (dC (fC (.str "deed")) (dC zu (dC zh dN)))) (dC zj dN)))) dN) BL))
theorem FA:∀(T:TZ) (k:Nat),Yq true k (T.map zc)=((List.range' k T.length).zip T).map λq=>(true,D.tup [.int (q.1:Int),zc q.2])
 | [],_=>rfl
 |r::T,k=>by
  show(true,D.tup [.int (k:Int),zc r])::Yq true (k+1) (T.map zc)=_;rw[FA T (k+1)];rfl
def S7(A:Alg n m J e Ds){p:Str×TZ}(hp:p ∈ Ds){B C L:Option O}{os:List O}{l:List (D×List Int)}(ho:Ows Gf (Gd n m J Ds) os l)(hl:l.length+6<=1000):
 ∃ps k,oh [B,C,L,sN os,sT (.str p.1),sT (zv p.2)]=some (.nx [B,C,L,sN (os++ps),sT (.str p.1),sT (zv p.2)])/\Ows Gf (Gd n m J Ds) (os++ps) (l++k)/\k.length=m/\∀c,zC m c->(sD p.1 c,tR p.2 c) ∈ k:=by
 have b:=A.ds p hp;have F:=A.m6;have d:∀q ∈ (List.range' 0 p.2.length).zip p.2,p.2[q.1]? = some q.2:=λq o=>by
  obtain⟨i,f⟩:=List.mem_iff_getElem?.mp o;obtain⟨s,t⟩:=List.getElem?_zip_eq_some.mp f;have:=(zzG.mp s);obtain⟨G,r⟩:=this;rw[List.getElem_range']at r;rw[<-r];simpa using t
 obtain⟨u,v,w,x⟩:=Qg (gg:=gT 2 (ye zG (ye (gN 1) xD))) (it:=λq:Nat×List Int=>(true,D.tup [.int (q.1:Int),zc q.2])) (as0:=[none,none,sT (.str p.1)]) ((List.range' 0 p.2.length).zip p.2) λq o=>⟨_,rfl,xJ (XJ (ze zb (ze (za (i:=2) rfl) (ze (za (i:=0) rfl) zJ))) (wC rfl) rfl rfl) (WD.e (za (i:=1) rfl))⟩;have f:BC yP [B,C,L,sN os,sT (.str p.1),sT (zv p.2)]=some (((List.range' 0 p.2.length).zip p.2).map λq=>(true,D.tup [.int (q.1:Int),zc q.2]),[B,C,L,sN os,sT (.str p.1),sT (zv p.2)]):=by
  rw[<-FA];rfl
 have g:((List.range' 0 p.2.length).zip p.2).length=m:=by rw[List.length_zip,List.length_range',Nat.min_self];exact b.1
 obtain⟨y,z⟩:=r9 (i:=3) (cap:=[none,none,some 4]) (k:=((List.range' 0 p.2.length).zip p.2).map λq=>(sD p.1 (q.1:Int),q.2)) rfl ho f (by rw[zzB,g];omega) v w (by rw[x,zyB];rfl) (λa E=>by
  obtain⟨q,mq,rfl⟩:=zxE.mp E;refine⟨b.2 _ (zyA (d q mq)),.inr ⟨p,hp,(q.1:Int), ?_, ?_⟩⟩
  . have:=(zzG.mp (d q mq)).1;rw[b.1]at this;exact⟨by omega,by omega⟩
  . show q.2=(p.2[((q.1:Nat):Int).toNat]?).getD [];rw[zyI,d q mq];rfl) (by rw[zzB,g];omega)
 refine⟨u,_,y,z,by rw[zzB,g],λc h=>?_⟩;have j:c.toNat<p.2.length:=by have:=h.1;have:=h.2;have:=b.1;omega
 rw[show tR p.2 c=p.2[c.toNat] by show(p.2[c.toNat]?).getD []=_;rw[zzE j];rfl];refine zxE.mpr ⟨(c.toNat,p.2[c.toNat]), ?_,by rw[show((c.toNat:Nat):Int)=c by have:=h.1;omega]⟩;refine List.mem_iff_getElem?.mpr ⟨c.toNat,List.getElem?_zip_eq_some.mpr ⟨?_,zzE j⟩⟩;rw[List.getElem?_range' j];simp
def Mc:(zx n).length=n:=by rw[zzB,zyU]
def Vf(A:Alg n m J e Ds):∃sts:List (D×List Int),sts.length<=60/\(∀q ∈ sts,Gd n m J Ds q)/\(∀x,zC n x->(sL x,tR J x) ∈ sts/\(sR x,col J x) ∈ sts)/\(∀p ∈ Ds,∀c,zC m c->(sD p.1 c,tR p.2 c) ∈ sts)/\RE (wh [(true,zo n m J e Ds S)]) (.lst (sts.map Gf)):=by
 have n8:=A.n8;have m6:=A.m6;have dl:=A.dl;have s1:zz true 1 (f2 zh yk zk) [sT (zo n m J e Ds S),none,none,none,none,none]=some (.nx [sT (zo n m J e Ds S),sT (zv J),none,none,none,none]):=yj (zZ (za rfl) zb rfl) (zl rfl);have w2:WE (fP (aC (f2 zh zX zk) aN) Bw) [sT (zo n m J e Ds S),sT (zv J),none,none,none,none] (zc (zx n)):=⟨_,QH (WD.e (zZ (za rfl) zb rfl)) (by
  show(if(0:Int)<=n/\(n:Int)<=100000 then _ else _)=_;rw[if_pos ⟨by omega,by omega⟩,zyB];rfl),RT _,congrArg D.lst (QY _)⟩
 have s2:=yU (p:=2) w2 (zl rfl);have ib:∀e3 e4 e5,yw zu [sT (zo n m J e Ds S),sT (zv J),sT (zc (zx n)),e3,e4,e5]=some ((zx n).map λx=>(true,D.int x),[sT (zo n m J e Ds S),sT (zv J),sT (zc (zx n)),e3,e4,e5]):=λ_ _ _=>xM (WD.e (za rfl));have wl:=yy (cap:=[none,some 1]) (gg:=gN 0) (fe:=zY (dC (zY (dC (fC (.str "left")) (dC zh dN))) (dC (f2 zj zh zk) dN))) (zx n) (ib none none none) (by rw[Mc];omega) λx mx=>⟨_,rfl,xJ (xJ (WD.e zb) (WD.e (za rfl))) (WD.e (zZ (za rfl) (za rfl) (xQ A.j (zQ mx)).1))⟩;have wr:=yy (cap:=[none,some 1]) (gg:=gN 0) (fe:=zY (dC (zY (dC (fC (.str "right")) (dC zh dN))) (dC (zq (yw zj) [none,some 0] zG zH (f2 zh zj zk)) dN))) (zx n) (ib none none none) (by rw[Mc];omega) λx mx=>⟨_,rfl,by
  have wc:=yy (as:=[sI x,sT (zv J)]) (cap:=[none,some 0]) (gg:=gN 0) J (xM (WD.e (za (i:=1) rfl))) (by rw[A.j.1];omega) λr mr=>⟨_,rfl,WD.e (zi (za (i:=0) rfl) (za (i:=1) rfl) (rowAt (A.j.2 r mr) (zQ mx)).1 rfl)⟩;have ec:(J.map λr=>D.int (zw r x))=(col J x).map D.int:=by rw[zyB];rfl
  rw[ec]at wc;exact xJ (xJ (WD.e zb) (WD.e (za rfl))) wc⟩
 have s3:=yI (i:=3) (qW wl wr (LV (by simp only[zzB,zyU];omega))) (zl rfl);have l0:Ows Gf (Gd n m J Ds) ((((zx n).map λx=>Gf (sL x,tR J x))++((zx n).map λx=>Gf (sR x,col J x))).map (O.lf true)) (((zx n).map λx=>(sL x,tR J x))++((zx n).map λx=>(sR x,col J x))):=by
  refine⟨RT _, ?_,λq mq=>?_, ?_⟩
  . rw[QY];simp only[zyM,zyB];rfl
  . rcases zzM.mp mq with h|h
    . obtain⟨x,mx,rfl⟩:=zxE.mp h;exact⟨(xQ A.j (zQ mx)).2,.inl ⟨x,zQ mx,.inl rfl⟩⟩
    . obtain⟨x,mx,rfl⟩:=zxE.mp h;exact⟨qu A (zQ mx),.inl ⟨x,zQ mx,.inr rfl⟩⟩
  . simp only[zzB,zzJ]
 obtain⟨as',hf,os,l,e4,e5,rfl,ho,hl,hx,hd⟩:=yJ (g:=gT 2 (ye vp (ye (gN 5) xD)))
  (λi as=>∃(os:List O) (l:List (D×List Int)) (e4 e5:Option O),as=[sT (zo n m J e Ds S),sT (zv J),sT (zc (zx n)),sN os,e4,e5]/\Ows Gf (Gd n m J Ds) os l/\l.length<=16+6*i/\(∀x,zC n x->(sL x,tR J x) ∈ l/\(sR x,col J x) ∈ l)/\∀p ∈ Ds.take i,∀c,zC m c->(sD p.1 c,tR p.2 c) ∈ l)
  ((Ds.map yh).map λd=>(true,d)) 0 [sT (zo n m J e Ds S),sT (zv J),sT (zc (zx n)),sN ((((zx n).map λx=>Gf (sL x,tR J x))++((zx n).map λx=>Gf (sR x,col J x))).map (O.lf true)),none,none] (λi x as hx' hI=>by
    obtain⟨os,l,e4,e5,rfl,ho,hl,hx,hd⟩:=hI;rw[zyB,zzI]at hx';obtain⟨p,hp,rfl⟩:=zzX.mp hx';have hi:=(zzG.mp hp).1;have mp:=zyA hp;rw[zyY]at hl hd ⊢;obtain⟨ps,k,x1,x2,x3,x4⟩:=S7 A mp ho (by omega);refine⟨_,rfl,_,x1,_,_,_,_,rfl,x2,by rw[zzJ,x3];omega,λx hxx=>?_,λq mq c hc=>?_⟩
    . exact⟨zzP _ (hx x hxx).1,zzP _ (hx x hxx).2⟩
    . rw[List.take_succ,hp]at mq
      rcases zzM.mp mq with h|h
      . exact zzP _ (hd q h c hc)
      . have:q=p:=by simpa using h
        subst this;exact zzL _ (x4 c hc))
  ⟨_,_,none,none,rfl,l0,by simp only[zzB,zzJ,zyU];omega,λx hx=>⟨zzP _ (zxE.mpr ⟨x,x8 hx,rfl⟩),zzL _ (zxE.mpr ⟨x,x8 hx,rfl⟩)⟩,λp hp=>by simp at hp⟩
 rw[zzB,zzB,zyY]at hl hd;rw[List.take_length]at hd;exact⟨l,by omega,ho.al,hx,hd,ym rfl (zd s1 (zd s2 (zd s3 (zd (yH (GH (zZ (za rfl) zb rfl)) hf) (Ows.retB rfl ho)))))⟩
end
section
variable{α:Type}[DecidableEq α]{toK:α->D}
def pos:List α->α->Nat
 | [],_=>0
 |x::K,a=>if x=a then 0 else pos K a+1
theorem Fx{a b:α}:∀{K:List α},a ∈ K->b ∈ K->pos K a=pos K b->a=b
 | [],h,_,_=>nomatch h
 |x::K,f,g,e=>by
  unfold pos at e
  by_cases d:x=a
  . rw[if_pos d]at e
    by_cases c:x=b
    . rw[<-d,<-c]
    . rw[if_neg c]at e;omega
  . rw[if_neg d]at e
    by_cases c:x=b
    . rw[if_pos c]at e;omega
    . rw[if_neg c]at e;exact Fx ((zzC.mp f).resolve_left λz=>d z.symm) ((zzC.mp g).resolve_left λz=>c z.symm) (by omega)
def OD(hf:∀a,zN (toK a)=false)(u:Bool)(l:List α):kids u (l.map toK)=l.map λa=>(u,toK a):=by
 unfold kids;rw[zyB];refine List.map_congr_left λa _=>?_;show(zN (toK a)||u,toK a)=_;rw[hf];rfl
def vX(K:List α):List α->List α
 | []=>K
 |a::l=>if a ∈ K then vX K l else vX (K++[a]) l
theorem FF{a:α}:∀(l K:List α),a ∈ K->a ∈ vX K l
 | [],_,h=>h
 |b::l,K,h=>by
  unfold vX
  by_cases e:b ∈ K
  . rw[if_pos e];exact FF l K h
  . rw[if_neg e];exact FF l _ (zzP _ h)
theorem Pq{a:α}:∀(l K:List α),a ∈ l->a ∈ vX K l
 | [],_,h=>nomatch h
 |b::l,K,h=>by
  unfold vX
  by_cases e:b ∈ K
  . rw[if_pos e]
    rcases zzC.mp h with rfl|h
    . exact FF l K e
    . exact Pq l K h
  . rw[if_neg e]
    rcases zzC.mp h with rfl|h
    . exact FF l _ (zzL _ (zzR.mpr rfl))
    . exact Pq l _ h
theorem Kw:∀(l K:List α),(vX K l).length<=K.length+l.length
 | [],K=>zzN _
 |b::l,K=>by
  unfold vX;show _<=K.length+(l.length+1)
  by_cases e:b ∈ K
  . rw[if_pos e];have:=Kw l K;omega
  . rw[if_neg e];have:=Kw l (K++[b]);rw[zzJ]at this;have:(vX (K++[b]) l).length<=K.length+1+l.length:=this;omega
variable{kk:α->List Key}
def uj(hk:∀a b,kk a=kk b->a=b)(a:α)(K:List α):Qf (K.map kk) (kk a)=decide (a ∈ K):=by
 unfold Qf;rw[List.any_map]
 by_cases h:a ∈ K
 . rw[zyO h,List.any_eq_true];exact⟨a,h,by simp⟩
 . rw[zyG h,List.any_eq_false];intro b c z;exact h (hk b a (by simpa using z) ▸ c)
theorem HC(hk:∀a b,kk a=kk b->a=b){a:α}:∀(K:List α) (s:Nat),a ∈ K->YQ (K.map kk) ((List.range' s K.length).map λi:Nat=>D.int (i:Int)) (kk a)=some (.int ((s+pos K a:Nat):Int))
 | [],_,h=>nomatch h
 |x::K,s,h=>by
  unfold YQ pos;rw[zzT,List.range'_succ,zyS,zyS,List.zip_cons_cons]
  by_cases e:x=a
  . rw[if_pos e,List.find?_cons_of_pos (by simp[e])];rfl
  . rw[if_neg e,List.find?_cons_of_neg (by simpa using λz:kk x=kk a=>e (hk x a z))];have:=HC hk K (s+1) ((zzC.mp h).resolve_left λz=>e z.symm);unfold YQ at this;rw[this,show s+1+pos K a=s+(pos K a+1) by omega]
abbrev nD(kk:α->List Key)(K:List α):Option O:=some (.nd (.dt (K.map kk)) ((List.range' 0 K.length).map λi:Nat=>xf (i:Int)))
theorem Ku:∀(k s:Nat),O.toDs ((List.range' s k).map λi:Nat=>xf (i:Int))=(List.range' s k).map λi:Nat=>D.int (i:Int)
 |0,_=>rfl
 |k+1,s=>by
  rw[List.range'_succ,zyS,zyS];exact congrArg (D.int (s:Int) :: ·) (Ku k (s+1))
abbrev r_:SF:=BP 1 (dC zu (dC (fP yS vm) dN))
def Cz(hk:∀a b,kk a=kk b->a=b)(ht:∀a,Xk (toK a)=some (kk a)){s0:Option O}{u:Bool}{K:List α}{a:α}(hl:K.length<=1000):r_ [s0,nD kk K,some (.lf u (toK a))]=some (.nx [s0,if a ∈ K then nD kk K else nD kk (K++[a]),some (.lf u (toK a))]):=by
 have d:fP yS vm [s0,nD kk K,some (.lf u (toK a))]=some (.ow (xf (K.length:Nat)),[s0,nD kk K,some (.lf u (toK a))]):=by
  have c:([s0,nD kk K,some (.lf u (toK a))]:AS)[1]? = some (some (.nd (.dt (K.map kk)) ((List.range' 0 K.length).map λi:Nat=>xf (i:Int)))):=rfl;have f:(O.nd (.dt (K.map kk)) ((List.range' 0 K.length).map λi:Nat=>xf (i:Int))).toD = .dt (K.map kk) ((List.range' 0 K.length).map λi:Nat=>D.int (i:Int)):=congrArg (D.dt (K.map kk)) (Ku _ _);have e:views [s0,nD kk K,some (.lf u (toK a))] [.bo 1]=some ([.dt (K.map kk) ((List.range' 0 K.length).map λi:Nat=>D.int (i:Int))],meet (O.nd (.dt (K.map kk)) ((List.range' 0 K.length).map λi:Nat=>xf (i:Int))).kl (some true)):=by
   show(RV.view _ (.bo 1)).bind _=_;rw[Zo c,f];rfl
  unfold fP yS aC;rw[Xc c];simp only[zyL,aN,RV.frz,e];show(some (R0.im (.int (((List.range' 0 K.length).map λi:Nat=>D.int (i:Int)).length:Nat)))).bind _=_;rw[zzB,List.length_range'];rfl
 have fr:dC zu (dC (fP yS vm) dN) [s0,nD kk K,some (.lf u (toK a))]=some ([.lf u (toK a),xf (K.length:Nat)],[s0,nD kk K,some (.lf u (toK a))]):=yD (za rfl) (yD d rfl);unfold r_ BP;show((dC zu (dC (fP yS vm) dN) [s0,nD kk K,some (.lf u (toK a))]).bind _)=_;rw[fr];show((Xk (toK a)).bind λk=>if(K.map kk).length<sizeLine then some (Out.nx (if Qf (K.map kk) k=true then[s0,nD kk K,some (.lf u (toK a))]else[s0,some (.nd (.dt (K.map kk++[k])) (((List.range' 0 K.length).map λi:Nat=>xf (i:Int))++[xf (K.length:Nat)])),some (.lf u (toK a))]))else none)=_;rw[ht];show(if(K.map kk).length<sizeLine then some (Out.nx (if Qf (K.map kk) (kk a)=true then[s0,nD kk K,some (.lf u (toK a))]else[s0,some (.nd (.dt (K.map kk++[kk a])) (((List.range' 0 K.length).map λi:Nat=>xf (i:Int))++[xf (K.length:Nat)])),some (.lf u (toK a))]))else none)=_;rw[if_pos (by rw[zzB];exact Nat.lt_of_le_of_lt hl (by decide)),uj hk]
 by_cases h:a ∈ K
 . rw[zyO h,if_pos rfl,if_pos h]
 . rw[zyG h,if_neg (by decide),if_neg h];unfold nD;rw[zyM,zzJ];show _=some (Out.nx [s0,some (.nd (.dt (K.map kk++[kk a])) ((List.range' 0 (K.length+1)).map λi:Nat=>xf (i:Int))),some (.lf u (toK a))]);rw[List.range'_concat,zyM];simp
theorem LH(hk:∀a b,kk a=kk b->a=b)(ht:∀a,Xk (toK a)=some (kk a)){s0:Option O}{u:Bool}:∀(l K:List α) (e2:Option O),K.length+l.length<=1000->∃e2',forL (gN 2) r_ (l.map λa=>(u,toK a)) [s0,nD kk K,e2]=some (.nx [s0,nD kk (vX K l),e2'])
 | [],K,g,_=>⟨g,rfl⟩
 |a::l,K,g,h=>by
  have h:K.length+(l.length+1)<=1000:=h;have d:=Cz hk ht (s0:=s0) (u:=u) (K:=K) (a:=a) (by omega);unfold vX
  by_cases e:a ∈ K
  . rw[if_pos e]at d ⊢;obtain⟨c,f⟩:=LH hk ht l K (some (.lf u (toK a))) (by omega);exact⟨c,y8 rfl d f⟩
  . rw[if_neg e]at d ⊢;obtain⟨c,f⟩:=LH hk ht l (K++[a]) (some (.lf u (toK a))) (by rw[zzJ];show K.length+1+_<=_;omega);exact⟨c,y8 rfl d f⟩
end
section
variable{α:Type}[DecidableEq α]{toK:α->D}{kk:α->List Key}
def Ug(hf:∀a,zN (toK a)=false)(hk:∀a b,kk a=kk b->a=b)(ht:∀a,Xk (toK a)=some (kk a))(u:Bool)(l:List α)(hl:l.length<=100):RE (wM [(u,.lst (l.map toK))]) (zc (l.map λa=>((pos (vX [] l) a:Nat):Int))):=by
 obtain⟨d,c⟩:=LH hk ht l [] none (by show 0+_<=_;omega);have f:Vd zh [some (.lf u (.lst (l.map toK))),nD kk ([]:List α),none]=some (l.map λa=>(u,toK a),[some (.lf u (.lst (l.map toK))),nD kk ([]:List α),none]):=by
  show some (kids u (l.map toK),_)=_;rw[OD hf]
 have g:yw zh [some (.lf u (.lst (l.map toK))),nD kk (vX [] l),d]=some (l.map λa=>(u,toK a),[some (.lf u (.lst (l.map toK))),nD kk (vX [] l),d]):=by
  show some (kids u (l.map toK),_)=_;rw[OD hf]
 have w:=yy (h:=λa=>D.int (pos (vX [] l) a:Nat)) (gg:=gN 0) (fe:=f2 zj zh IV) l g (by omega) λa j=>by
  have ec:wk [none,some 1] [some (.lf u (.lst (l.map toK))),nD kk (vX [] l),d]=[none,some (.lf false (.dt ((vX [] l).map kk) ((List.range' 0 (vX [] l).length).map λi:Nat=>D.int (i:Int))))]:=by
   show[none,some (O.lf false (.dt ((vX [] l).map kk) (O.toDs ((List.range' 0 (vX [] l).length).map λi:Nat=>xf (i:Int)))))]=_;rw[Ku]
  rw[ec];refine⟨_,rfl,WD.e (zi (za rfl) (za rfl) ?_ rfl)⟩;show(Xk (toK a)).bind _=_;rw[ht];show BZ (YQ ((vX [] l).map kk) ((List.range' 0 (vX [] l).length).map λi:Nat=>D.int (i:Int)) (kk a))=_;rw[HC hk _ 0 (Pq l [] j),zyY];rfl
 rw[show(l.map λa=>D.int (pos (vX [] l) a:Nat))=(l.map λa=>((pos (vX [] l) a:Nat):Int)).map D.int by rw[zyB];rfl]at w;exact ym rfl (zd (yI rfl (zl rfl)) (zd (yH f c) (yi w)))
end
section
variable{ι α β:Type}[DecidableEq α][DecidableEq β]{g:ι->α}{h:ι->β}
def LO(e:ι->ι->Bool)(R:List ι):List ι->List ι
 | []=>R
 |i::is=>if(R.any λr=>e r i)=true then LO e R is else LO e (R++[i]) is
def Bo(e:ι->ι->Bool):List ι->ι->Nat
 | [],_=>0
 |r::R,i=>if e r i=true then 0 else Bo e R i+1
def JC(R:List ι)(i:ι):(R.any λr=>decide (g r=g i))=true ↔ g i ∈ R.map g:=by
 rw[List.any_eq_true,zxE];exact⟨λ⟨r,a,z⟩=>⟨r,a,by simpa using z⟩,λ⟨r,a,z⟩=>⟨r,a,by simpa using z⟩⟩
theorem UX:∀(is R:List ι),vX (R.map g) (is.map g)=(LO (λr i=>decide (g r=g i)) R is).map g
 | [],_=>rfl
 |i::a,R=>by
  rw[zyS];unfold vX LO
  by_cases q:g i ∈ R.map g
  . rw[if_pos q,if_pos ((JC R i).mpr q)];exact UX a R
  . rw[if_neg q,if_neg λz=>q ((JC R i).mp z)];have:=UX a (R++[i]);rw[zyM]at this;exact this
theorem Lq(i:ι):∀R:List ι,pos (R.map g) (g i)=Bo (λr i=>decide (g r=g i)) R i
 | []=>rfl
 |r::R=>by
  rw[zyS];unfold pos Bo
  by_cases q:g r=g i
  . rw[if_pos q,if_pos (by simpa using q)]
  . rw[if_neg q,if_neg (by simpa using q),Lq i R]
theorem Ky{e:ι->ι->Bool}{i:ι}:∀(is R:List ι),i ∈ LO e R is->i ∈ R\/i ∈ is
 | [],_,m=>.inl m
 |j::a,R,m=>by
  unfold LO at m
  split at m
  . exact(Ky a R m).imp id λz=>zzD _ z
  . rcases Ky a _ m with z|z
    . rcases zzM.mp z with z|z
      . exact .inl z
      . rw[zzR.mp z];exact .inr (zzF ..)
    . exact .inr (zzD _ z)
theorem Sj{e e':ι->ι->Bool}{i:ι}:∀{R:List ι},(∀r ∈ R,e r i=e' r i)->(R.any λr=>e r i)=R.any λr=>e' r i
 | [],_=>rfl
 |r::R,H=>by rw[List.any_cons,List.any_cons,H r (zzF ..),Sj λx a=>H x (zzD _ a)]
theorem Ly{e e':ι->ι->Bool}{P:ι->Prop}(H:∀r i,P r->P i->e r i=e' r i):∀(is R:List ι),(∀i ∈ is,P i)->(∀r ∈ R,P r)->LO e R is=LO e' R is
 | [],_,_,_=>rfl
 |i::b,R,f,c=>by
  have g:=f i (zzF ..);have a:∀j ∈ b,P j:=λj h=>f j (zzD _ h);unfold LO;rw[Sj λr d=>H r i (c r d) g,Ly H b R a c,Ly H b (R++[i]) a λr d=>(zzM.mp d).elim (c r) λz=>zzR.mp z ▸ g]
theorem EH{e e':ι->ι->Bool}{i:ι}:∀{R:List ι},(∀r ∈ R,e r i=e' r i)->Bo e R i=Bo e' R i
 | [],_=>rfl
 |r::R,H=>by
  unfold Bo;rw[H r (zzF ..),EH λx a=>H x (zzD _ a)]
def HQ{is:List ι}(H:∀i ∈ is,∀j ∈ is,g i=g j ↔ h i=h j){i:ι}(hi:i ∈ is):pos (vX [] (is.map g)) (g i)=pos (vX [] (is.map h)) (h i):=by
 have b:=UX (g:=g) is [];have c:=UX (g:=h) is [];rw[List.map_nil]at b c;have d:∀r i,r ∈ is->i ∈ is->decide (g r=g i)=decide (h r=h i):=λr i a e=>decide_eq_decide.mpr (H r a i e);rw[b,c,Lq,Lq,Ly d is [] (λ_ m=>m) (λ_ m=>nomatch m)];exact EH λr a=>d r i ((Ky is [] a).elim (λz=>nomatch z) id) hi
end
def YS(S:SS)(v:Int):List Bool:=S.map λp=>decide (v ∈ p.2)
theorem Ox(v:Int):∀xs:List Int,Dh (.int v) (zc xs)=some (decide (v ∈ xs))
 | []=>rfl
 |x::a=>by
  have d:anyF (λy=>xk 50 y (.int v)) (a.map D.int)=some (decide (v ∈ a)):=Ox v a;show(some (x==v)).bind (λb=>(anyF (λy=>xk 50 y (.int v)) (a.map D.int)).bind λc=>some (b||c))=_;rw[d];show some ((x==v)||decide (v ∈ a))=_
  by_cases h:x=v
  . subst h;simp
  . have e:¬v=x:=λz=>h z.symm;simp[h,e]
def Gz{a b:EF}{as:AS}{v:Int}{xs:List Int}(ha:WD a as true (.int v))(hb:WD b as true (zc xs)):WD (f2 a b (zy .In)) as true (.bl (decide (v ∈ xs))):=
 zi ha hb (by show(Dh (.int v) (zc xs)).bind _=_;rw[Ox];rfl) rfl
def Zc{n:Nat}{g:Int->Int}{v:Int}(hv:zC n v):zw ((zx n).map g) v=g v:=by
 unfold zw;have a:=hv.1;have b:=hv.2;rw[zzI,zzI,List.getElem?_range (show v.toNat<n by omega)];show g ((v.toNat:Nat):Int)=g v;rw[show((v.toNat:Nat):Int)=v by omega]
section
variable{n m:Nat}{J:TZ}{e:Int}{Ds:DZ}{S:SS}{v:Int}{Rs:TZ}
def LZ(sl:S.length<=10):RE (WL [(true,zo n m J e Ds S),(true,.int v)]) (.tup ((YS S v).map D.bl)):=by
 have w:=yy (as:=[sT (zo n m J e Ds S),sI v]) (cap:=[none,none,some 1]) (gg:=gT 2 (ye zG (ye (gN 1) xD))) (fi:=yw (f2 zh Z7 zk)) S (xM (WD.e (zZ (za rfl) zb rfl))) (by omega) λp a=>⟨_,rfl,WD.e (Gz (za (i:=2) rfl) (za (i:=1) rfl))⟩;refine ym rfl (yi (E5 w ?_));show some (R0.im (.tup (S.map λp=>D.bl (decide (v ∈ p.2)))))=some (R0.im (.tup ((S.map λp=>decide (v ∈ p.2)).map D.bl)));rw[zyB];rfl
abbrev Ee(S:SS)(Rs:TZ)(k:Nat)(u v:Int):Prop:=PP.Ek (YS S) zw (λr=>r ∈ Rs) k u v
structure Nb(n:Nat)(S:SS)(Rs:TZ)(k:Nat)(r:List Int):Prop where
 ln:r.length=n
 eq:∀u v,zC n u->zC n v->(zw r u=zw r v ↔ Ee S Rs k u v)
 cn:∀{β:Type}[DecidableEq β] (h:Int->β),(∀i ∈ zx n,∀j ∈ zx n,h i=h j ↔ Ee S Rs k i j)->r=(zx n).map λa=>((pos (vX [] ((zx n).map h)) (h a):Nat):Int)
def Nb.mk'{k:Nat}{α:Type}[DecidableEq α]{g:Int->α}(H:∀i ∈ zx n,∀j ∈ zx n,g i=g j ↔ Ee S Rs k i j):Nb n S Rs k ((zx n).map λa=>((pos (vX [] ((zx n).map g)) (g a):Nat):Int)):=by
 refine⟨by simp,λu v b c=>?_,λ{β} _ h f=>?_⟩
 . rw[Zc b,Zc c];rw[<-H u (x8 b) v (x8 c)];exact⟨λz=>Fx (Pq _ _ (List.mem_map_of_mem (x8 b))) (Pq _ _ (List.mem_map_of_mem (x8 c))) (Int.ofNat_inj.mp z),λz=>by rw[z]⟩
 . refine List.map_congr_left λa l=>?_;rw[HQ (λi d j e=>(H i d j e).trans (f i d j e).symm) l]
def Nb.same{k:Nat}{r r':List Int}(h:Nb n S Rs k r)(h':Nb n S Rs (k+1) r')(s:PP.St (YS S) zw (λr=>r ∈ Rs) n k):r'=r:=by
 have f:=λi c j d=>h.eq i j (zQ c) (zQ d);have e:∀i ∈ zx n,∀j ∈ zx n,zw r i=zw r j ↔ Ee S Rs (k+1) i j:=λi c j d=>(f i c j d).trans ⟨λz=>by
  have a:=zQ c;have b:=zQ d;have:=s i.toNat j.toNat (by have:=a.1;have:=a.2;omega) (by have:=b.1;have:=b.2;omega);rw[show((i.toNat:Nat):Int)=i by have:=a.1;omega,show((j.toNat:Nat):Int)=j by have:=b.1;omega]at this;exact this z,λz=>z.mono (zyX _)⟩
 exact(h'.cn _ e).trans (h.cn _ f).symm
def Nb.st{k:Nat}{r:List Int}(h:Nb n S Rs k r)(h':Nb n S Rs (k+1) r):PP.St (YS S) zw (λr=>r ∈ Rs) n k:=λu v a b z=>(h'.eq u v ⟨by omega,by omega⟩ ⟨by omega,by omega⟩).mp ((h.eq u v ⟨by omega,by omega⟩ ⟨by omega,by omega⟩).mpr z)
abbrev key(Rs:TZ)(r:List Int)(v:Int):List Int:=Rs.map λq=>zw r (zw q v)
def AX{k:Nat}{r:List Int}(hR:∀q ∈ Rs,Row n q)(h:Nb n S Rs k r):∀i ∈ zx n,∀j ∈ zx n,key (zx n::Rs) r i=key (zx n::Rs) r j ↔ Ee S Rs (k+1) i j:=λi m j o=>by
 have c:=zQ m;have d:=zQ o;have f:∀{x:Int},zC n x->zw (zx n) x=x:=λ{x} p=>by
  have:=Zc (g:=λa=>a) p
  rwa [List.map_id']at this
 unfold Ee;rw[PP.Ek.succ];constructor
 . intro z;obtain⟨e,l⟩:=List.cons.inj z;have e:zw r (zw (zx n) i)=zw r (zw (zx n) j):=e;rw[f c,f d]at e;refine⟨(h.eq i j c d).mp e,λq b=>?_⟩;exact(h.eq _ _ (rowAt (hR q b) c).2 (rowAt (hR q b) d).2).mp (List.map_inj_left.mp l q b)
 . intro⟨e,l⟩;show zw r (zw (zx n) i)::_=zw r (zw (zx n) j)::_;rw[f c,f d,(h.eq i j c d).mpr e];exact congrArg _ (List.map_congr_left λq b=>(h.eq _ _ (rowAt (hR q b) c).2 (rowAt (hR q b) d).2).mpr (l q b))
end
abbrev bK(l:List Bool):D:=.tup (l.map D.bl)
abbrev iK(l:List Int):D:=.tup (l.map D.int)
abbrev kB(l:List Bool):List Key:=l.map λb=>.inl (if b=true then 1 else 0)
abbrev kI(l:List Int):List Key:=l.map Sum.inl
theorem Sn:∀a b:List Bool,kB a=kB b->a=b
 | [],[],_=>rfl
 | [],_::_,h=>by simp at h
 |_::_,[],h=>by simp at h
 |x::a,y::b,h=>by
  obtain⟨c,d⟩:=List.cons.inj (show Sum.inl _::kB a=Sum.inl _::kB b from h);have c:=Sum.inl.inj c;rw[Sn a b d];cases x<;>cases y<;>first|rfl|simp at c
theorem B6:∀a b:List Int,kI a=kI b->a=b
 | [],[],_=>rfl
 | [],_::_,h=>by simp at h
 |_::_,[],h=>by simp at h
 |x::a,y::b,h=>by
  obtain⟨c,d⟩:=List.cons.inj (show Sum.inl x::kI a=Sum.inl y::kI b from h);rw[B6 a b d,Sum.inl.inj c]
theorem Sw:∀l:List Bool,Xk (bK l)=some (kB l)
 | []=>rfl
 |b::l=>by
  have a:Uv (l.map D.bl)=some (kB l):=Sw l;show(Uv (l.map D.bl)).bind _=_;rw[a];rfl
theorem HX:∀l:List Int,Xk (iK l)=some (kI l)
 | []=>rfl
 |b::l=>by
  have a:Uv (l.map D.int)=some (kI l):=HX l;show(Uv (l.map D.int)).bind _=_;rw[a];rfl
def xa{n:Nat}{r:List Int}{v:Int}(hr:r.length=n)(hv:zC n v):zk (zc r) (.int v)=some (.im (.int (zw r v))):=by
 have a:v.toNat<r.length:=by rw[hr];have:=hv.1;have:=hv.2;omega
 have g:=zzE a;have e:zw r v=r[v.toNat]:=by unfold zw;rw[g];rfl
 rw[e];have:=vZ (v:=D.int r[v.toNat]) (by rw[zzI,g];rfl);rw[show((v.toNat:Nat):Int)=v by have:=hv.1;omega]at this;show BZ (La _ _)=_;rw[this];rfl
section
variable{n m:Nat}{J:TZ}{e:Int}{Ds:DZ}{S:SS}{Rs:TZ}
abbrev C5(A:D)(n:Nat)(Rs:TZ)(e3 e4:Option O):AS:=[sT A,sT (zc (zx n)),sT (zv (zx n::Rs)),e3,e4]
abbrev pA:EF:=zp (aC (zq (yw zj) [none,some 3,some 2] zG zH (fP (aC (zq (yw zu) [none,some 1,some 0] zG zH (f2 zj (f2 zh zu zk) zk)) aN) tupP)) aN) wM
def Hq{A:D}{k:Nat}{r:List Int}{e4:Option O}(n8:n<=8)(hl:Rs.length<=60)(hR:∀q ∈ Rs,Row n q)(h:Nb n S Rs k r):∃r',Nb n S Rs (k+1) r'/\WE pA (C5 A n Rs (sT (zc r)) e4) (zc r'):=by
 refine⟨_,Nb.mk' (AX hR h), ?_⟩;have w:=yy (as:=C5 A n Rs (sT (zc r)) e4) (h:=λa=>iK (key (zx n::Rs) r a)) (cap:=[none,some 3,some 2]) (gg:=gN 0) (zx n) (xM (WD.e (za (i:=1) rfl))) (by rw[zzB,zyU];omega) λa d=>by
  have b:=zQ d;have f:=yy (as:=[sI a,sT (zc r),sT (zv (zx n::Rs))]) (cap:=[none,some 1,some 0]) (gg:=gN 0) (zx n::Rs) (xM (WD.e (za (i:=2) rfl))) (by rw[zzT];omega) λq mq=>by
   have c:Row n q:=by
    rcases zzC.mp mq with rfl|mq
    . exact⟨by rw[zzB,zyU],λx j=>zQ j⟩
    . exact hR q mq
   exact⟨_,rfl,WD.e (zi (za (i:=1) rfl) (zi (za (i:=0) rfl) (za (i:=2) rfl) (rowAt c b).1 rfl) (xa h.ln (rowAt c b).2) rfl)⟩
  refine⟨_,rfl, ?_⟩;have:=E5 (g:=tupP) f rfl;rw[show iK (key (zx n::Rs) r a) = .tup ((zx n::Rs).map λq=>D.int (zw r (zw q a))) by show D.tup (((zx n::Rs).map λq=>zw r (zw q a)).map D.int)=_;rw[zyB];rfl];exact this
 rw[show((zx n).map λa=>iK (key (zx n::Rs) r a))=((zx n).map (key (zx n::Rs) r)).map iK from(zyB (g:=iK)).symm]at w;have nm:=Ug (λ_=>rfl) B6 HX true ((zx n).map (key (zx n::Rs) r)) (by simp only[zzB,zyU];omega);rw[zyB (g:=λa=>((pos (vX [] ((zx n).map (key (zx n::Rs) r))) a:Nat):Int))]at nm;exact xp w nm
end
theorem G8:∀a b:List Int,xk 60 (zc a) (zc b)=some (decide (a=b))
 | [],[]=>rfl
 | [],_::_=>rfl
 |_::_,[]=>rfl
 |x::a,y::b=>by
  have e:GU (xk 59) (a.map D.int) (b.map D.int)=some (decide (a=b)):=G8 a b;show(some (x==y)).bind (λc=>(GU (xk 59) (a.map D.int) (b.map D.int)).bind λd=>some (c&&d))=_;rw[e];show some ((x==y)&&decide (a=b))=_
  by_cases f:x=y<;>by_cases g:a=b<;>simp[f,g]
section
variable{n m:Nat}{J:TZ}{e:Int}{Ds:DZ}{S:SS}{Rs:TZ}
abbrev pR:TF:=fT (f2 zP zD (zy .NotEq))
abbrev p_:SF:=(zm (zz true 3 zP) (zz true 4 pA))
def uE{A:D}(n8:n<=8)(hl:Rs.length<=60)(hR:∀q ∈ Rs,Row n q){k0:Nat}(s0:PP.St (YS S) zw (λr=>r ∈ Rs) n k0):∀(d k f:Nat) (r r':List Int),k+d=k0->d<f->Nb n S Rs k r->Nb n S Rs (k+1) r'->∃k1 r1 e4,Mn pR p_ f (C5 A n Rs (sT (zc r)) (sT (zc r')))=some (.nx (C5 A n Rs (sT (zc r1)) e4))/\Nb n S Rs k1 r1/\PP.St (YS S) zw (λr=>r ∈ Rs) n k1:=by
 intro d
 induction d with
 |zero=>
  intro k f r a c l h b;have c:=c;subst c;have e:=h.same b s0;subst e;obtain⟨f,rfl⟩:∃g,f=g+1:=⟨f-1,by omega⟩;have t:WT pR (C5 A n Rs (sT (zc a)) (sT (zc a))) false:=zF (Wg (za rfl) (za rfl) (by rw[G8,zyO rfl])) rfl;exact⟨k,a,_,K1 t,h,s0⟩
 |succ d m=>
  intro k f r a c l h b;obtain⟨f,rfl⟩:∃g,f=g+1:=⟨f-1,by omega⟩;have j:=Wg (as:=C5 A n Rs (sT (zc r)) (sT (zc a))) (za (i:=4) rfl) (za (i:=3) rfl) (G8 a r)
  by_cases q:a=r
  . subst q;rw[zyO rfl]at j;exact⟨k,a,_,K1 (zF j rfl),h,h.st b⟩
  . rw[zyG q]at j;obtain⟨o,p,s⟩:=Hq n8 hl hR b;obtain⟨u,v,w,x,y,z⟩:=m (k+1) f a o (by omega) (by omega) b p;exact⟨u,v,w,Ke (zF j rfl) (zV (yj (za rfl) (zl rfl)) (yU s (zl rfl))) x,y,z⟩
def S4(A:Alg n m J e Ds)(hS:Sg n S):∃(Rs:TZ) (k:Nat) (r:List Int),(∀q ∈ Rs,Row n q)/\(∀q ∈ Rs,Fm n m J Ds q)/\(∀x,zC n x->tR J x ∈ Rs/\col J x ∈ Rs)/\(∀p ∈ Ds,∀c,zC m c->tR p.2 c ∈ Rs)/\Nb n S Rs k r/\PP.St (YS S) zw (λr=>r ∈ Rs) n k/\RE (xT [(true,zo n m J e Ds S)]) (zc r):=by
 have E:=A.n1;have t:=A.n8;obtain⟨b,u,w,y,F,h⟩:=Vf A;have l:∀q ∈ b.map (·.2),Row n q:=λq mq=>by
  obtain⟨p,d,rfl⟩:=zxE.mp mq;exact(w p d).1
 have o:∀q ∈ b.map (·.2),Fm n m J Ds q:=λq mq=>by
  obtain⟨p,d,rfl⟩:=zxE.mp mq;exact(w p d).2
 obtain⟨G,H,s⟩:=PP.stable E;have I:WE (fP (aC (f2 zh zX zk) aN) Bw) [sT (zo n m J e Ds S),none,none,none,none] (zc (zx n)):=⟨_,QH (WD.e (zZ (za rfl) zb rfl)) (by
  show(if(0:Int)<=n/\(n:Int)<=100000 then _ else _)=_;rw[if_pos ⟨by omega,by omega⟩,zyB];rfl),RT _,congrArg D.lst (QY _)⟩
 have K:=yU (p:=1) I (zl rfl);have L:=yy (as:=[sT (zo n m J e Ds S),sT (zc (zx n)),none,none,none]) (cap:=[none,none]) (gg:=gT 2 (ye zG (ye (gN 1) xD))) b (xM (xp (WD.e (za (i:=0) rfl)) h)) (by omega) λq _=>⟨_,by
  have k:kids true [q.1,zc q.2]=[(true,q.1),(true,zc q.2)]:=by
   show[(zN q.1||true,q.1),(zN (zc q.2)||true,zc q.2)]=_;rw[zyD,zyD]
  unfold gT;simp only[Gf,k];rfl,WD.e (za (i:=1) rfl)⟩
 have z:=yU (p:=2) (IR (xu (x:=.lst [zc (zx n)]) (ze (za (i:=1) rfl) zJ) (wC rfl) rfl rfl) L (add_lists (LV (by rw[zzB];show 1+_<=_;omega)))) (zl rfl);rw[show[zc (zx n)]++b.map (λq:D×List Int=>zc q.2)=(zx n::b.map (·.2)).map zc by rw[zyS,zyB];rfl]at z;have B:=yy (as:=C5 (zo n m J e Ds S) n (b.map (·.2)) none none) (cap:=[none,some 0]) (gg:=gN 0) (zx n) (xM (WD.e (za (i:=1) rfl))) (by rw[zzB,zyU];omega) λv _=>⟨_,rfl,vU (WD.e (za (i:=1) rfl)) (WD.e (za (i:=0) rfl)) (LZ hS.1)⟩;rw[show((zx n).map λv=>bK (YS S v))=((zx n).map (YS S)).map bK from(zyB (g:=bK)).symm]at B;have nm:=Ug (λ_=>rfl) Sn Sw true ((zx n).map (YS S)) (by simp only[zzB,zyU];omega);rw[zyB (g:=λa=>((pos (vX [] ((zx n).map (YS S))) a:Nat):Int))]at nm;have C:Nb n S (b.map (·.2)) 0 ((zx n).map λa=>((pos (vX [] ((zx n).map (YS S))) (YS S a):Nat):Int)):=Nb.mk' λi _ j _=>(PP.Ek.zero).symm;have M:=yU (p:=3) (xp B nm) (zl rfl);obtain⟨N,O,P⟩:=Hq t (by rw[zzB];exact u) l C;have Q:=yU (p:=4) P (zl rfl);obtain⟨R,r,X,T,U,V⟩:=uE t (by rw[zzB];exact u) l s G 0 10000 _ N (zyY _) (by omega) C O;refine⟨b.map (·.2),R,r,l,o,λx f=>⟨zxE.mpr ⟨_,(y x f).1,rfl⟩,zxE.mpr ⟨_,(y x f).2,rfl⟩⟩,λp d c W=>zxE.mpr ⟨_,F p d c W,rfl⟩,U,V,ym rfl (zd K (zd z (zd M (zd Q (zd T (yi (WD.e (za rfl))))))))⟩
end
section
variable{α:Type}[DecidableEq α]
theorem Ln:∀(l K:List α),K.Nodup->(vX K l).Nodup
 | [],_,h=>h
 |a::l,K,h=>by
  unfold vX
  by_cases e:a ∈ K
  . rw[if_pos e];exact Ln l K h
  . rw[if_neg e];exact Ln l _ (zxF.mpr ⟨h,by simp,λx b y c=>by rw[zzR.mp c];exact λz=>e (z ▸ b)⟩)
theorem LG{b:α}:∀(l K:List α),b ∈ vX K l->b ∈ K\/b ∈ l
 | [],_,h=>.inl h
 |a::l,K,h=>by
  unfold vX at h
  split at h
  . exact(LG l K h).imp id λz=>zzD _ z
  . rcases LG l _ h with z|z
    . rcases zzM.mp z with z|z
      . exact .inl z
      . rw[zzR.mp z];exact .inr (zzF ..)
    . exact .inr (zzD _ z)
theorem Of{a:α}:∀{K:List α},a ∈ K->pos K a<K.length
 | [],h=>nomatch h
 |x::K,h=>by
  unfold pos
  by_cases e:x=a
  . rw[if_pos e];exact Nat.succ_pos _
  . rw[if_neg e];exact Nat.succ_lt_succ (Of ((zzC.mp h).resolve_left λz=>e z.symm))
theorem MJ:∀{K:List α}{k:Nat}{a:α},K.Nodup->K[k]? = some a->pos K a=k
 | [],_,_,_,h=>by simp at h
 |x::K,0,a,_,h=>by
  have:x=a:=zzZ h;unfold pos;rw[if_pos this]
 |x::K,k+1,a,nd,h=>by
  have b:=h;have:x≠a:=λz=>(zzW.mp nd).1 (z ▸ zyA b);unfold pos;rw[if_neg this,MJ (zzW.mp nd).2 b]
end
section
variable{n:Nat}{S:SS}{Rs:TZ}{k:Nat}{r:List Int}
def Nb.cnt(h:Nb n S Rs k r):∃c:Nat,c<=n/\(∀v,zC n v->zC c (zw r v))/\∀x,zC c x->∃v,zC n v/\zw r v=x:=by
 have e:=h.cn (zw r) λi m j o=>h.eq i j (zQ m) (zQ o);have a:∀v,zC n v->zw r v=((pos (vX [] ((zx n).map (zw r))) (zw r v):Nat):Int):=λv b=>by
  conv=>lhs;rw[e]
  rw[Zc b]
 refine⟨(vX [] ((zx n).map (zw r))).length, ?_,λv b=>?_,λx d=>?_⟩
 . have:=Kw ((zx n).map (zw r)) [];rw[zzB,zzB,zyU]at this;simpa using this
 . have:=Of (Pq ((zx n).map (zw r)) [] (List.mem_map_of_mem (x8 b)));rw[a v b];exact⟨by omega,by omega⟩
 . have s:=d.1;have t:=d.2;have g:=zzE (l:=vX [] ((zx n).map (zw r))) (i:=x.toNat) (by omega);have p:=MJ (Ln ((zx n).map (zw r)) [] zyJ) g
   rcases LG _ _ (zyA g)with z|z
   . exact nomatch z
   . obtain⟨v,f,q⟩:=zxE.mp z;refine⟨v,zQ f, ?_⟩;rw[a v (zQ f),q,p];omega
def Nb.row(h:Nb n S Rs k r)(s:PP.St (YS S) zw (λr=>r ∈ Rs) n k)(hR:∀q ∈ Rs,Row n q){q:List Int}(hq:q ∈ Rs){u v:Int}(hu:zC n u)(hv:zC n v)(e:zw r u=zw r v):zw r (zw q u)=zw r (zw q v):=by
 have z:=(h.eq u v hu hv).mp e;have a:Ee S Rs (k+1) u v:=by
  have:=s u.toNat v.toNat (by have:=hu.1;have:=hu.2;omega) (by have:=hv.1;have:=hv.2;omega);rw[show((u.toNat:Nat):Int)=u by have:=hu.1;omega,show((v.toNat:Nat):Int)=v by have:=hv.1;omega]at this;exact this z
 exact(h.eq _ _ (rowAt (hR q hq) hu).2 (rowAt (hR q hq) hv).2).mpr ((PP.Ek.succ.mp a).2 q hq)
def Nb.sgn(h:Nb n S Rs k r){u v:Int}(hu:zC n u)(hv:zC n v)(e:zw r u=zw r v):YS S u=YS S v:=PP.Ek.zero.mp (((h.eq u v hu hv).mp e).mono (Nat.zero_le _))
end
theorem LY:∀(l K:List Int),l.foldl step_dedup K=vX K l
 | [],_=>rfl
 |a::l,K=>by
  show l.foldl step_dedup (step_dedup K a)=vX K (a::l);unfold vX;rw[LY l];unfold step_dedup;have e:(K.any (· == a))=decide (a ∈ K):=by
   by_cases h:a ∈ K
   . rw[zyO h,List.any_eq_true];exact⟨a,h,by simp⟩
   . rw[zyG h,List.any_eq_false];exact λx b z=>h (by rw[<-eq_of_beq z];exact b)
  rw[e]
  by_cases h:a ∈ K
  . rw[zyO h,if_pos rfl,if_pos h]
  . rw[zyG h,if_neg (by decide),if_neg h]
def Dt{r:List Int}{c:Nat}(h1:∀x ∈ r,zC c x)(h2:∀x,zC c x->x ∈ r):Q0 r=c:=by
 unfold Q0;rw[LY];have nd:=Ln r [] zyJ;have e:=λx d=>x8 (h1 x ((LG r [] d).elim (λz=>nomatch z) id));have f:=λx d=>Pq r [] (h2 x (zQ d));have g:(zx c).Nodup:=List.Pairwise.map _ (λa b h z=>h (Int.ofNat_inj.mp z)) List.nodup_range;have i:=nd.length_le_of_subset e;have j:=g.length_le_of_subset f;rw[zzB,zyU]at i j;omega
noncomputable def xW(r:List Int)(b:Int):Int:=(((VY (λy=>xk 50 y (.int b)) (r.map D.int)).getD 0:Nat):Int)
def Y4{n:Nat}{r:List Int}{b:Int}(hl:r.length=n)(hb:b ∈ r):zC n (xW r b)/\zw r (xW r b)=b/\VY (λy=>xk 50 y (.int b)) (r.map D.int)=some (xW r b).toNat:=by
 obtain⟨j,d,c,a⟩:=PB hb;have e:xW r b=(j:Int):=by unfold xW;rw[a];rfl
 rw[e,zyI];refine⟨⟨by omega,by omega⟩, ?_,a⟩;unfold zw;rw[zyI,c];rfl
section
variable{n:Nat}{S:SS}{Rs:TZ}{k c:Nat}{r:List Int}
def Br{as:AS}(n8:n<=8)(hl:r.length=n)(h1:∀v,zC n v->zC c (zw r v))(h2:∀x,zC c x->∃v,zC n v/\zw r v=x)(cn:c<=n)(hs:as[1]? = some (sT (zc r)))(hc:wk [none,some 1] as=[none,sT (zc r)]):
 WE (zq (ya (aC (fP yS sX) aN) yb) [none,some 1] zG zH (wm .lst zj xr x6)) as (zc ((zx c).map (xW r)))/\∀x,zC c x->zC n (xW r x)/\zw r (xW r x)=x:=by
 have a:∀x,zC c x->x ∈ r:=λx d=>by
  obtain⟨v,j,e⟩:=h2 x d;have f:v.toNat<r.length:=by have:=j.1;have:=j.2;omega
  have:zw r v=r[v.toNat]:=by unfold zw;rw[zzE f];rfl
  rw[<-e,this];exact zxA f
 have b:∀x ∈ r,zC c x:=λx g=>by
  obtain⟨i,k⟩:=List.mem_iff_getElem?.mp g;have f:=(zzG.mp k).1;have:=h1 (i:Int) ⟨by omega,by omega⟩;unfold zw at this;rw[zyI,k]at this;exact this
 have dc:=Dt b a;have ls:WD (fP yS sX) as true (.int (c:Nat)):=by
  refine xh (zg (za hs) zt) ?_ rfl;show((wL (r.map D.int)).bind λl=>if l.length<=1000 then some (R0.im (.int (Q0 l)))else none)=_;have:wL (r.map D.int)=some r:=by
   clear dc b a h1 h2 hl hs hc
   induction r with
   |nil=>rfl
   |cons x r m=>show(wL (r.map D.int)).bind _=_;rw[m];rfl
  rw[this];show(if r.length<=1000 then _ else _)=_;rw[if_pos (by omega),dc]
 have w:=yy (h:=λx=>D.int (xW r x)) (gg:=gN 0) (fe:=wm .lst zj xr x6) (zx c) (vb (zg ls zt) (by omega)) (by rw[zzB,zyU];omega) λx g=>by
  rw[hc];obtain⟨o,q,p⟩:=Y4 hl (a x (zQ g));refine⟨_,rfl,WD.e (Vi (za rfl) rfl (zg (za rfl) zt) ?_ rfl)⟩;show(VY _ (r.map D.int)).bind _=_;rw[p];show(if(r.map D.int).length<=1000 then some (R0.im (.int ((xW r x).toNat:Nat)))else none)=_;rw[if_pos (by rw[zzB];omega),show(((xW r x).toNat:Nat):Int)=xW r x by have:=o.1;omega]
 rw[show((zx c).map λx=>D.int (xW r x))=((zx c).map (xW r)).map D.int from(zyB).symm]at w;exact⟨w,λx d=>⟨(Y4 hl (a x d)).1,(Y4 hl (a x d)).2.1⟩⟩
end
section
variable{n m c:Nat}{J:TZ}{e:Int}{Ds:DZ}{S:SS}{r:List Int}
abbrev cH(r:List Int)(c:Nat):List Int:=(zx c).map (xW r)
abbrev lJ(J:TZ)(r:List Int)(c:Nat):TZ:=(cH r c).map λa=>(cH r c).map λb=>zw r (yt J a b)
abbrev lD(Ds:DZ)(r:List Int)(c:Nat):DZ:=Ds.map λp=>(p.1,p.2.map λq=>(cH r c).map λa=>zw r (zw q a))
abbrev lS(S:SS)(r:List Int)(c:Nat):SS:=S.map λp=>(p.1,((cH r c).filter λa=>decide (a ∈ p.2)).map (zw r))
def BQ(A:Alg n m J e Ds)(L:LawA n m J e Ds)(hS:Sg n S)(hn:RE (xT [(true,zo n m J e Ds S)]) (zc r))(hl:r.length=n)(h1:∀v,zC n v->zC c (zw r v))(h2:∀x,zC c x->∃v,zC n v/\zw r v=x)(cn:c<=n):RE (yr [(true,zo n m J e Ds S)]) (.tup [zo c m (lJ J r c) (zw r e) (lD Ds r c) (lS S r c),zc r]):=by
 have t:=A.n8;have P:=A.m6;have Q:=A.dl;have u:yB (zp xr xb) [sT (zo n m J e Ds S),none,none,none,none,none]=some (.nx [sT (zo n m J e Ds S),none,none,none,none,none]):=by
  have:zp xr xb [sT (zo n m J e Ds S),none,none,none,none,none]=some (.ow (.lf true .non),[sT (zo n m J e Ds S),none,none,none,none,none]):=Zq (zg (za rfl) zt) (SR A L);unfold yB;rw[this];rfl
 have y:=yU (p:=1) (as:=[sT (zo n m J e Ds S),none,none,none,none,none]) (xp (WD.e (za (i:=0) rfl)) hn) (zl rfl);obtain⟨z,B⟩:=Br (as:=[sT (zo n m J e Ds S),sT (zc r),none,none,none,none]) t hl h1 h2 cn rfl rfl;have C:=yU (p:=2) z (zl rfl);have cl:(cH r c).length=c:=by rw[zzB,zzB,zyU]
 have f:∀a ∈ cH r c,zC n a:=λa d=>by
  obtain⟨x,E,rfl⟩:=zxE.mp d;exact(B x (zQ E)).1
 have F:zC n e:=⟨A.e0,A.en⟩;have G:WE (zq (yw zu) [none,some 1,some 2,some 0] zG zH (zq (yw zu) [none,some 1,some 0,some 3] zG zH (f2 zj (f2 (f2 (f2 zD yk zk) zu zk) zh zk) zk))) [sT (zo n m J e Ds S),sT (zc r),sT (zc (cH r c)),none,none,none] (zv (lJ J r c)):=by
  have w:=yy (as:=[sT (zo n m J e Ds S),sT (zc r),sT (zc (cH r c)),none,none,none]) (cap:=[none,some 1,some 2,some 0]) (gg:=gN 0) (cH r c) (xM (WD.e (za (i:=2) rfl))) (by rw[cl];omega) λa d=>by
   have h:=yy (as:=[sI a,sT (zc r),sT (zc (cH r c)),sT (zo n m J e Ds S)]) (cap:=[none,some 1,some 0,some 3]) (gg:=gN 0) (fe:=f2 zj (f2 (f2 (f2 zD yk zk) zu zk) zh zk) zk) (cH r c) (xM (WD.e (za (i:=2) rfl))) (by rw[cl];omega) λb o=>
    ⟨_,rfl,WD.e (zi (za rfl) (x_ A.j (f a d) (f b o) (zZ (za rfl) zb rfl) (za rfl) (za rfl)) (xa hl (wB A.j (f a d) (f b o))) rfl)⟩
   rw[show((cH r c).map λb=>D.int (zw r (yt J a b)))=((cH r c).map λb=>zw r (yt J a b)).map D.int from(zyB).symm]at h;exact⟨_,rfl,h⟩
  rw[show((cH r c).map λa=>zc ((cH r c).map λb=>zw r (yt J a b)))=(lJ J r c).map zc from(zyB (g:=zc)).symm]at w;exact w
 have H:=yU (p:=3) G (zl rfl);have I:WE (zq (yw (f2 zh xo zk)) [none,none,some 1,some 2] (gT 2 (ye zG (ye (gN 1) xD))) zH (zY (dC zh (dC (zq (yw zj) [none,some 2,some 3] zG zH (zq (yw zu) [none,some 1,some 0] zG zH (f2 zj (f2 zu zh zk) zk))) dN)))) [sT (zo n m J e Ds S),sT (zc r),sT (zc (cH r c)),sT (zv (lJ J r c)),none,none] (.lst ((lD Ds r c).map yh)):=by
  have w:=yy (as:=[sT (zo n m J e Ds S),sT (zc r),sT (zc (cH r c)),sT (zv (lJ J r c)),none,none]) (cap:=[none,none,some 1,some 2]) (gg:=gT 2 (ye zG (ye (gN 1) xD))) (fi:=yw (f2 zh xo zk)) Ds (xM (WD.e (zZ (za rfl) zb rfl))) (by omega) λp s=>by
   have l:=A.ds p s;have h:=yy (as:=[sT (.str p.1),sT (zv p.2),sT (zc r),sT (zc (cH r c))]) (cap:=[none,some 2,some 3]) (gg:=gN 0) p.2 (xM (WD.e (za (i:=1) rfl))) (by rw[l.1];omega) λq mq=>by
    have k:=yy (as:=[sT (zc q),sT (zc r),sT (zc (cH r c))]) (cap:=[none,some 1,some 0]) (gg:=gN 0) (cH r c) (xM (WD.e (za (i:=2) rfl))) (by rw[cl];omega) λa d=>
     ⟨_,rfl,WD.e (zi (za (i:=1) rfl) (zi (za (i:=2) rfl) (za (i:=0) rfl) (rowAt (l.2 q mq) (f a d)).1 rfl) (xa hl (rowAt (l.2 q mq) (f a d)).2) rfl)⟩
    rw[show((cH r c).map λa=>D.int (zw r (zw q a)))=((cH r c).map λa=>zw r (zw q a)).map D.int from(zyB).symm]at k;exact⟨_,rfl,k⟩
   rw[show(p.2.map λq=>zc ((cH r c).map λa=>zw r (zw q a)))=(p.2.map λq=>(cH r c).map λa=>zw r (zw q a)).map zc from(zyB (g:=zc)).symm]at h;exact⟨_,rfl,xJ (WD.e (za (i:=0) rfl)) h⟩
  rw[show(Ds.map λp=>yh (p.1,p.2.map λq=>(cH r c).map λa=>zw r (zw q a)))=(lD Ds r c).map yh from(zyB (g:=yh)).symm]at w;exact w
 have K:=yU (p:=4) I (zl rfl);have M:WE (zq (yw (f2 zh Z7 zk)) [none,none,some 1,some 2] (gT 2 (ye zG (ye (gN 1) xD))) zH (zY (dC zh (dC (zq (yw zD) [none,some 2,some 1] zG (fT (f2 zh zu (zy .In))) (f2 zj zh zk)) dN)))) [sT (zo n m J e Ds S),sT (zc r),sT (zc (cH r c)),sT (zv (lJ J r c)),sT (.lst ((lD Ds r c).map yh)),none] (.lst ((lS S r c).map yx)):=by
  have w:=yy (as:=[sT (zo n m J e Ds S),sT (zc r),sT (zc (cH r c)),sT (zv (lJ J r c)),sT (.lst ((lD Ds r c).map yh)),none]) (cap:=[none,none,some 1,some 2]) (gg:=gT 2 (ye zG (ye (gN 1) xD))) (fi:=yw (f2 zh Z7 zk)) S (xM (WD.e (zZ (za rfl) zb rfl))) (by have:=hS.1;omega) λp s=>by
   have k:=Ac (as:=[sT (.str p.1),sT (zc p.2),sT (zc r),sT (zc (cH r c))]) (cap:=[none,some 2,some 1]) (gg:=gN 0) (cH r c) (xM (WD.e (za (i:=3) rfl))) (by rw[cl];omega) λa d=>
    ⟨_,rfl,zF (Gz (za (i:=0) rfl) (za (i:=2) rfl)) rfl,λ_=>WD.e (zi (za (i:=1) rfl) (za (i:=0) rfl) (xa hl (f a d)) rfl)⟩
   rw[show(((cH r c).filter λa=>decide (a ∈ p.2)).map λa=>D.int (zw r a))=(((cH r c).filter λa=>decide (a ∈ p.2)).map (zw r)).map D.int from(zyB).symm]at k;exact⟨_,rfl,xJ (WD.e (za (i:=0) rfl)) k⟩
  rw[show(S.map λp=>yx (p.1,((cH r c).filter λa=>decide (a ∈ p.2)).map (zw r)))=(lS S r c).map yx from(zyB (g:=yx)).symm]at w;exact w
 have N:=yU (p:=5) M (zl rfl);have O:WD (fP xI vm) [sT (zo n m J e Ds S),sT (zc r),sT (zc (cH r c)),sT (zv (lJ J r c)),sT (.lst ((lD Ds r c).map yh)),sT (.lst ((lS S r c).map yx))] true (.int (c:Nat)):=by
  have:=xh (g:=vm) (zg (za (as:=[sT (zo n m J e Ds S),sT (zc r),sT (zc (cH r c)),sT (zv (lJ J r c)),sT (.lst ((lD Ds r c).map yh)),sT (.lst ((lS S r c).map yx))]) (i:=2) rfl) zt) rfl rfl;rw[zzB,cl]at this;exact this
 exact ym rfl (zd u (zd y (zd C (zd H (zd K (zd N (yi (xJ (XJ (ze O (ze (zi (za rfl) zb rfl rfl) (ze (za rfl) (ze (zi (za rfl) (zi (za rfl) zb rfl rfl) (xa hl F) rfl) (ze (za rfl) (ze (za rfl) zJ)))))) (wC rfl) rfl rfl) (WD.e (za rfl))))))))))
end
section
variable{n m c:Nat}{J:TZ}{e:Int}{Ds:DZ}{S:SS}{r:List Int}
def wV{a b:Int}(hJ:Tab n n J)(ha:zC n a):zw (col J b) a=yt J a b:=by
 have d:=ha.1;have e:=ha.2;have c:a.toNat<J.length:=by rw[hJ.1];omega
 show((J.map λr=>zw r b)[a.toNat]?).getD 0=zw ((J[a.toNat]?).getD []) b;rw[zzI,zzE c];rfl
def Je{g:Int->Int}{x:Int}(hx:zC c x):zw ((cH r c).map g) x=g (xW r x):=by
 rw[zyB];exact Zc hx
def JE{x y:Int}(hx:zC c x)(hy:zC c y):yt (lJ J r c) x y=zw r (yt J (xW r x) (xW r y)):=by
 have d:=hx.1;have e:=hx.2;have a:(lJ J r c)[x.toNat]? = some ((cH r c).map λb=>zw r (yt J (xW r x) b)):=by
  rw[zzI,zzI,zzI,List.getElem?_range (show x.toNat<c by omega)];show some ((cH r c).map λb=>zw r (yt J (xW r ((x.toNat:Nat):Int)) b))=_;rw[show((x.toNat:Nat):Int)=x by omega]
 show zw (((lJ J r c)[x.toNat]?).getD []) y=_;rw[a];exact Je hy
abbrev lT(T:TZ)(r:List Int)(c:Nat):TZ:=T.map λq=>(cH r c).map λa=>zw r (zw q a)
def IZ{T:TZ}{i x:Int}(hT:Tab m n T)(hi:zC m i)(hx:zC c x):yt (lT T r c) i x=zw r (yt T i (xW r x)):=by
 have d:=hi.1;have e:=hi.2;have b:i.toNat<T.length:=by rw[hT.1];omega
 show zw (((T.map λq=>(cH r c).map λa=>zw r (zw q a))[i.toNat]?).getD []) x=zw r (zw ((T[i.toNat]?).getD []) (xW r x));rw[zzI,zzE b];exact Je hx
abbrev lV(V:List Int)(r:List Int)(c:Nat):List Int:=((cH r c).filter λa=>decide (a ∈ V)).map (zw r)
structure Ct(n m c:Nat)(J:TZ)(e:Int)(Ds:DZ)(S:SS)(r:List Int):Prop where
 al:Alg c m (lJ J r c) (zw r e) (lD Ds r c)
 cn:c<=n
 ln:r.length=n
 i1:∀v,zC n v->zC c (zw r v)
 ix:∀x,zC c x->zC n (xW r x)/\zw r (xW r x)=x
 jc:∀a b,zC n a->zC n b->yt (lJ J r c) (zw r a) (zw r b)=zw r (yt J a b)
 dc:∀p ∈ Ds,∀i a,zC m i->zC n a->yt (lT p.2 r c) i (zw r a)=zw r (yt p.2 i a)
 sc:∀p ∈ S,∀a,zC n a->(zw r a ∈ lV p.2 r c ↔ a ∈ p.2)
structure Cg(n m:Nat)(J:TZ)(Ds:DZ)(S:SS)(r:List Int)(Rs:TZ)(k:Nat):Prop where
 R:∀q ∈ Rs,Row n q
 F:∀q ∈ Rs,Fm n m J Ds q
 x:∀x,zC n x->tR J x ∈ Rs/\col J x ∈ Rs
 d:∀p ∈ Ds,∀c,zC m c->tR p.2 c ∈ Rs
 nb:Nb n S Rs k r
 st:PP.St (YS S) zw (λr=>r ∈ Rs) n k
def RA(A:Alg n m J e Ds)(L:LawA n m J e Ds)(hS:Sg n S):∃(c:Nat) (r:List Int) (Rs:TZ) (k:Nat),Ct n m c J e Ds S r/\Cg n m J Ds S r Rs k/\RE (yr [(true,zo n m J e Ds S)]) (.tup [zo c m (lJ J r c) (zw r e) (lD Ds r c) (lS S r c),zc r]):=by
 obtain⟨Rs,k,r,G,O,E,Q,h,H,hn⟩:=S4 A hS;obtain⟨c,R,f,T⟩:=h.cnt;have n1:=A.n1;have n8:=A.n8;have he:zC n e:=⟨A.e0,A.en⟩;have I:=h.ln;have w:∀x,zC c x->zC n (xW r x)/\zw r (xW r x)=x:=λx E=>by
  obtain⟨v,K,ev⟩:=T x E;have U:v.toNat<r.length:=by have:=K.1;have:=K.2;omega
  have e1:zw r v=r[v.toNat]:=by unfold zw;rw[zzE U];rfl
  have M:x ∈ r:=by rw[<-ev,e1];exact zxA U
  exact⟨(Y4 I M).1,(Y4 I M).2.1⟩
 have cl:(cH r c).length=c:=by rw[zzB,zzB,zyU]
 have P:∀a ∈ cH r c,zC n a:=λa l=>by
  obtain⟨x,M,rfl⟩:=zxE.mp l;exact(w x (zQ M)).1
 have F:∀g:Int->Int,(∀a,zC n a->zC n (g a))->Row c ((cH r c).map λa=>zw r (g a)):=λg hg=>⟨by rw[zzB,cl],λy my=>by
  obtain⟨a,l,rfl⟩:=zxE.mp my;exact f _ (hg a (P a l))⟩
 have N:=f e he;have c1:1<=c:=by have:=N.1;have:=N.2;omega
 refine⟨c,r,Rs,k,⟨⟨c1,by omega,A.m1,A.m6,⟨by rw[zzB,cl],λq mq=>?_⟩,N.1,N.2,by rw[zzB];exact A.dl,λp B=>?_, ?_⟩,R,I,f,w,λa b d o=>?_,λp B i a V d=>?_,λp B a d=>?_⟩,⟨G,O,E,Q,h,H⟩,BQ A L hS hn I f T R⟩
 . obtain⟨a,l,rfl⟩:=zxE.mp mq;exact F (yt J a) λb o=>wB A.j (P a l) o
 . obtain⟨q,mq,rfl⟩:=zxE.mp B;have W:=A.ds q mq;refine⟨by rw[zzB];exact W.1,λt mt=>?_⟩;obtain⟨s,ms,rfl⟩:=zxE.mp mt;exact F (zw s) λb o=>(rowAt (W.2 s ms) o).2
 . rw[zyB];exact A.nd
 . obtain⟨C,D⟩:=w _ (f a d);obtain⟨X,eb⟩:=w _ (f b o);rw[JE (f a d) (f b o)];have Y:=h.row H G (E _ X).2 C d D;rw[wV A.j C,wV A.j d]at Y;have q2:=h.row H G (E _ d).1 X o eb;exact Y.trans q2
 . obtain⟨C,D⟩:=w _ (f a d);rw[IZ (A.ds p B) V (f a d)];exact h.row H G (Q p B i V) C d D
 . have Z:∀u v,zC n u->zC n v->zw r u=zw r v->u ∈ p.2->v ∈ p.2:=λu v hu K q mu=>by
    have:=List.map_inj_left.mp (h.sgn hu K q) p B;rw[zyO mu]at this;exact of_decide_eq_true this.symm
   obtain⟨C,D⟩:=w _ (f a d);constructor
   . intro z;obtain⟨a',l,q⟩:=zxE.mp z;obtain⟨m1,m2⟩:=List.mem_filter.mp l;exact Z a' a (P a' m1) d q (of_decide_eq_true m2)
   . intro z;refine zxE.mpr ⟨xW r (zw r a),List.mem_filter.mpr ⟨zxE.mpr ⟨_,x8 (f a d),rfl⟩,zyO (Z a _ d C D.symm z)⟩,D⟩
end
section
variable{n m c:Nat}{J:TZ}{e:Int}{Ds:DZ}{S:SS}{r:List Int}
def GS(A:Alg n m J e Ds)(L:LawA n m J e Ds)(K:Ct n m c J e Ds S r):LawA c m (lJ J r c) (zw r e) (lD Ds r c):=by
 have q:zC n e:=⟨A.e0,A.en⟩;have B:zC m (0:Int):=⟨Int.le_refl _,by have:=A.m1;omega⟩;refine⟨⟨λa b C D=>wB K.al.j C D,K.i1 e q,λx g=>?_,λx g=>?_,λx y z g u E=>?_⟩,λG k=>?_⟩
 . obtain⟨d,h⟩:=K.ix x g;rw[<-h,K.jc e _ q d,L.lj.ul _ d]
 . obtain⟨d,h⟩:=K.ix x g;rw[<-h,K.jc _ e d q,L.lj.ur _ d]
 . obtain⟨d,h⟩:=K.ix x g;obtain⟨f,v⟩:=K.ix y u;obtain⟨s,ec⟩:=K.ix z E;rw[<-h,<-v,<-ec,K.jc _ _ d f,K.jc _ _ (wB A.j d f) s,K.jc _ _ f s,K.jc _ _ d (wB A.j f s),L.lj.as _ _ _ d f s]
 . obtain⟨p,l,rfl⟩:=zxE.mp k;have t:=L.ld p l;have F:=K.al.ds _ k;refine⟨λi x o g=>(rowAt (xQ F o).2 g).2, ?_,λx i y j g o u w=>?_⟩
   . exact(K.dc p l 0 e B q).trans (congrArg (zw r) t.em)
   . obtain⟨d,h⟩:=K.ix x g;obtain⟨f,v⟩:=K.ix y u;have im:zC m ((i+j)%m):=NI (by have:=A.m1;omega);show yt (lT p.2 r c) ((i+j)%m) (yt (lJ J r c) x y)=yt (lJ J r c) (yt (lT p.2 r c) i x) (yt (lT p.2 r c) j y);rw[<-h,<-v,K.jc _ _ d f,K.dc p l _ _ im (wB A.j d f),K.dc p l _ _ o d,K.dc p l _ _ w f,K.jc _ _ (t.cl _ _ o d) (t.cl _ _ w f),t.dn _ _ _ _ d o f w]
def EG(K:Ct n m c J e Ds S r){a:Int}(ha:zC n a):YS (lS S r c) (zw r a)=YS S a:=by
 unfold YS;rw[zyB];refine List.map_congr_left λp b=>?_;have:=K.sc p b a ha;show decide (zw r a ∈ lV p.2 r c)=decide (a ∈ p.2)
 by_cases q:a ∈ p.2
 . rw[zyO q,zyO (this.mpr q)]
 . rw[zyG q,zyG λz=>q (this.mp z)]
def GD{T:TZ}{x y:Int}:zw (tR T x) y=yt T x y:=rfl
theorem apart{Rs Rs':TZ}{k k':Nat}{r0 r':List Int}(A:Alg n m J e Ds)(K:Ct n m c J e Ds S r)(C:Cg n m J Ds S r0 Rs k)(C':Cg c m (lJ J r c) (lD Ds r c) (lS S r c) r' Rs' k'):∀(j:Nat) (a b:Int),zC n a->zC n b->Ee (lS S r c) Rs' j (zw r a) (zw r b)->Ee S Rs j a b
 |0,a,b,f,g,h=>by
  have h:=PP.Ek.zero.mp h;rw[EG K f,EG K g]at h;exact PP.Ek.zero.mpr h
 |j+1,a,b,f,g,h=>by
  obtain⟨v,o⟩:=PP.Ek.succ.mp h;refine PP.Ek.succ.mpr ⟨apart A K C C' j a b f g v,λq mq=>?_⟩;have u:=C.R q mq;refine apart A K C C' j _ _ (rowAt u f).2 (rowAt u g).2 ?_
  rcases C.F q mq with⟨x,l,rfl|rfl⟩|⟨p,s,i,t,rfl⟩
  . have z:=o _ (C'.x _ (K.i1 x l)).1;rw[GD,GD,K.jc _ _ l f,K.jc _ _ l g]at z;exact z
  . have z:=o _ (C'.x _ (K.i1 x l)).2;rw[wV K.al.j (K.i1 a f),wV K.al.j (K.i1 b g),K.jc _ _ f l,K.jc _ _ g l]at z;rw[wV A.j f,wV A.j g];exact z
  . have z:=o _ (C'.d (p.1,lT p.2 r c) (zxE.mpr ⟨p,s,rfl⟩) i t);have z:Ee (lS S r c) Rs' j (yt (lT p.2 r c) i (zw r a)) (yt (lT p.2 r c) i (zw r b)):=z;rw[K.dc p s _ _ t f,K.dc p s _ _ t g]at z;exact z
theorem Lr{Rs Rs':TZ}{k k':Nat}{r0 r':List Int}(A:Alg n m J e Ds)(K:Ct n m c J e Ds S r)(C:Cg n m J Ds S r0 Rs k)(C':Cg c m (lJ J r c) (lD Ds r c) (lS S r c) r' Rs' k'):∀(j:Nat) (a b:Int),zC n a->zC n b->Ee S Rs j a b->Ee (lS S r c) Rs' j (zw r a) (zw r b)
 |0,a,b,f,g,h=>by
  have h:=PP.Ek.zero.mp h;rw[<-EG K f,<-EG K g]at h;exact PP.Ek.zero.mpr h
 |j+1,a,b,f,g,h=>by
  obtain⟨y,B⟩:=PP.Ek.succ.mp h;have o:=λ(q:List Int) (mq:q ∈ Rs)=>Lr A K C C' j _ _ (rowAt (C.R q mq) f).2 (rowAt (C.R q mq) g).2 (B q mq);refine PP.Ek.succ.mpr ⟨Lr A K C C' j a b f g y,λq mq=>?_⟩
  rcases C'.F q mq with⟨x,w,rfl|rfl⟩|⟨D,s,i,t,rfl⟩
  . obtain⟨l,u⟩:=K.ix x w;have z:=o _ (C.x _ l).1;rw[GD,GD,<-K.jc _ _ l f,<-K.jc _ _ l g,u]at z;exact z
  . obtain⟨l,u⟩:=K.ix x w;have z:=o _ (C.x _ l).2;rw[wV A.j f,wV A.j g,<-K.jc _ _ f l,<-K.jc _ _ g l,u]at z;rw[wV K.al.j (K.i1 a f),wV K.al.j (K.i1 b g)];exact z
  . obtain⟨p,v,rfl⟩:=zxE.mp s;have z:=o _ (C.d p v i t);rw[GD,GD,<-K.dc p v _ _ t f,<-K.dc p v _ _ t g]at z;exact z
def CS{Rs Rs':TZ}{k k':Nat}{r':List Int}(A:Alg n m J e Ds)(K:Ct n m c J e Ds S r)(C:Cg n m J Ds S r Rs k)(C':Cg c m (lJ J r c) (lD Ds r c) (lS S r c) r' Rs' k'){x y:Int}(hx:zC c x)(hy:zC c y):(x=y ↔ Ee (lS S r c) Rs' k' x y):=by
 refine⟨λh=>by rw[h];exact PP.Ek.refl,λh=>?_⟩;obtain⟨a,b⟩:=K.ix x hx;obtain⟨f,g⟩:=K.ix y hy;have z:=PP.St.more (λd v i j=>(rowAt (C'.R d i) j).2) C'.st k x y hx hy h;have z:=z.mono (Nat.le_add_left _ _);rw[<-b,<-g]at z;have:=(C.nb.eq _ _ a f).mpr (apart A K C C' k _ _ a f z);rw[b,g]at this;exact this
theorem E2{α:Type}[DecidableEq α]:∀(l K:List α),(K++l).Nodup->vX K l=K++l
 | [],K,_=>by rw[zyE];rfl
 |a::l,K,h=>by
  have b:=λz=>(zxF.mp h).2.2 a z a (zzF ..) rfl;have e:K++a::l=(K++[a])++l:=by rw[zxD];rfl
  unfold vX;rw[if_neg b,E2 l (K++[a]) (by rw[<-e];exact h),e]
def WK(c:Nat):(zx c).Nodup:=List.Pairwise.map _ (λa b h z=>h (Int.ofNat_inj.mp z)) List.nodup_range
def PQ{x:Int}(h:zC c x):zw (zx c) x=x:=by
 have:=Zc (g:=λa=>a) h
 rwa [List.map_id']at this
def DH{S':SS}{Rs':TZ}{k':Nat}{r':List Int}(nb:Nb c S' Rs' k' r')(h:∀x y,zC c x->zC c y->(x=y ↔ Ee S' Rs' k' x y)):r'=zx c:=by
 have e:=nb.cn (λx:Int=>x) λi d j f=>h i j (zQ d) (zQ f);rw[List.map_id',E2 (zx c) [] (by rw[List.nil_append];exact WK c),List.nil_append]at e;rw[e]
 conv=>rhs;rw[<-List.map_id' (zx c)]
 refine List.map_congr_left λa k=>?_;have b:=zQ k;have g:(zx c)[a.toNat]? = some a:=by
  have l:=b.1;have m:=b.2;rw[zzI,List.getElem?_range (show a.toNat<c by omega)];show some ((a.toNat:Nat):Int)=_;rw[show((a.toNat:Nat):Int)=a by omega]
 rw[MJ (WK c) g];have:=b.1;omega
def uF{x:Int}(h:zC c x):xW (zx c) x=x:=by
 obtain⟨b,a,_⟩:=Y4 (by rw[zzB,zyU]) (x8 h);rw[PQ b]at a;exact a
def Sy:cH (zx c) c=zx c:=by
 show(zx c).map (xW (zx c))=_
 conv=>rhs;rw[<-List.map_id' (zx c)]
 exact List.map_congr_left λa b=>uF (zQ b)
def B_{q:List Int}(h:q.length=c):((zx c).map λb=>zw q b)=q:=by
 refine List.ext_getElem (by rw[zzB,zzB,zyU,h]) λi d a=>?_;rw[List.getElem_map,List.getElem_map,List.getElem_range];show(q[((i:Nat):Int).toNat]?).getD 0=_;rw[zyI,zzE a];rfl
def ES{q:List Int}(h:Row c q):((zx c).map λb=>zw (zx c) (zw q b))=q:=by
 refine Eq.trans (List.map_congr_left λb a=>?_) (B_ h.1);exact PQ (rowAt h (zQ a)).2
def tT{T:TZ}(h:Tab c c T):lJ T (zx c) c=T:=by
 show((cH (zx c) c).map λa=>(cH (zx c) c).map λb=>zw (zx c) (yt T a b))=T;rw[Sy];refine List.ext_getElem (by rw[zzB,zzB,zyU,h.1]) λi f d=>?_;rw[List.getElem_map,List.getElem_map,List.getElem_range];have e:∀b,yt T ((i:Nat):Int) b=zw T[i] b:=λb=>by
  show zw ((T[((i:Nat):Int).toNat]?).getD []) b=_;rw[zyI,zzE d];rfl
 simp only[e];exact ES (h.2 _ (zxA d))
def u7{Ds:DZ}(h:∀p ∈ Ds,Tab m c p.2):lD Ds (zx c) c=Ds:=by
 show(Ds.map λp=>(p.1,p.2.map λq=>(cH (zx c) c).map λa=>zw (zx c) (zw q a)))=Ds;rw[Sy]
 conv=>rhs;rw[<-List.map_id' Ds]
 refine List.map_congr_left λp b=>?_;have:(p.2.map λq=>(zx c).map λa=>zw (zx c) (zw q a))=p.2:=by
  conv=>rhs;rw[<-List.map_id' p.2]
  exact List.map_congr_left λq mq=>ES ((h p b).2 q mq)
 show(p.1,_)=p;rw[this]
def L3(K:Ct n m c J e Ds S r)(V:List Int):lV V r c=(zx c).filter λx=>decide (xW r x ∈ V):=by
 show(((zx c).map (xW r)).filter λa=>decide (a ∈ V)).map (zw r)=_;rw[List.filter_map,zyB]
 conv=>rhs;rw[<-List.map_id' (List.filter _ (zx c))]
 refine List.map_congr_left λa b=>?_;exact(K.ix a (zQ (List.mem_filter.mp b).1)).2
def P_(K:Ct n m c J e Ds S r)(hS:Sg n S):Sg c (lS S r c):=⟨by rw[zzB];exact hS.1,by rw[zyB];exact hS.2.1,λp a=>by
 obtain⟨q,mq,rfl⟩:=zxE.mp a;show(lV q.2 r c).Sublist _;rw[L3 K q.2];exact List.filter_sublist⟩
def tP(K:Ct n m c J e Ds S r):lS (lS S r c) (zx c) c=lS S r c:=by
 show((lS S r c).map λp=>(p.1,((cH (zx c) c).filter λa=>decide (a ∈ p.2)).map (zw (zx c))))=_;rw[Sy]
 conv=>rhs;rw[<-List.map_id' (lS S r c)]
 refine List.map_congr_left λp b=>?_;obtain⟨q,mq,rfl⟩:=zxE.mp b;show(q.1,((zx c).filter λa=>decide (a ∈ lV q.2 r c)).map (zw (zx c)))=(q.1,lV q.2 r c);rw[L3 K q.2];have:((zx c).filter λa=>decide (a ∈ (zx c).filter λx=>decide (xW r x ∈ q.2)))=(zx c).filter λx=>decide (xW r x ∈ q.2):=List.filter_congr λx d=>by
  by_cases z:xW r x ∈ q.2
  . rw[zyO z];exact zyO (List.mem_filter.mpr ⟨d,zyO z⟩)
  . rw[zyG z];exact zyG λy=>z (of_decide_eq_true (List.mem_filter.mp y).2)
 rw[this]
 conv=>rhs;rw[<-List.map_id' (List.filter _ (zx c))]
 exact congrArg _ (List.map_congr_left λa f=>PQ (zQ (List.mem_filter.mp f).1))
def NS{Rs:TZ}{k:Nat}(A:Alg n m J e Ds)(L:LawA n m J e Ds)(hS:Sg n S)(K:Ct n m c J e Ds S r)(C:Cg n m J Ds S r Rs k):∃Rs' k',Cg c m (lJ J r c) (lD Ds r c) (lS S r c) (zx c) Rs' k'/\(∀x y,zC c x->zC c y->(x=y ↔ Ee (lS S r c) Rs' k' x y))/\RE (yr [(true,zo c m (lJ J r c) (zw r e) (lD Ds r c) (lS S r c))]) (.tup [zo c m (lJ J r c) (zw r e) (lD Ds r c) (lS S r c),zc (zx c)]):=by
 obtain⟨a,q,b,i,f,d,h⟩:=RA K.al (GS A L K) (P_ K hS);have g:=λx y l o=>CS A K C d (x:=x) (y:=y) l o;have er:=DH d.nb g;subst er;have ec:a=c:=by
  have s:=f.cn
  by_cases z:a=c
  . exact z
  . have:=(f.i1 (a:Int) ⟨by omega,by omega⟩).2;rw[PQ ⟨by omega,by omega⟩]at this;omega
 subst ec;have p:=K.i1 e ⟨A.e0,A.en⟩;rw[tT K.al.j,u7 K.al.ds,tP K,PQ p]at h;exact⟨b,i,d,g,h⟩
end
def v7{α:Type}{f:α->D}{g:α->Str}(l:List α)(hl:l.length<=1000)(h:∀a ∈ l,zk (f a) (.int 0)=some (.im (.str (g a)))):RE (wQ [(true,.lst (l.map f))]) (.lst (l.map λa=>D.str (g a))):=
 ym rfl (yi (yy l (xM (WD.e (za rfl))) (by omega) λa b=>⟨_,rfl,WD.e (zi (za rfl) zb (h a b) rfl)⟩))
def EJ:∀l:List Str,xk 60 (.lst (l.map D.str)) (.lst (l.map D.str))=some true:=λl=>by
 show GU (xk 59) _ _=_;refine xB λx m=>?_;obtain⟨s,_,rfl⟩:=zxE.mp m;show some (s==s)=_;simp
def C_{a b c:EF}{as:AS}{i j k:Int}{s t u:Bool}(ha:WD a as s (.int i))(hb:WD b as t (.int j))(hc:WD c as u (.int k))(h1:i<=j)(h2:j<=k):WD (Ks a b c (zy .LtE) (zy .LtE)) as true (.bl true):=by
 unfold WD at *;unfold Ks;rw[ha];simp only[zyL];rw[hb];simp only[zyL];simp only[RV.frz,O.frz,RV.view,O.toD,O.str,zyL,zy,FP,Jz,QW,Iq,h1,h2,decide_true,hc];rfl
def MZ{s:Bool}{x:Int}:WS [(s,.int x)]=sT (.bl true):=
 vr rfl (wq (RS (Mq (za rfl) rfl) (λ_=>Ah (q:=false) (Mq (za rfl) rfl)) (λz=>nomatch z)))
def Bl{x k:Int}(h0:0<=x)(h1:x<=k):Zm [(true,.int x),(true,.int 0),(true,.int k)]=sT (.bl true):=
 vr rfl (wq (RS (yX (zg (za rfl) zt) MZ) (λ_=>C_ (za rfl) (za rfl) (za rfl) h0 h1) (λz=>nomatch z)))
def VX{α:Type}:∀l:List α,Ea [.lst (l.map λ_=>D.bl true)]=some (.im (.bl true)):=λl=>by
 have:Wz (l.map λ_=>D.bl true)=some (l.map λ_=>true):=by
  induction l with
  |nil=>rfl
  |cons a l b=>show(Wz (l.map λ_=>D.bl true)).bind _=_;rw[b];rfl
 show(Wz (l.map λ_=>D.bl true)).bind _=_;rw[this];show some (R0.im (.bl ((l.map λ_=>true).all id)))=_;rw[List.all_eq_true.mpr λx c=>by obtain⟨_,_,rfl⟩:=zxE.mp c;rfl]
section
variable{n m c:Nat}{J J':TZ}{e e':Int}{Ds Ds':DZ}{S S':SS}{r:List Int}
def BE(hr:∀x ∈ r,zC c x)(hl:r.length<=1000):Y_ [(true,zc r),(true,.int c)]=sT (.bl true):=by
 have w:=yy (as:=[sT (zc r),sI c]) (cap:=[none,some 1]) (gg:=gN 0) (fe:=zp (aC zh (aC zX (aC (f2 zj zW Y6) aN))) Zm) r (xM (WD.e (za (i:=0) rfl))) (by omega) λx a=>⟨_,rfl,WD.e (yX (zg (za rfl) (zg (zb) (zg (Kx (za rfl) zb) zt))) (Bl (hr x a).1 (by have:=(hr x a).2;omega)))⟩;exact vr rfl (wq (RS (Mq (za rfl) rfl) (λ_=>Pg w (VX r)) (λz=>nomatch z)))
def IL(dl:Ds.length<=1000)(dl':Ds'.length<=1000)(sl:S.length<=1000)(sl':S'.length<=1000)(hd:Ds'.map (·.1)=Ds.map (·.1))(hs:S'.map (·.1)=S.map (·.1)):ZW [(true,zo n m J e Ds S),(true,zo c m J' e' Ds' S')]=sT (.bl true):=by
 have g:=v7 (f:=yh) Ds dl λ_ _=>rfl;have b:=v7 (f:=yh) Ds' dl' λ_ _=>rfl;have h:=v7 (f:=yx) S sl λ_ _=>rfl;have d:=v7 (f:=yx) S' sl' λ_ _=>rfl;have i:∀(l:List (Str×TZ)),(l.map λa=>D.str a.1)=(l.map (·.1)).map D.str:=λl=>(zyB).symm;have j:∀(l:SS),(l.map λa=>D.str a.1)=(l.map (·.1)).map D.str:=λl=>(zyB).symm;rw[i]at g b;rw[j]at h d;rw[hd]at b;rw[hs]at d;have k:WT (fT (f2 (f2 zh zW zk) (f2 zj zW zk) (zy .NotEq))) [sT (zo n m J e Ds S),sT (zo c m J' e' Ds' S')] false:=zF (Wg (c:=true) (zi (za rfl) zb rfl rfl) (zi (za rfl) zb rfl rfl) (by show some ((m:Int)==m)=_;simp)) rfl;refine vr rfl (zV (zL k rfl) (wq (RS (WQ (xp (WD.e (zZ (za rfl) zb rfl)) g) (xp (WD.e (zZ (za rfl) zb rfl)) b) (EJ _)) (λ_=>WQ (xp (WD.e (zZ (za rfl) zb rfl)) h) (xp (WD.e (zZ (za rfl) zb rfl)) d) (EJ _)) (λz=>nomatch z))))
abbrev ot:SF:=xx (fT (f2 (f2 zu (f2 (f2 (f2 zh yk zk) zD zk) zP zk) zk) (f2 (f2 (f2 zj yk zk) (f2 zu zD zk) zk) (f2 zu zP zk) zk) (zy .NotEq))) (zT (fC (.bl false))) xR
def Ov(A:Alg n m J e Ds)(B:Alg c m J' e' Ds')(hl:r.length=n)(hr:∀a,zC n a->zC c (zw r a))(hj:∀a b,zC n a->zC n b->zw r (yt J a b)=yt J' (zw r a) (zw r b))(he:zw r e=e'):vD [(true,zo n m J e Ds S),(true,zo c m J' e' Ds' S'),(true,zc r)]=sT (.bl true):=by
 have z:=A.n8;have s:=λh d=>by
  have:=yO (as:=[sT (zo n m J e Ds S),sT (zo c m J' e' Ds' S'),sT (zc r),h,d]) (zg (zi (g:=zk) (za (i:=0) rfl) (zb (x:=.int 0)) rfl rfl) zt) (by omega) (by omega);rw[zyI]at this;exact this
 obtain⟨t,u,h,d,rfl⟩:=yJ (g:=gN 3)
  (λ_ as=>∃h d,as=[sT (zo n m J e Ds S),sT (zo c m J' e' Ds' S'),sT (zc r),h,d]) (y6 0 n) 0 [sT (zo n m J e Ds S),sT (zo c m J' e' Ds' S'),sT (zc r),none,none] (λi x as o p=>by
   obtain⟨h,d,rfl⟩:=p;obtain⟨rfl,C⟩:=xg o;rw[Int.zero_add];have k:zC n (i:Int):=⟨by omega,by omega⟩;obtain⟨v,q,w,rfl⟩:=yJ (g:=vp) (f:=ot)
    (λ_ as=>∃d,as=[sT (zo n m J e Ds S),sT (zo c m J' e' Ds' S'),sT (zc r),sI i,d]) (y6 0 n) 0 [sT (zo n m J e Ds S),sT (zo c m J' e' Ds' S'),sT (zc r),sI i,d] (λj x as o p=>by
     obtain⟨d,rfl⟩:=p;obtain⟨rfl,y⟩:=xg o;rw[Int.zero_add];have l:zC n (j:Int):=⟨by omega,by omega⟩;refine⟨_,rfl,_,zL (zF (Wg (c:=true) (zi (za rfl) (x_ A.j k l (zZ (za rfl) zb rfl) (za rfl) (za rfl)) (xa hl (wB A.j k l)) rfl) (x_ B.j (hr _ k) (hr _ l) (zZ (za rfl) zb rfl) (zi (za rfl) (za rfl) (xa hl k) rfl) (zi (za rfl) (za rfl) (xa hl l) rfl)) (by rw[hj _ _ k l];show some (yt J' _ _==yt J' _ _)=_;simp)) rfl) rfl,_,rfl⟩) ⟨_,rfl⟩
   exact⟨_,rfl,_,yH (s _ _) q,_,_,rfl⟩) ⟨_,_,rfl⟩
 refine vr rfl (zV (yH (s _ _) u) (wq (yo (zi (za rfl) (zi (za rfl) zb rfl rfl) (xa hl ⟨A.e0,A.en⟩) rfl) (zi (za rfl) zb rfl rfl) (by rw[he];show some (e'==e')=_;simp))))
end
theorem sS{α:Type}(f g:α->D):∀l:List α,vR true (l.map f) (l.map g)=l.map λa=>(true,D.tup [f a,g a])
 | []=>rfl
 |a::l=>congrArg ((true,D.tup [f a,g a]) :: ·) (sS f g l)
theorem DC{α:Type}(f g:α->D):∀l:List α,((l.map f).zip (l.map g)).map (λq=>(true,D.tup [q.1,q.2]))=l.map λa=>(true,D.tup [f a,g a])
 | []=>rfl
 |a::l=>congrArg ((true,D.tup [f a,g a]) :: ·) (DC f g l)
theorem GZ:∀(T:List Int) (k:Nat),Yq true k (T.map D.int)=((List.range' k T.length).zip T).map λq=>(true,D.tup [.int (q.1:Int),.int q.2])
 | [],_=>rfl
 |r::T,k=>by
  show(true,D.tup [.int (k:Int),.int r])::Yq true (k+1) (T.map D.int)=_;rw[GZ T (k+1)];rfl
section
variable{n m c:Nat}{J J':TZ}{e e':Int}{Ds Ds':DZ}{S S':SS}{r l:List Int}
def Jl{as:AS}{cap:List (Option Nat)}{f:EF}(hr:r.length=n)(hf:WE f as (zc l))(hc:wk cap as=[none,sT (zc r)])(ll:l.length<=1000)(h:∀x ∈ l,zC n x):WE (zq (yw f) cap zG zH (f2 zj zh zk)) as (zc (l.map (zw r))):=by
 have w:=yy (gg:=gN 0) l (xM hf) (by omega) λx a=>by
  rw[hc];exact⟨_,rfl,WD.e (zi (za (i:=1) rfl) (za (i:=0) rfl) (xa hr (h x a)) rfl)⟩
 rw[show(l.map λx=>D.int (zw r x))=(l.map (zw r)).map D.int from(zyB).symm]at w;exact w
abbrev oB:SF:=xx (fT (f2 (zq (yw zD) [none,some 2] zG zH (f2 zj zh zk)) (zq (yw zu) [none,some 4] zG zH (f2 zj zh zk)) (zy .NotEq))) (zT (fC (.bl false))) xR
def Oq{T:TZ}{G:List Int->List Int}(n8:n<=8)(hl:r.length=n)(hr:∀x ∈ r,zC c x)(hT:∀q ∈ T,Row n q)(hG:∀q ∈ T,(G q).length=c/\q.map (zw r)=r.map (zw (G q))):vI [(true,zv T),(true,zv (T.map G)),(true,zc r)]=sT (.bl true):=by
 have k:Me (aC zh yS) [sT (zv T),sT (zv (T.map G)),sT (zc r),none,none]=some (T.map λq=>(true,D.tup [zc q,zc (G q)]),[sT (zv T),sT (zv (T.map G)),sT (zc r),none,none]):=by
  have:=ug (as:=[sT (zv T),sT (zv (T.map G)),sT (zc r),none,none]) (WD.e (za (i:=0) rfl)) (WD.e (za (i:=1) rfl));rw[zyB]at this;rw[this];exact congrArg (λz=>some (z,_)) (sS zc (λq=>zc (G q)) T)
 obtain⟨l,m,a,b,rfl⟩:=yJ (g:=gT 2 (ye (gN 3) (ye vp xD))) (f:=oB)
  (λ_ as=>∃a b,as=[sT (zv T),sT (zv (T.map G)),sT (zc r),a,b]) (T.map λq=>(true,D.tup [zc q,zc (G q)])) 0 [sT (zv T),sT (zv (T.map G)),sT (zc r),none,none] (λi x as d o=>by
   obtain⟨a,b,rfl⟩:=o;rw[zzI]at d;obtain⟨q,p,rfl⟩:=zzX.mp d;have mq:=zyA p;have h:=hT q mq;obtain⟨s,t⟩:=hG q mq;have u:=Jl (as:=[sT (zv T),sT (zv (T.map G)),sT (zc r),sT (zc q),sT (zc (G q))]) (cap:=[none,some 2]) hl (WD.e (za (i:=3) rfl)) rfl (by rw[h.1];omega) h.2;have j:=Jl (as:=[sT (zv T),sT (zv (T.map G)),sT (zc r),sT (zc q),sT (zc (G q))]) (cap:=[none,some 4]) s (WD.e (za (i:=2) rfl)) rfl (by omega) hr;rw[<-t]at j;exact⟨_,rfl,_,zL (zF (uk u j MO) rfl) rfl,_,_,rfl⟩) ⟨_,_,rfl⟩
 exact vr rfl (zV (yH k m) (wq zb))
def Hk{V V':List Int}(hl:r.length<=1000)(h:∀(i:Nat) (v:Int),r[i]? = some v->((i:Int) ∈ V ↔ v ∈ V')):vM [(true,zc V),(true,zc V'),(true,zc r)]=sT (.bl true):=by
 have d:BC zu [sT (zc V),sT (zc V'),sT (zc r)]=some (((List.range' 0 r.length).zip r).map λq=>(true,D.tup [.int (q.1:Int),.int q.2]),[sT (zc V),sT (zc V'),sT (zc r)]):=by
  rw[<-GZ];rfl
 have w:=yy (cap:=[none,none,some 0,some 1]) (gg:=gT 2 (ye zG (ye (gN 1) xD))) ((List.range' 0 r.length).zip r) d (by rw[List.length_zip,List.length_range'];omega) λq mq=>⟨_,rfl,by
  obtain⟨j,f⟩:=List.mem_iff_getElem?.mp mq;obtain⟨g,k⟩:=List.getElem?_zip_eq_some.mp f;obtain⟨m,a⟩:=zzG.mp g;rw[List.getElem_range']at a;have l:r[q.1]? = some q.2:=by rw[<-a];simpa using k
  have b:=h q.1 q.2 l;have:=yo (as:=[sI q.1,sI q.2,sT (zc V),sT (zc V')]) (Gz (za (i:=0) rfl) (za (i:=2) rfl)) (Gz (za (i:=1) rfl) (za (i:=3) rfl)) (c:=true) (by
   show some (decide ((q.1:Int) ∈ V)==decide (q.2 ∈ V'))=_
   by_cases z:q.2 ∈ V'
   . rw[zyO z,zyO (b.mpr z)];rfl
   . rw[zyG z,zyG λy=>z (b.mp y)];rfl)
  exact WD.e this⟩
 exact vr rfl (wq (Pg w (VX _)))
def ME{G:List Int->List Int}{W:List Int->List Int}(A:Alg n m J e Ds)(B:Alg c m J' e' (Ds.map λp=>(p.1,p.2.map G)))(sl:S.length<=10)(hl:r.length=n)(hr:∀x ∈ r,zC c x)(hj:∀a b,zC n a->zC n b->zw r (yt J a b)=yt J' (zw r a) (zw r b))(he:zw r e=e')
 (hG:∀p ∈ Ds,∀q ∈ p.2,(G q).length=c/\q.map (zw r)=r.map (zw (G q))) (hW:∀p ∈ S,∀(i:Nat) (v:Int),r[i]? = some v->((i:Int) ∈ p.2 ↔ v ∈ W p.2)):
 wI [(true,zo n m J e Ds S),(true,zo c m J' e' (Ds.map λp=>(p.1,p.2.map G)) (S.map λp=>(p.1,W p.2))),(true,zc r)]=sT (.bl true):=by
 have s:=A.n8;have H:=A.dl;have t:∀a,zC n a->zC c (zw r a):=λa f=>by
  have h:a.toNat<r.length:=by have:=f.1;have:=f.2;omega
  have:zw r a=r[a.toNat]:=by unfold zw;rw[zzE h];rfl
  rw[this];exact hr _ (zxA h)
 have u:=IL (n:=n) (m:=m) (c:=c) (J:=J) (J':=J') (e:=e) (e':=e') (Ds:=Ds) (Ds':=Ds.map λp=>(p.1,p.2.map G)) (S:=S) (S':=S.map λp=>(p.1,W p.2)) (by omega) (by rw[zzB];omega) (by omega) (by rw[zzB];omega) (by rw[zyB];rfl) (by rw[zyB];rfl);have w:=Ov (S:=S) (S':=S.map λp=>(p.1,W p.2)) A B hl t hj he;have y:WT (XM (YN (fT (zp (aC zh yS) ZW))) (XM (fT (f2 (fP xI vm) (f2 zh zX zk) (zy .NotEq))) (YN (fT (zp (aC zu (aC (f2 zj zX zk) aN)) Y_))))) [sT (zo n m J e Ds S),sT (zo c m J' e' (Ds.map λp=>(p.1,p.2.map G)) (S.map λp=>(p.1,W p.2))),sT (zc r)] false:=by
  refine Us (Ti (zF (yX (zg (za rfl) (zg (za rfl) zt)) u) rfl)) (λ_=>Us (zF (Wg (c:=true) (xh (zg (za rfl) zt) rfl rfl) (zi (za rfl) zb rfl rfl) (by rw[zzB,hl];show some ((n:Int)==n)=_;simp)) rfl) (λ_=>Ti (zF (yX (g:=Y_) (zg (za rfl) (zg (zi (z:=.int c) (za rfl) (zb) rfl rfl) zt)) (BE hr (by omega))) rfl)) (λz=>nomatch z)) (λz=>nomatch z)
 have C:WT (YN (fT (zp (aC zh (aC zj xI)) vD))) [sT (zo n m J e Ds S),sT (zo c m J' e' (Ds.map λp=>(p.1,p.2.map G)) (S.map λp=>(p.1,W p.2))),sT (zc r)] false:=Ti (k:=true) (zF (yX (zg (za rfl) (zg (za rfl) (zg (za rfl) zt))) w) rfl);have j:=Mf (as:=[sT (zo n m J e Ds S),sT (zo c m J' e' (Ds.map λp=>(p.1,p.2.map G)) (S.map λp=>(p.1,W p.2))),sT (zc r)]) (a:=f2 zh xo zk) (b:=f2 zj xo zk) (WD.e (zZ (za rfl) zb rfl)) (WD.e (zZ (za rfl) zb rfl)) (.l _) (.l _);rw[zyB,DC yh (yh∘λp=>(p.1,p.2.map G)) Ds]at j;have D:=yy (cap:=[none,none,some 2]) (gg:=gT 2 (ye zG (ye (gN 1) xD))) (fe:=zp (aC (f2 zh zW zk) (aC (f2 zj zW zk) xI)) vI) Ds j (by omega) λp d=>⟨_,rfl,WD.e (yX (zg (zZ (za rfl) (zb) rfl) (zg (zZ (za rfl) (zb) rfl) (zg (za rfl) zt))) (Oq s hl hr (A.ds p d).2 (hG p d)))⟩;have E:=Ti (zF (Pg D (VX Ds)) rfl);have o:=Mf (as:=[sT (zo n m J e Ds S),sT (zo c m J' e' (Ds.map λp=>(p.1,p.2.map G)) (S.map λp=>(p.1,W p.2))),sT (zc r)]) (a:=f2 zh Z7 zk) (b:=f2 zj Z7 zk) (WD.e (zZ (za rfl) zb rfl)) (WD.e (zZ (za rfl) zb rfl)) (.l _) (.l _);rw[zyB,DC yx (yx∘λp=>(p.1,W p.2)) S]at o;have F:=yy (cap:=[none,none,some 2]) (gg:=gT 2 (ye zG (ye (gN 1) xD))) (fe:=zp (aC (f2 zh zW zk) (aC (f2 zj zW zk) xI)) vM) S o (by omega) λp d=>⟨_,rfl,WD.e (yX (zg (zZ (za rfl) (zb) rfl) (zg (zZ (za rfl) (zb) rfl) (zg (za rfl) zt))) (Hk (by omega) (hW p d)))⟩;exact vr rfl (zV (zL y rfl) (zV (zL C rfl) (zV (zL E rfl) (wq (Pg F (VX S))))))
end
abbrev pF:SF:=(xx (fT (f2 (f2 zj zP (zy .In)) (f2 zu zP (zy .In)) (zy .NotEq))) (zT zD) xR)
theorem NK{B:Option O}{a b:Int}:∀(T:SS) (e3 e4:Option O),(YS T a=YS T b/\∃e3' e4',forL (gT 2 (ye (gN 3) (ye vp xD))) pF ((T.map yx).map λd=>(true,d)) [B,sI a,sI b,e3,e4]=some (.nx [B,sI a,sI b,e3',e4'])) \/
 (YS T a≠YS T b/\∃s,forL (gT 2 (ye (gN 3) (ye vp xD))) pF ((T.map yx).map λd=>(true,d)) [B,sI a,sI b,e3,e4]=some (.rt (.lf true (.str s))))
 | [],i,j=>.inl ⟨rfl,i,j,rfl⟩
 |p::T,i,j=>by
  have k:WD (f2 zj zP (zy .In)) [B,sI a,sI b,sT (.str p.1),sT (zc p.2)] true (.bl (decide (a ∈ p.2))):=Gz (za rfl) (za rfl);have l:WD (f2 zu zP (zy .In)) [B,sI a,sI b,sT (.str p.1),sT (zc p.2)] true (.bl (decide (b ∈ p.2))):=Gz (za rfl) (za rfl);have t:=zF (Wg k l rfl) rfl
  by_cases h:decide (a ∈ p.2)=decide (b ∈ p.2)
  . rw[h,beq_self_eq_true]at t
    rcases NK T (sT (.str p.1)) (sT (zc p.2))with⟨c,e,f,g⟩|⟨c,s,g⟩
    . exact .inl ⟨by show decide (a ∈ p.2)::YS T a=decide (b ∈ p.2)::YS T b;rw[h,c],e,f,y8 rfl (zL t rfl) g⟩
    . exact .inr ⟨λz=>c (List.cons.inj z).2,s,y8 rfl (zL t rfl) g⟩
  . rw[show(decide (a ∈ p.2)==decide (b ∈ p.2))=false by simpa using h]at t;exact .inr ⟨λz=>h (List.cons.inj z).1,p.1,L6 rfl (wd t (wq (za rfl)))⟩
section
variable{n m:Nat}{J:TZ}{e:Int}{Ds:DZ}{S:SS}{v:Int}
def Iw{a b:Int}:(YS S a=YS S b/\yQ [(true,zo n m J e Ds S),(true,.int a),(true,.int b)]=sT .non)\/(YS S a≠YS S b/\∃s,yQ [(true,zo n m J e Ds S),(true,.int a),(true,.int b)]=sT (.str s)):=by
 rcases NK S none none with⟨h,_,_,c⟩|⟨h,s,c⟩
 . exact .inl ⟨h,vr rfl (zV (yH (GH (zZ (za rfl) zb rfl)) c) (wq zb))⟩
 . exact .inr ⟨h,s,vr rfl (UZ (yH (GH (zZ (za rfl) zb rfl)) c))⟩
end
abbrev pD(p:Int×Int):D:=.tup [.int p.1,.int p.2]
abbrev kP(p:Int×Int):List Key:=[.inl p.1,.inl p.2]
def AH(ds:List D):(ds.map (O.lf true)).all O.isLf=true:=by
 rw[List.all_eq_true];intro x a;obtain⟨d,_,rfl⟩:=zxE.mp a;rfl
def B9{k:PF.Kind}(ds:List D):(O.nd k (ds.map (O.lf true))).kl=some true:=by
 show(if(ds.map (O.lf true)).all O.isLf=true then some (O.strs (ds.map (O.lf true)))else none)=_;rw[if_pos (AH ds),RT]
def M7{as:AS}{i:Nat}{b:EF}{g:D->D->Option R0}{k:PF.Kind}{ds:List D}{X y z:D}(h:as[i]? = some (some (.nd k (ds.map (O.lf true)))))(hX:(O.nd k (ds.map (O.lf true))).toD=X)(hb:WD b as true y)(hg:g X y=some (.im z)):WE (f2 (fV i) b g) as z:=by
 have a:RV.view as (.bo i)=some (X,some true):=by rw[Zo h,B9,hX]
 refine⟨.lf (zN z||true) z, ?_,zyD _,rfl⟩;unfold WD at hb;unfold f2;simp only[Xc h,hb,zyL,RV.frz,a];show((g X y).bind _)=_;rw[hg];show((if(zN z||true)=true then some (RV.ow (K8 true z))else none:Option RV).bind _)=_;rw[if_pos (zyD _)];rfl
def DR{as:AS}{i:Nat}{a:EF}{g:D->D->Option R0}{k:PF.Kind}{ds:List D}{X x z:D}(ha:WD a as true x)(h:as[i]? = some (some (.nd k (ds.map (O.lf true)))))(hX:(O.nd k (ds.map (O.lf true))).toD=X)(hg:g x X=some (.im z)):WE (f2 a (fV i) g) as z:=by
 have b:RV.view as (.bo i)=some (X,some true):=by rw[Zo h,B9,hX]
 refine⟨.lf (zN z||true) z, ?_,zyD _,rfl⟩;unfold WD at ha;unfold f2;simp only[Xc h,ha,zyL,RV.frz,b];show((g x X).bind _)=_;rw[hg];show((if(zN z||true)=true then some (RV.ow (K8 true z))else none:Option RV).bind _)=_;rw[if_pos (zyD _)];rfl
def En{p q:Int×Int}(h:kP p=kP q):p=q:=by
 obtain⟨a,b⟩:=p;obtain⟨c,d⟩:=q;have e:=(List.cons.inj h).1;have f:=(List.cons.inj (List.cons.inj h).2).1;have g:a=c:=Sum.inl.inj e;have i:b=d:=Sum.inl.inj f;rw[g,i]
theorem Rg{p:Int×Int}:∀{ps:List (Int×Int)}{fs:List D},ps.length=fs.length->p ∈ ps->∃x ∈ fs,YQ (ps.map kP) fs (kP p)=some x
 | [],_,_,h=>nomatch h
 |q::a,[],h,_=>by simp at h
 |q::a,f::fs,b,h=>by
  unfold YQ;rw[zyS,List.zip_cons_cons]
  by_cases e:q=p
  . rw[List.find?_cons_of_pos (by simp[e])];exact⟨f,zzF ..,rfl⟩
  . rw[List.find?_cons_of_neg (by simpa using λz:kP q=kP p=>e (En z))];obtain⟨x,c,d⟩:=Rg (by simpa using b) ((zzC.mp h).resolve_left λz=>e z.symm);exact⟨x,zzD _ c,d⟩
theorem Nd{p:Int×Int}:∀{ps:List (Int×Int)}{fs:List D},p ∉ ps->YQ (ps.map kP) fs (kP p)=none
 | [],_,_=>rfl
 |q::a,[],_=>rfl
 |q::a,f::fs,h=>by
  unfold YQ;rw[zyS,List.zip_cons_cons,List.find?_cons_of_neg (by simpa using λz:kP q=kP p=>h (by rw[<-En z];exact zzF ..))];exact Nd λz=>h (zzD _ z)
def tq{p:Int×Int}{ps:List (Int×Int)}{fs:List D}(hl:ps.length=fs.length):Dh (pD p) (.dt (ps.map kP) fs)=some (decide (p ∈ ps)):=by
 show some (YQ (ps.map kP) fs (kP p)).isSome=_
 by_cases h:p ∈ ps
 . obtain⟨x,_,a⟩:=Rg hl h;rw[a,zyO h];rfl
 . rw[Nd h,zyG h];rfl
abbrev lP(ps:List (Int×Int)):Option O:=sN ((ps.map pD).map (O.lf true))
abbrev dP(ps:List (Int×Int))(fs:List D):Option O:=some (.nd (.dt (ps.map kP)) (fs.map (O.lf true)))
def MT{ks:List (List Key)}(fs:List D):(O.nd (.dt ks) (fs.map (O.lf true))).toD = .dt ks fs:=by
 show D.dt ks (O.toDs (fs.map (O.lf true)))=_;rw[QY]
def SG(ds:List D):(O.nd .ls (ds.map (O.lf true))).toD = .lst ds:=by
 show D.lst (O.toDs (ds.map (O.lf true)))=_;rw[QY]
def Cc{p:Int×Int}{ps:List (Int×Int)}(h:p ∉ ps):Qf (ps.map kP) (kP p)=false:=by
 unfold Qf;rw[List.any_eq_false];intro k mk;obtain⟨q,mq,rfl⟩:=zxE.mp mk;simpa using λz:kP q=kP p=>h (by rw[<-En z];exact mq)
def OV{as:AS}{fv:EF}{p:Int×Int}{ps:List (Int×Int)}{fs:List D}{x:D}(h5:as[5]? = some (dP ps fs))(h11:as[11]? = some (sT (pD p)))(hv:WE fv as x)(hn:p ∉ ps)(hl:ps.length<=1000):
 NO 5 yz fv as=some (.nx (as.set 5 (dP (ps++[p]) (fs++[x])))):=by
 obtain⟨o,a,b,c⟩:=hv;have e:YU as (.ow o)=some ((o.str,o.toD),as):=rfl;have d:fV 11 as=some (.ow (.lf true (pD p)),as):=za h11;have f:(RV.ow (.lf true (pD p))).frz.view as=some (pD p,some true):=rfl;have g:Xk (pD p)=some (kP p):=rfl;unfold NO;simp only[a,zyL,e,h5,d,f,g,zzB,if_pos (show ps.length<sizeLine from Nat.lt_of_le_of_lt hl (by decide))];unfold X7 ZE;rw[Cc hn,b,c];simp only[Bool.false_eq_true,if_false,dP,zyM,zyS,List.map_nil]
def HH{n:Nat}{ps:List (Int×Int)}(nd:ps.Nodup)(h:∀p ∈ ps,zC n p.1/\zC n p.2):ps.length<=n*n:=by
 have g:ps ⊆ (List.range (n*n)).map λk=>(((k/n:Nat):Int),((k%n:Nat):Int)):=λp i=>by
  obtain⟨e,f⟩:=h p i;have a:=e.1;have b:=e.2;have c:=f.1;have d:=f.2;have j:0<n:=by omega
  refine zxE.mpr ⟨p.1.toNat*n+p.2.toNat,List.mem_range.mpr ?_, ?_⟩
  . calc p.1.toNat*n+p.2.toNat<p.1.toNat*n+n:=by omega
     _=(p.1.toNat+1)*n:=by rw[Nat.add_mul,Nat.one_mul]
     _<=n*n:=Nat.mul_le_mul_right _ (by omega)
  . have l:(p.1.toNat*n+p.2.toNat)/n=p.1.toNat:=by
     rw[Nat.mul_comm,Nat.mul_add_div j,Nat.div_eq_of_lt (by omega)];rfl
    have m:(p.1.toNat*n+p.2.toNat)%n=p.2.toNat:=by
     rw[Nat.mul_comm,Nat.mul_add_mod,Nat.mod_eq_of_lt (by omega)]
    rw[l,m];exact Prod.ext (by show((p.1.toNat:Nat):Int)=p.1;omega) (by show((p.2.toNat:Nat):Int)=p.2;omega)
 have:=nd.length_le_of_subset g
 rwa [zzB,zyU]at this
abbrev QA(A:D)(a b:Int)(sts:List (D×List Int))(ps:List (Int×Int))(fs:List D)(i:Nat)(e7 e8 e9 e10 e11:Option O):AS:=
 [sT A,sI a,sI b,sT (.lst (sts.map Gf)),lP ps,dP ps fs,sI i,e7,e8,e9,e10,e11]
abbrev pL:SF:=(zm (zz true 11 (zY (dC (f2 (fV 10) (f2 yK zX zk) zk) (dC (f2 (fV 10) (f2 yK zW zk) zk) dN))))
 (xx (fT (f2 yz yP (zy .NotIn))) (zm (NO 5 yz (f2 (f2 yP yK IV) (yF (dC (fV 9) dN)) zA))
 (yB (yZ 4 (dC yz dN) y9))) xR))
abbrev sZ:SF:=(zm (zz true 7 (f2 zP y0 zk))
 (zm (zz true 8 (zp (aC zh (aC (f2 yK zX zk) (aC (f2 yK zW zk) aN))) yQ))
 (zm (xx (fT (f2 (fV 8) (fC .non) (zy .IsNot))) (zT (zY (dC (fC (.str "frame")) (dC (f2 yP yK IV) (dC (fV 8) dN))))) xR)
 (zm (yM (Vd zD) (gT 2 (ye (gN 9) (ye (gN 10) xD))) pL)
 (BD 6 1)))))
abbrev pb:TF:=fT (f2 y0 (fP (aC zP aN) vm) (zy .Lt))
def u0{f:EF}{as:AS}{c:Bool}(h:WE f as (.bl c)):WD f as true (.bl c):=by
 obtain⟨o,b,e,a⟩:=h;cases o with
 |lf j d=>
  have g:=e;have i:=a;subst g i;exact b
 |nd k l=>cases k<;>cases a
def um{p:Int×Int}{ps:List (Int×Int)}{fs:List D}(hl:ps.length=fs.length):zy .NotIn (pD p) (.dt (ps.map kP) fs)=some (.im (.bl (!decide (p ∈ ps)))):=by
 unfold zy;simp only[tq hl];rfl
def Jj{A:D}{a b:Int}{sts:List (D×List Int)}{ps:List (Int×Int)}{fs:List D}{i:Nat}{e7 e8 e9 e10 e11:Option O}(q:D×List Int):gT 2 (ye (gN 9) (ye (gN 10) xD)) (true,Gf q) (QA A a b sts ps fs i e7 e8 e9 e10 e11)=some (QA A a b sts ps fs i e7 e8 (sT q.1) (sT (zc q.2)) e11):=by
 have k:kids true [q.1,zc q.2]=[(true,q.1),(true,zc q.2)]:=by
  show[(zN q.1||true,q.1),(zN (zc q.2)||true,zc q.2)]=_;rw[zyD,zyD]
 unfold gT;simp only[Gf,k];rfl
abbrev Al(r:List (D×List Int))(a:Int):Int:=r.foldl (λw q=>zw q.2 w) a
abbrev Gq(n:Nat)(sts:List (D×List Int))(q:D×List Int):Prop:=q ∈ sts/\Row n q.2
section
variable{n m:Nat}{J:TZ}{e:Int}{Ds:DZ}{S:SS}{a b:Int}{sts:List (D×List Int)}
structure Bf(n:Nat)(S:SS)(a b:Int)(sts:List (D×List Int))(ps:List (Int×Int))(fs:List D):Prop where
 nd:ps.Nodup
 fl:ps.length=fs.length
 ab:(a,b) ∈ ps
 re:∀p ∈ ps,zC n p.1/\zC n p.2/\∃r:List (D×List Int),(∀d ∈ r,d ∈ sts)/\p=(Al r a,Al r b)
 fr:∀x ∈ fs,∃l:List D,x = .lst l/\l.length<ps.length
def Bf.le{ps:List (Int×Int)}{fs:List D}(h:Bf n S a b sts ps fs)(n8:n<=8):ps.length<=64:=
 zzO (HH h.nd λp c=>⟨(h.re p c).1,(h.re p c).2.1⟩) (zzO (Nat.mul_le_mul n8 n8) (by decide))
def Bf.add{ps:List (Int×Int)}{fs:List D}{p:Int×Int}{d:D×List Int}{l:List D}(h:Bf n S a b sts ps fs)(hp:p ∈ ps)(hd:Gq n sts d)(hn:(zw d.2 p.1,zw d.2 p.2) ∉ ps)(hl:l.length<ps.length):
 Bf n S a b sts (ps++[(zw d.2 p.1,zw d.2 p.2)]) (fs++[.lst (l++[d.1])]):=by
 refine⟨zxF.mpr ⟨h.nd,by simp,λx c y i=>?_⟩,by rw[zzJ,zzJ,h.fl];rfl,zzP _ h.ab,λq mq=>?_,λx c=>?_⟩
 . rw[zzR.mp i];exact λz=>hn (z ▸ c)
 . rcases zzM.mp mq with k|k
   . exact h.re q k
   . rw[zzR.mp k];obtain⟨j,m,r,o,g⟩:=h.re p hp;refine⟨(Pu hd.2.1 hd.2.2 j).2,(Pu hd.2.1 hd.2.2 m).2,r++[d],λx c=>(zzM.mp c).elim (o x) (λz=>zzR.mp z ▸ hd.1), ?_⟩;show _=((r++[d]).foldl (λw q=>zw q.2 w) a,(r++[d]).foldl (λw q=>zw q.2 w) b);rw[List.foldl_append,List.foldl_append];have e:=congrArg Prod.fst g;have f:=congrArg Prod.snd g;rw[e,f];rfl
 . rcases zzM.mp c with k|k
   . obtain⟨s,e,f⟩:=h.fr x k;exact⟨s,e,by rw[zzJ];exact zzK f (Nat.le_add_right _ _)⟩
   . exact⟨_,zzR.mp k,by rw[zzJ,zzJ];exact Nat.add_lt_add_right hl 1⟩
theorem MH(A:Alg n m J e Ds){p:Int×Int}{i:Nat}{e8:Option O}:∀(t:List (D×List Int)) (ps:List (Int×Int)) (fs:List D) (e9 e10 e11:Option O),(∀q ∈ t,Gq n sts q)->Bf n S a b sts ps fs->p ∈ ps->
 ∃ps' fs' e9' e10' e11',forL (gT 2 (ye (gN 9) (ye (gN 10) xD))) pL ((t.map Gf).map λd=>(true,d)) (QA (zo n m J e Ds S) a b sts ps fs i (sT (pD p)) e8 e9 e10 e11)=some (.nx (QA (zo n m J e Ds S) a b sts ps' fs' i (sT (pD p)) e8 e9' e10' e11'))/\Bf n S a b sts ps' fs'/\(∃more,ps'=ps++more)/\∀q ∈ t,(zw q.2 p.1,zw q.2 p.2) ∈ ps'
 | [],c,fs,M,y,f,_,h,_=>⟨c,fs,M,y,f,rfl,h,⟨[],(zyE _).symm⟩,λ_ m=>nomatch m⟩
 |q::t,c,fs,M,y,f,N,h,B=>by
  have C:=N q (zzF ..);have E:∀q ∈ t,Gq n sts q:=λx s=>N x (zzD _ s);obtain⟨Q,R,_⟩:=h.re p B;have T:=h.le A.n8;have U:WD (f2 (fV 10) (f2 yK zX zk) zk) (QA (zo n m J e Ds S) a b sts c fs i (sT (pD p)) e8 (sT q.1) (sT (zc q.2)) f) true (.int (zw q.2 p.1)):=by
   have:=zi (as:=QA (zo n m J e Ds S) a b sts c fs i (sT (pD p)) e8 (sT q.1) (sT (zc q.2)) f) (za (i:=10) rfl) (zi (g:=zk) (za (i:=7) rfl) (zb (x:=.int 0)) rfl rfl) (Pu C.2.1 C.2.2 Q).1 rfl;exact this
  have V:WD (f2 (fV 10) (f2 yK zW zk) zk) (QA (zo n m J e Ds S) a b sts c fs i (sT (pD p)) e8 (sT q.1) (sT (zc q.2)) f) true (.int (zw q.2 p.2)):=by
   have:=zi (as:=QA (zo n m J e Ds S) a b sts c fs i (sT (pD p)) e8 (sT q.1) (sT (zc q.2)) f) (za (i:=10) rfl) (zi (g:=zk) (za (i:=7) rfl) (zb (x:=.int 1)) rfl rfl) (Pu C.2.1 C.2.2 R).1 rfl;exact this
  have F:=yU (p:=11) (xJ (WD.e U) (WD.e V)) (zl rfl);have I:=zF (u0 (DR (as:=QA (zo n m J e Ds S) a b sts c fs i (sT (pD p)) e8 (sT q.1) (sT (zc q.2)) (sT (pD (zw q.2 p.1,zw q.2 p.2)))) (i:=5) (za (i:=11) rfl) rfl (MT fs) (um h.fl))) rfl
  by_cases G:(zw q.2 p.1,zw q.2 p.2) ∈ c
  . rw[zyO G]at I;obtain⟨u,v,w,j,k,K,L,⟨o,H⟩,r⟩:=MH A t c fs (sT q.1) (sT (zc q.2)) (sT (pD (zw q.2 p.1,zw q.2 p.2))) E h B;exact⟨u,v,w,j,k,y8 (Jj q) (zV F (zL I rfl)) K,L,⟨o,H⟩,λx s=>(zzC.mp s).elim (λz=>by rw[z,H];exact zzP _ G) (r x)⟩
  . rw[zyG G]at I;obtain⟨x,s,W⟩:=Rg h.fl B;obtain⟨l,rfl,X⟩:=h.fr x s;have Y:=IR (M7 (as:=QA (zo n m J e Ds S) a b sts c fs i (sT (pD p)) e8 (sT q.1) (sT (zc q.2)) (sT (pD (zw q.2 p.1,zw q.2 p.2)))) (i:=5) (g:=IV) rfl (MT fs) (za (i:=7) rfl) (by show BZ (YQ (c.map kP) fs (kP p))=_;rw[W];rfl)) (xu (ze (za (i:=9) rfl) zJ) (wC rfl) rfl rfl) (add_lists (LV (by show l.length+1<=_;omega)));have Z:=OV rfl rfl Y G (by omega);have P:=Hs (as:=QA (zo n m J e Ds S) a b sts c fs i (sT (pD p)) e8 (sT q.1) (sT (zc q.2)) (sT (pD (zw q.2 p.1,zw q.2 p.2))) |>.set 5 (dP (c++[(zw q.2 p.1,zw q.2 p.2)]) (fs++[.lst (l++[q.1])]))) (i:=4) rfl (by rw[zzB,zzB];exact Nat.lt_of_le_of_lt T (by decide)) (za (i:=11) rfl);have B1:=h.add B C G X;obtain⟨u,v,w,j,k,K,L,⟨o,H⟩,r⟩:=MH A t _ _ (sT q.1) (sT (zc q.2)) (sT (pD (zw q.2 p.1,zw q.2 p.2))) E B1 (zzP _ B);have el:(c.map pD).map (O.lf true)++[O.lf true (pD (zw q.2 p.1,zw q.2 p.2))]=((c++[(zw q.2 p.1,zw q.2 p.2)]).map pD).map (O.lf true):=by rw[zyM,zyM];rfl
    rw[el]at P;exact⟨u,v,w,j,k,y8 (Jj q) (zV F (wd I (zV Z P))) K,L,⟨_::o,by rw[H,zxD];rfl⟩,λx s=>(zzC.mp s).elim (λz=>by rw[z,H];exact zzP _ (zzL _ (zzR.mpr rfl))) (r x)⟩
end
def DV{as:AS}{i:Nat}{ds:List D}(h:as[i]? = some (sN (ds.map (O.lf true)))):WD (fP (aC (fV i) aN) vm) as true (.int (ds.length:Nat)):=by
 have e:views as [.bo i]=some ([.lst ds],some true):=by
  show(RV.view as (.bo i)).bind _=_;rw[Zo h,B9,SG];rfl
 unfold WD fP aC;rw[Xc h];simp only[zyL,aN,RV.frz,e];rfl
def Rr(S:SS)(sts:List (D×List Int))(a b:Int):Prop:=∀r:List (D×List Int),(∀d ∈ r,d ∈ sts)->YS S (Al r a)=YS S (Al r b)
section
variable{n m:Nat}{J:TZ}{e:Int}{Ds:DZ}{S:SS}{a b:Int}{sts:List (D×List Int)}
theorem closed{ps:List (Int×Int)}(h:∀p ∈ ps,YS S p.1=YS S p.2/\∀d ∈ sts,(zw d.2 p.1,zw d.2 p.2) ∈ ps):∀(r:List (D×List Int)) (p:Int×Int),(∀d ∈ r,d ∈ sts)->p ∈ ps->(Al r p.1,Al r p.2) ∈ ps
 | [],_,_,a=>a
 |d::r,p,b,a=>closed h r _ (λx c=>b x (zzD _ c)) ((h p a).2 d (b d (zzF ..)))
abbrev Dn(S:SS)(sts:List (D×List Int))(ps:List (Int×Int))(i:Nat):Prop:=∀p ∈ ps.take i,YS S p.1=YS S p.2/\∀d ∈ sts,(zw d.2 p.1,zw d.2 p.2) ∈ ps
def O9(A:Alg n m J e Ds)(hg:∀q ∈ sts,Gq n sts q){i:Nat}{ps:List (Int×Int)}{fs:List D}{e7 e8 e9 e10 e11:Option O}(hlt:i<ps.length)(h:Bf n S a b sts ps fs)(hpr:Dn S sts ps i):
 (∃ps' fs' e7' e8' e9' e10' e11',sZ (QA (zo n m J e Ds S) a b sts ps fs i e7 e8 e9 e10 e11)=some (.nx (QA (zo n m J e Ds S) a b sts ps' fs' (i+1) e7' e8' e9' e10' e11'))/\Bf n S a b sts ps' fs'/\i+1<=ps'.length/\Dn S sts ps' (i+1)) \/
 ((∃o x y,sZ (QA (zo n m J e Ds S) a b sts ps fs i e7 e8 e9 e10 e11)=some (.rt o)/\o.str=true/\o.toD = .tup [.str "frame",x,y])/\¬Rr S sts a b):=by
 have z:=zzE hlt;have v:=zxA hlt;generalize ps[i]=p at z v;obtain⟨p1,p2,r,L,M⟩:=h.re p v;have H:zz true 7 (f2 zP y0 zk) (QA (zo n m J e Ds S) a b sts ps fs i e7 e8 e9 e10 e11)=some (.nx (QA (zo n m J e Ds S) a b sts ps fs i (sT (pD p)) e8 e9 e10 e11)):=yU (M7 rfl (SG _) (za rfl) (Qz z)) (zl rfl);have I:∀{x:D},yQ [(true,zo n m J e Ds S),(true,.int p.1),(true,.int p.2)]=sT x->zz true 8 (zp (aC zh (aC (f2 yK zX zk) (aC (f2 yK zW zk) aN))) yQ) (QA (zo n m J e Ds S) a b sts ps fs i (sT (pD p)) e8 e9 e10 e11)=some (.nx (QA (zo n m J e Ds S) a b sts ps fs i (sT (pD p)) (sT x) e9 e10 e11)):=λB=>
  yj (JO (WD.e (za rfl)) (WD.e (zi (za rfl) zb rfl rfl)) (WD.e (zi (za rfl) zb rfl rfl)) B) (zl rfl)
 rcases Iw with⟨C,E⟩|⟨C,s,E⟩
 . obtain⟨c,k,l,f,j,t,N,⟨K,F⟩,u⟩:=MH A sts ps fs e9 e10 e11 hg h v;have G:WT (fT (f2 (fV 8) (fC .non) (zy .IsNot))) (QA (zo n m J e Ds S) a b sts ps fs i (sT (pD p)) (sT .non) e9 e10 e11) false:=zF (zi (za rfl) zb rfl rfl) rfl;have P:BD 6 1 (QA (zo n m J e Ds S) a b sts c k i (sT (pD p)) (sT .non) l f j)=some (.nx (QA (zo n m J e Ds S) a b sts c k (i+1) (sT (pD p)) (sT .non) l f j)):=rfl;refine .inl ⟨c,k,_,_,_,_,_,zV H (zV (I E) (zV (zL G rfl) (zV (yH (GH (za rfl)) t) P))),N,by rw[F,zzJ];omega,λq mq=>?_⟩;have Q:c.take (i+1)=ps.take i++[p]:=by
    rw[F,List.take_append_of_le_length (by omega),List.take_succ,z];rfl
   rw[Q]at mq
   rcases zzM.mp mq with w|w
   . exact⟨(hpr q w).1,λd R=>by rw[F];exact zzP _ ((hpr q w).2 d R)⟩
   . rw[zzR.mp w];exact⟨C,u⟩
 . have G:WT (fT (f2 (fV 8) (fC .non) (zy .IsNot))) (QA (zo n m J e Ds S) a b sts ps fs i (sT (pD p)) (sT (.str s)) e9 e10 e11) true:=zF (zi (za rfl) zb rfl rfl) rfl;obtain⟨x,mx,B⟩:=Rg h.fl v;obtain⟨o,T,U,V⟩:=M7 (as:=QA (zo n m J e Ds S) a b sts ps fs i (sT (pD p)) (sT (.str s)) e9 e10 e11) (i:=5) (g:=IV) rfl (MT fs) (za (i:=7) rfl) (by show BZ (YQ (ps.map kP) fs (kP p))=_;rw[B];rfl);obtain⟨q,W,X,Y⟩:=yi (XJ (ze zb (vV T (ze (za (i:=8) rfl) zJ))) (wC rfl) (by show(true&&(o.str&&(true&&true)))=true;rw[U];rfl) (by show D.tup [.str "frame",o.toD,.str s]=_;rw[V]));refine .inr ⟨⟨q,x,.str s,zV H (zV (I E) (UZ (wd G W))),X,Y⟩,λZ=>C ?_⟩;have:=Z r L;rw[M];exact this
def sH(A:Alg n m J e Ds)(hg:∀q ∈ sts,Gq n sts q)(f:Nat):∀(k i:Nat) (ps:List (Int×Int)) (fs:List D) (e7 e8 e9 e10 e11:Option O),65<=i+k->k<f->i<=ps.length->Bf n S a b sts ps fs->Dn S sts ps i->
 ((∃as',Mn pb sZ f (QA (zo n m J e Ds S) a b sts ps fs i e7 e8 e9 e10 e11)=some (.nx as'))/\Rr S sts a b) \/
 ((∃o x y,Mn pb sZ f (QA (zo n m J e Ds S) a b sts ps fs i e7 e8 e9 e10 e11)=some (.rt o)/\o.str=true/\o.toD = .tup [.str "frame",x,y])/\¬Rr S sts a b):=by
 induction f with
 |zero=>exact λk i g fs Q R T j l V U=>absurd U (Nat.not_lt_zero _)
 |succ f w=>
  intro k i g fs Q R T j l V U Z h c;have le:=h.le A.n8;have p:WD (f2 y0 (fP (aC zP aN) vm) (zy .Lt)) (QA (zo n m J e Ds S) a b sts g fs i Q R T j l) true (.bl (decide ((i:Int)<((g.map pD).length:Nat)))):=G7 (za rfl) (DV rfl);rw[zzB]at p
  by_cases d:i<g.length
  . rw[zyO (Int.ofNat_lt.mpr d)]at p;have B:=zF p rfl
    rcases O9 A hg d h c with⟨C,E,F,G,H,s,t,v,W,I,X⟩|⟨⟨o,x,y,v,K,L⟩,u⟩
    . rcases w (k-1) (i+1) C E F G H s t (by omega) (by omega) I W X with⟨⟨M,N⟩,u⟩|⟨⟨o,x,y,N,K,L⟩,u⟩
      . exact .inl ⟨⟨M,Ke B v N⟩,u⟩
      . exact .inr ⟨⟨o,x,y,Ke B v N,K,L⟩,u⟩
    . exact .inr ⟨⟨o,x,y,Am B v,K,L⟩,u⟩
  . rw[zyG (λz=>d (Int.ofNat_lt.mp z))]at p;have P:i=g.length:=by omega
    refine .inl ⟨⟨_,K1 (zF p rfl)⟩,λr Y=>?_⟩;rw[P]at c;unfold Dn at c;rw[List.take_length]at c;exact(c _ (closed c r (a,b) Y h.ab)).1
def CP(A:Alg n m J e Ds)(ha:zC n a)(hb:zC n b)(hr:∀q ∈ sts,Row n q.2)(hst:RE (wh [(true,zo n m J e Ds S)]) (.lst (sts.map Gf))):(Rr S sts a b/\RE (yY [(true,zo n m J e Ds S),(true,.int a),(true,.int b)]) (.tup [.str "alike"]))\/(¬Rr S sts a b/\∃x y,RE (yY [(true,zo n m J e Ds S),(true,.int a),(true,.int b)]) (.tup [.str "frame",x,y])):=by
 have hg:∀q ∈ sts,Gq n sts q:=λq mq=>⟨mq,hr q mq⟩;have s3:zz true 3 (zp xr wh) [sT (zo n m J e Ds S),sI a,sI b,none,none,none,none,none,none,none,none,none]=some (.nx [sT (zo n m J e Ds S),sI a,sI b,sT (.lst (sts.map Gf)),none,none,none,none,none,none,none,none]):=yU (xp (WD.e (za rfl)) hst) (zl rfl);have wt:∀as:AS,as[1]? = some (sI a)->as[2]? = some (sI b)->WD (zY (dC zj (dC zu dN))) as true (pD (a,b)):=λas h1 h2=>WI (ze (za h1) (ze (za h2) zJ)) (wC rfl) rfl;have s4:=yI (i:=4) (as:=[sT (zo n m J e Ds S),sI a,sI b,sT (.lst (sts.map Gf)),none,none,none,none,none,none,none,none]) (xt (ze (wt _ rfl rfl) zJ) (wC rfl)) (zl rfl);have f5:Ra (zY (dC zj (dC zu dN))) (yF dN) [sT (zo n m J e Ds S),sI a,sI b,sT (.lst (sts.map Gf)),lP [(a,b)],none,none,none,none,none,none,none]=some (.ow (.nd (.dt [kP (a,b)]) [.lf true (.lst [])]),[sT (zo n m J e Ds S),sI a,sI b,sT (.lst (sts.map Gf)),lP [(a,b)],none,none,none,none,none,none,none]):=by
  have h1:=wt [sT (zo n m J e Ds S),sI a,sI b,sT (.lst (sts.map Gf)),lP [(a,b)],none,none,none,none,none,none,none] rfl rfl;unfold WD at h1;unfold Ra;rw[h1];rfl
 have s5:=yI (i:=5) f5 (zl rfl);have s6:zz true 6 zX [sT (zo n m J e Ds S),sI a,sI b,sT (.lst (sts.map Gf)),lP [(a,b)],dP [(a,b)] [.lst []],none,none,none,none,none,none]=some (.nx (QA (zo n m J e Ds S) a b sts [(a,b)] [.lst []] 0 none none none none none)):=yj zb (zl rfl);have B0:Bf n S a b sts [(a,b)] [.lst []]:=⟨by simp,rfl,by simp,λp mp=>by
  rw[zzR.mp mp];exact⟨ha,hb,[],(λ_ m=>nomatch m),rfl⟩,λx mx=>⟨[],zzR.mp mx,by show 0<1;decide⟩⟩
 rcases sH A hg 10000 65 0 [(a,b)] [.lst []] none none none none none (by omega) (by decide) (Nat.zero_le _) B0 (λp mp=>by simp at mp)with⟨⟨as',hw⟩,hR⟩|⟨⟨o,x,y,hw,h1,h2⟩,hR⟩
 . exact .inl ⟨hR,ym rfl (zd s3 (zd s4 (zd s5 (zd s6 (zd hw (yi (Ir (WD.e zb))))))))⟩
 . exact .inr ⟨hR,x,y,ym rfl (zd s3 (zd s4 (zd s5 (zd s6 (y7 ⟨o,hw,h1,h2⟩)))))⟩
end
section
variable{n m:Nat}{J:TZ}{e:Int}{Ds:DZ}{S:SS}{Rs:TZ}{sts:List (D×List Int)}
theorem lift(hF:∀q ∈ Rs,Fm n m J Ds q)(hx:∀x,zC n x->(sL x,tR J x) ∈ sts/\(sR x,col J x) ∈ sts)(hd:∀p ∈ Ds,∀c,zC m c->(sD p.1 c,tR p.2 c) ∈ sts):∀r:List (List Int),(∀q ∈ r,q ∈ Rs)->∃w:List (D×List Int),(∀q ∈ w,q ∈ sts)/\∀a,Al w a=PP.fr zw r a
 | [],_=>⟨[],(λ_ m=>nomatch m),λ_=>rfl⟩
 |q::r,h=>by
  obtain⟨w,f,g⟩:=lift hF hx hd r λx b=>h x (zzD _ b);have:∃d,(d,q) ∈ sts:=by
   rcases hF q (h q (zzF ..))with⟨x,e,rfl|rfl⟩|⟨p,i,c,j,rfl⟩
   . exact⟨_,(hx x e).1⟩
   . exact⟨_,(hx x e).2⟩
   . exact⟨_,hd p i c j⟩
  obtain⟨d,k⟩:=this;exact⟨(d,q)::w,λx b=>(zzC.mp b).elim (λz=>z ▸ k) (f x),λa=>g _⟩
def O8{k:Nat}{a b:Int}(A:Alg n m J e Ds)(hF:∀q ∈ Rs,Fm n m J Ds q)(se:∀x y,zC n x->zC n y->(x=y ↔ Ee S Rs k x y))(ha:zC n a)(hb:zC n b):
 (a=b/\RE (yY [(true,zo n m J e Ds S),(true,.int a),(true,.int b)]) (.tup [.str "alike"]))\/(a≠b/\∃x y,RE (yY [(true,zo n m J e Ds S),(true,.int a),(true,.int b)]) (.tup [.str "frame",x,y])):=by
 obtain⟨g,s,i,j,l,c⟩:=Vf A
 rcases CP A ha hb (λq mq=>(i q mq).1) c with⟨d,h⟩|⟨d,h⟩
 . refine .inl ⟨(se a b ha hb).mpr λr o _=>?_,h⟩;obtain⟨w,p,f⟩:=lift hF j l r o;rw[<-f,<-f];exact d w p
 . exact .inr ⟨λz=>d (by rw[z];exact λ_ _=>rfl),h⟩
end
section
variable{n m c:Nat}{J:TZ}{e:Int}{Ds:DZ}{S:SS}{r:List Int}
def BR{l:List Int}{j:Nat}{v:Int}(h:l[j]? = some v):zw l (j:Int)=v:=by
 show(l[((j:Int)).toNat]?).getD 0=v;rw[zyI,h];rfl
def Bz(A:Alg n m J e Ds)(K:Ct n m c J e Ds S r)(sl:S.length<=10):
 wI [(true,zo n m J e Ds S),(true,zo c m (lJ J r c) (zw r e) (lD Ds r c) (lS S r c)),(true,zc r)]=sT (.bl true):=by
 have f:∀{j:Nat}{v:Int},r[j]? = some v->zC n (j:Int):=λ{j v} h=>by
  have:=(zzG.mp h).1;rw[K.ln]at this;exact⟨by omega,by omega⟩
 refine ME (W:=λV=>lV V r c) A K.al sl K.ln (λx w=>?_) (λa b y z=>(K.jc a b y z).symm) rfl (λp g q mq=>⟨?_, ?_⟩) λp g i v h=>?_
 . obtain⟨j,h⟩:=List.mem_iff_getElem?.mp w;have:=K.i1 _ (f h)
   rwa [BR h]at this
 . rw[zzB,zzB,zzB,zyU]
 . obtain⟨i,k⟩:=List.mem_iff_getElem?.mp mq;have T:=A.ds p g;have l:=(zzG.mp k).1;have s:=T.2 q mq;refine List.ext_getElem? λj=>?_;rw[zzI,zzI]
   by_cases t:j<n
   . have B:j<q.length:=by rw[s.1];exact t
     have C:j<r.length:=by rw[K.ln];exact t
     have u:=zzE B;have o:=zzE C;rw[u,o];have d:=K.dc p g (i:Int) (j:Int) ⟨by omega,by rw[T.1]at l;omega⟩ (f o);rw[BR o]at d;have D:yt (lT p.2 r c) (i:Int) r[j]=zw ((cH r c).map λa=>zw r (zw q a)) r[j]:=by
      show zw (((lT p.2 r c)[((i:Int)).toNat]?).getD []) _=_;rw[zyI,zzI,k];rfl
     have E:yt p.2 (i:Int) (j:Int)=q[j]:=by
      show zw ((p.2[((i:Int)).toNat]?).getD []) _=_;rw[zyI,k];exact BR u
     rw[D,E]at d;exact congrArg some d.symm
   . rw[List.getElem?_eq_none (by rw[s.1];omega),List.getElem?_eq_none (by rw[K.ln];omega)];rfl
 . have:=K.sc p g i (f h);rw[BR h]at this;exact this.symm
end
section
variable{n m c:Nat}{J:TZ}{e:Int}{Ds:DZ}{S:SS}{F:List Int}
def vP(h:F.Perm (zx n)):F.length=n:=by rw[h.length_eq,zzB,zyU]
def vB(h:F.Perm (zx n)){v:Int}(hv:zC n v):zC n (zw F v):=by
 have a:v.toNat<F.length:=by rw[vP h];have:=hv.1;have:=hv.2;omega
 have b:zw F v=F[v.toNat]:=by unfold zw;rw[zzE a];rfl
 rw[b];exact zQ (h.mem_iff.mp (zxA a))
def Va(h:F.Perm (zx n)){x:Int}(hx:zC n x):zC n (xW F x)/\zw F (xW F x)=x:=
 have k:=Y4 (vP h) (h.mem_iff.mpr (x8 hx))
 ⟨k.1,k.2.1⟩
def Lu(h:F.Perm (zx n)){a b:Int}(ha:zC n a)(hb:zC n b)(q:zw F a=zw F b):a=b:=by
 have nd:=h.nodup_iff.mpr (WK n);have c:a.toNat<F.length:=by rw[vP h];have:=ha.1;have:=ha.2;omega
 have d:b.toNat<F.length:=by rw[vP h];have:=hb.1;have:=hb.2;omega
 unfold zw at q;rw[zzE c,zzE d]at q;have:=(List.getElem_inj nd).mp (show F[a.toNat]=F[b.toNat]from q);have:=ha.1;have:=hb.1;omega
def YT(h:F.Perm (zx n)){a:Int}(ha:zC n a):xW F (zw F a)=a:=
 have k:=Va h (vB h ha)
 Lu h k.1 ha k.2
def Ll(A:Alg n m J e Ds)(h:F.Perm (zx n)):Ct n m n J e Ds S F:=by
 have w:zC n e:=⟨A.e0,A.en⟩;have cl:(cH F n).length=n:=by rw[zzB,zzB,zyU]
 have o:∀a ∈ cH F n,zC n a:=λa d=>by
  obtain⟨x,B,rfl⟩:=zxE.mp d;exact(Va h (zQ B)).1
 have k:∀g:Int->Int,(∀a,zC n a->zC n (g a))->Row n ((cH F n).map λa=>zw F (g a)):=λg C=>⟨by rw[zzB,cl],λy D=>by
  obtain⟨a,d,rfl⟩:=zxE.mp D;exact vB h (C a (o a d))⟩
 have r:=vB h w;refine⟨⟨A.n1,A.n8,A.m1,A.m6,⟨by rw[zzB,cl],λq mq=>?_⟩,r.1,r.2,by rw[zzB];exact A.dl,λp l=>?_, ?_⟩,zzN _,vP h,λv E=>vB h E,λx G=>Va h G,λa b c f=>?_,λp l i a H c=>?_,λp l a c=>?_⟩
 . obtain⟨a,d,rfl⟩:=zxE.mp mq;exact k (yt J a) λb f=>wB A.j (o a d) f
 . obtain⟨q,mq,rfl⟩:=zxE.mp l;have u:=A.ds q mq;refine⟨by rw[zzB];exact u.1,λt mt=>?_⟩;obtain⟨s,I,rfl⟩:=zxE.mp mt;exact k (zw s) λb f=>(rowAt (u.2 s I) f).2
 . rw[zyB];exact A.nd
 . rw[JE (vB h c) (vB h f),YT h c,YT h f]
 . rw[IZ (A.ds p l) H (vB h c),YT h c]
 . constructor
   . intro z;obtain⟨K,d,q⟩:=zxE.mp z;obtain⟨L,M⟩:=List.mem_filter.mp d;exact Lu h (o K L) c q ▸ of_decide_eq_true M
   . intro z;exact zxE.mpr ⟨a,List.mem_filter.mpr ⟨zxE.mpr ⟨_,x8 (vB h c),YT h c⟩,zyO z⟩,rfl⟩
end
section
variable{n m c c':Nat}{J:TZ}{e:Int}{Ds:DZ}{S:SS}{r F W T:List Int}
def SI(c:Nat):(zx c).Pairwise (· <= ·):=List.Pairwise.map _ (λa b h=>by show(a:Int)<=b;omega) List.pairwise_lt_range
def Sf{l:List Int}(h:l.Perm (zx c)):sortI l=zx c:=Xv _ _ ((sortI_perm l).trans h) (wu l) (SI c)
def IY(A:Alg n m J e Ds)(h:F.Perm (zx n)){V:List Int}(hV:V.Sublist (zx n)):sortI (V.map (zw F))=lV V F n:=by
 have a:∀x ∈ V,zC n x:=λx d=>zQ (hV.subset d);have f:=(WK n).sublist hV;rw[L3 (Ll (S:=[]) A h) V];refine Xv _ _ ((sortI_perm _).trans ((List.perm_ext_iff_of_nodup ?_ ?_).mpr λx=>⟨λq=>?_,λq=>?_⟩)) (wu _) ((SI n).sublist List.filter_sublist)
 . exact List.pairwise_map.mpr (f.imp_of_mem λg i b q=>b (Lu h (a _ g) (a _ i) q))
 . exact(WK n).sublist List.filter_sublist
 . obtain⟨v,c,rfl⟩:=zxE.mp q;exact List.mem_filter.mpr ⟨x8 (vB h (a v c)),zyO (by rw[YT h (a v c)];exact c)⟩
 . obtain⟨j,k⟩:=List.mem_filter.mp q;exact zxE.mpr ⟨_,of_decide_eq_true k,(Va h (zQ j)).2⟩
section
variable{Rs Rs':TZ}{k k':Nat}{a b:Int}
def PJ(A:Alg n m J e Ds)(KF:Ct n m n J e Ds S F)(C:Cg n m J Ds S r Rs k)(CO:Cg n m (lJ J F n) (lD Ds F n) (lS S F n) W Rs' k')(ha:zC n a)(hb:zC n b):zw r a=zw r b ↔ zw W (zw F a)=zw W (zw F b):=by
 have c:=KF.i1 a ha;have f:=KF.i1 b hb;constructor
 . intro q;have z:=PP.St.more (λd v g h=>(rowAt (C.R d g) h).2) C.st k' a b ha hb ((C.nb.eq a b ha hb).mp q);have z:=z.mono (Nat.le_add_left _ _);exact(CO.nb.eq _ _ c f).mpr (Lr A KF C CO k' a b ha hb z)
 . intro q;have z:=PP.St.more (λd v g h=>(rowAt (CO.R d g) h).2) CO.st k _ _ c f ((CO.nb.eq _ _ c f).mp q);have z:=z.mono (Nat.le_add_left _ _);exact(C.nb.eq a b ha hb).mpr (apart A KF C CO k a b ha hb z)
abbrev tN(r F W:List Int)(c:Nat):List Int:=(zx c).map λk=>zw W (zw F (xW r k))
def CJ(A:Alg n m J e Ds)(K:Ct n m c J e Ds S r)(KF:Ct n m n J e Ds S F)(C:Cg n m J Ds S r Rs k)(CO:Cg n m (lJ J F n) (lD Ds F n) (lS S F n) W Rs' k')(ha:zC n a):zw (tN r F W c) (zw r a)=zw W (zw F a):=by
 have b:=K.i1 a ha;rw[Zc b];obtain⟨d,f⟩:=K.ix _ b;exact(PJ A KF C CO d ha).mp f
def BN(A:Alg n m J e Ds)(K:Ct n m c J e Ds S r)(KF:Ct n m n J e Ds S F)(KO:Ct n m c' (lJ J F n) (zw F e) (lD Ds F n) (lS S F n) W)(C:Cg n m J Ds S r Rs k)(CO:Cg n m (lJ J F n) (lD Ds F n) (lS S F n) W Rs' k'):(tN r F W c).Perm (zx c'):=by
 refine(List.perm_ext_iff_of_nodup ?_ (WK c')).mpr λx=>⟨λq=>?_,λq=>?_⟩
 . refine List.pairwise_map.mpr ((WK c).imp_of_mem λf g a q=>a ?_);have b:=K.ix _ (zQ f);have d:=K.ix _ (zQ g);have:=(PJ A KF C CO b.1 d.1).mpr q;rw[b.2,d.2]at this;exact this
 . obtain⟨k,mk,rfl⟩:=zxE.mp q;exact x8 (KO.i1 _ (KF.i1 _ (K.ix k (zQ mk)).1))
 . obtain⟨h,i⟩:=KO.ix x (zQ q);obtain⟨f1,f2⟩:=KF.ix _ h;refine zxE.mpr ⟨zw r (xW F (xW W x)),x8 (K.i1 _ f1), ?_⟩;obtain⟨j,l⟩:=K.ix _ (K.i1 _ f1);rw[(PJ A KF C CO j f1).mp l,f2,i]
end
def FE{a b:Nat}{T U:TZ}(h:Tab a b T)(g:Tab a b U)(q:∀i x,zC a i->zC b x->yt T i x=yt U i x):T=U:=by
 have d:∀{T:TZ}{i j:Nat}(c:i<T.length) (e:j<T[i].length),yt T (i:Int) (j:Int)=T[i][j]:=λ{T i j} c e=>by
  show zw ((T[((i:Nat):Int).toNat]?).getD []) (j:Int)=_;rw[zyI,zzE c];exact BR (zzE e)
 refine List.ext_getElem (by rw[h.1,g.1]) λi c f=>?_;have k:=h.2 _ (zxA c);have l:=g.2 _ (zxA f);refine List.ext_getElem (by rw[k.1,l.1]) λj e m=>?_;have z:=q i j ⟨by omega,by rw[h.1]at c;omega⟩ ⟨by omega,by rw[k.1]at e;omega⟩
 rwa [d c e,d f m]at z
def O_(A:Alg n m J e Ds)(K:Ct n m c J e Ds S r)(KF:Ct n m n J e Ds S F)(KO:Ct n m c (lJ J F n) (zw F e) (lD Ds F n) (lS S F n) W)(KT:Ct c m c (lJ J r c) (zw r e) (lD Ds r c) (lS S r c) T)(tt:∀v,zC n v->zw T (zw r v)=zw W (zw F v)):
 zo c m (lJ (lJ J r c) T c) (zw T (zw r e)) (lD (lD Ds r c) T c) (lS (lS S r c) T c)=zo c m (lJ (lJ J F n) W c) (zw W (zw F e)) (lD (lD Ds F n) W c) (lS (lS S F n) W c):=by
 have l:∀x,zC c x->∃a,zC n a/\zw T (zw r a)=x:=λx g=>by
  obtain⟨u,w⟩:=KT.ix x g;obtain⟨B,C⟩:=K.ix _ u;exact⟨_,B,by rw[C,w]⟩
 have D:=FE KT.al.j KO.al.j λx y g E=>by
  obtain⟨a,d,rfl⟩:=l x g;obtain⟨b,h,rfl⟩:=l y E;rw[KT.jc _ _ (K.i1 a d) (K.i1 b h),K.jc a b d h,tt _ (wB A.j d h),tt a d,tt b h,KO.jc _ _ (KF.i1 a d) (KF.i1 b h),KF.jc a b d h]
 have G:lD (lD Ds r c) T c=lD (lD Ds F n) W c:=by
  show List.map _ (List.map _ Ds)=List.map _ (List.map _ Ds);rw[zyB,zyB];refine List.map_congr_left λp f=>?_;have o:(p.1,lT p.2 r c) ∈ lD Ds r c:=zxE.mpr ⟨p,f,rfl⟩;have q:(p.1,lT p.2 F n) ∈ lD Ds F n:=zxE.mpr ⟨p,f,rfl⟩;have H:(p.1,lT (lT p.2 r c) T c) ∈ lD (lD Ds r c) T c:=zxE.mpr ⟨_,o,rfl⟩;have I:(p.1,lT (lT p.2 F n) W c) ∈ lD (lD Ds F n) W c:=zxE.mpr ⟨_,q,rfl⟩;have:lT (lT p.2 r c) T c=lT (lT p.2 F n) W c:=FE (KT.al.ds _ H) (KO.al.ds _ I) λi x k g=>by
   obtain⟨a,d,rfl⟩:=l x g;have L:zC n (yt p.2 i a):=(rowAt (xQ (A.ds p f) k).2 d).2;have M:=KT.dc _ o i _ k (K.i1 a d);have N:=KO.dc _ q i _ k (KF.i1 a d);have O:=K.dc p f i a k d;have P:=KF.dc p f i a k d;show yt (lT (lT p.2 r c) T c) i (zw T (zw r a))=yt (lT (lT p.2 F n) W c) i (zw T (zw r a));rw[M,O,tt _ L,tt a d,N,P]
  show(p.1,lT (lT p.2 r c) T c)=(p.1,lT (lT p.2 F n) W c);rw[this]
 have Q:lS (lS S r c) T c=lS (lS S F n) W c:=by
  show List.map _ (List.map _ S)=List.map _ (List.map _ S);rw[zyB,zyB];refine List.map_congr_left λp f=>?_;have o:(p.1,lV p.2 r c) ∈ lS S r c:=zxE.mpr ⟨p,f,rfl⟩;have q:(p.1,lV p.2 F n) ∈ lS S F n:=zxE.mpr ⟨p,f,rfl⟩;have:lV (lV p.2 r c) T c=lV (lV p.2 F n) W c:=by
   have f1:=L3 KT (lV p.2 r c);have f2:=L3 KO (lV p.2 F n);rw[f1,f2];refine List.filter_congr λx s=>?_;have g:=zQ s;have R:xW T x ∈ lV p.2 r c ↔ x ∈ lV (lV p.2 r c) T c:=by
    rw[f1];exact⟨λz=>List.mem_filter.mpr ⟨s,zyO z⟩,λz=>of_decide_eq_true (List.mem_filter.mp z).2⟩
   have U:xW W x ∈ lV p.2 F n ↔ x ∈ lV (lV p.2 F n) W c:=by
    rw[f2];exact⟨λz=>List.mem_filter.mpr ⟨s,zyO z⟩,λz=>of_decide_eq_true (List.mem_filter.mp z).2⟩
   obtain⟨a,d,rfl⟩:=l x g;have V:=(KT.sc _ o _ (K.i1 a d)).trans (K.sc p f a d);have t:=(KO.sc _ q _ (KF.i1 a d)).trans (KF.sc p f a d);rw[<-tt a d]at t;exact decide_eq_decide.mpr ((R.trans V).trans (U.trans t).symm)
  show(p.1,lV (lV p.2 r c) T c)=(p.1,lV (lV p.2 F n) W c);rw[this]
 rw[D,G,Q,tt e ⟨A.e0,A.en⟩]
end
section
variable{n m c:Nat}{J:TZ}{e:Int}{Ds:DZ}{S:SS}{F:List Int}{s:Bool}
abbrev sW(s:Bool)(d:D):Option O:=some (.lf s d)
def JL{as:AS}{r:List Int}{i j:Nat}{x:Int}{s:Bool}(hl:r.length<=1000)(hx:x ∈ r)(hi:as[i]? = some (sW s (zc r)))(hj:as[j]? = some (sI x)):WD (wm .lst (fV i) (aC (fV j) aN) x6) as true (.int (xW r x)):=by
 obtain⟨a,c,b⟩:=Y4 rfl hx;refine Vi (za hi) rfl (zg (za hj) zt) ?_ rfl;show(VY _ (r.map D.int)).bind _=_;rw[b];show(if(r.map D.int).length<=1000 then some (R0.im (.int ((xW r x).toNat:Nat)))else none)=_;rw[if_pos (by rw[zzB];exact hl),show(((xW r x).toNat:Nat):Int)=xW r x by have:=a.1;omega]
def sO{a:EF}{as:AS}{l:List Int}(h:WE a as (zc l))(hl:l.length<64):WE (fP (aC a aN) Yy) as (zc (sortI l)):=by
 have k:=QH (g:=Yy) h (by
  show(wL (l.map D.int)).bind _=_;rw[Yc];show(if l.length<64 then _ else _)=_;rw[if_pos hl])
 rw[V8]at k;exact⟨_,k,(wy _).1,(wy _).2⟩
abbrev Cn(s:Bool)(n m:Nat)(J:TZ)(e:Int)(Ds:DZ)(S:SS)(F:List Int)(e8 e9 e10 e11:Option O):AS:=[sT (zo n m J e Ds S),sW s (zc F),sI n,sI m,sT (zv J),sI e,sT (.lst (Ds.map yh)),sT (.lst (S.map yx)),e8,e9,e10,e11]
def RX(A:Alg n m J e Ds)(hS:Sg n S)(h:F.Perm (zx n)):RE (xl [(true,zo n m J e Ds S),(s,zc F)]) (zo n m (lJ J F n) (zw F e) (lD Ds F n) (lS S F n)):=by
 have V:=A.n8;have W:=A.m6;have X:=A.dl;have L:zC n e:=⟨A.e0,A.en⟩;have fl:=vP h;have cl:(cH F n).length=n:=by rw[zzB,zzB,zyU]
 have k:(zx n).length=n:=by rw[zzB,zyU]
 have f:=λx (l:zC n x)=>(Va h l).1;have o:∀x,zC n x->zk (zc (cH F n)) (.int x)=some (.im (.int (xW F x))):=λx l=>by
  have:=xa cl l
  rwa [Zc l]at this
 have r:∀{β:Type}(g:Int->β),(cH F n).map g=(zx n).map λx=>g (xW F x):=λg=>zyB;have M:vS zh (gT 6 (ye (gN 2) (ye (gN 3) (ye vp (ye (gN 5) (ye (gN 6) (ye (gN 7) xD))))))) [sT (zo n m J e Ds S),sW s (zc F),none,none,none,none,none,none,none,none,none,none]=some (.nx (Cn s n m J e Ds S F none none none none)):=RI (WD.e (za rfl)) rfl;have N:WE (zq (ya xI yb) [none,some 1] zG zH (wm .lst zj xr x6)) (Cn s n m J e Ds S F none none none none) (zc (cH F n)):=by
  have w:=yy (as:=Cn s n m J e Ds S F none none none none) (cap:=[none,some 1]) (gg:=gN 0) (zx n) (vb (zg (za (i:=2) rfl) zt) (by omega)) (by rw[k];omega) λx O=>⟨_,rfl,WD.e (JL (i:=1) (j:=0) (by omega) (h.mem_iff.mpr O) rfl rfl)⟩;rw[show((zx n).map λx=>D.int (xW F x))=(cH F n).map D.int from(zyB).symm]at w;exact w
 have P:=yU (p:=8) N (zl rfl);have Q:WE (zq (ya xI yb) [none,some 1,some 2,some 4,some 8] zG zH (zq (ya xI yb) [none,some 1,some 3,some 4,some 0] zG zH (f2 zj (f2 (f2 zu (f2 zD zP zk) zk) (f2 zD zh zk) zk) zk))) (Cn s n m J e Ds S F (sT (zc (cH F n))) none none none) (zv (lJ J F n)):=by
  have w:=yy (as:=Cn s n m J e Ds S F (sT (zc (cH F n))) none none none) (cap:=[none,some 1,some 2,some 4,some 8]) (gg:=gN 0) (zx n) (vb (zg (za (i:=2) rfl) zt) (by omega)) (by rw[k];omega) λa d=>by
   have c:=yy (as:=[sI a,sW s (zc F),sI n,sT (zv J),sT (zc (cH F n))]) (cap:=[none,some 1,some 3,some 4,some 0]) (gg:=gN 0) (zx n) (vb (zg (za (i:=2) rfl) zt) (by omega)) (by rw[k];omega) λb t=>
    ⟨_,rfl,WD.e (zi (za (i:=1) rfl) (x_ A.j (f a (zQ d)) (f b (zQ t)) (za (i:=2) rfl) (zi (za (i:=3) rfl) (za (i:=4) rfl) (o a (zQ d)) rfl) (zi (za (i:=3) rfl) (za (i:=0) rfl) (o b (zQ t)) rfl)) (xa fl (wB A.j (f a (zQ d)) (f b (zQ t)))) rfl)⟩
   rw[show((zx n).map λb=>D.int (zw F (yt J (xW F a) (xW F b))))=((zx n).map λb=>zw F (yt J (xW F a) (xW F b))).map D.int from(zyB).symm]at c;exact⟨_,rfl,c⟩
  have R:lJ J F n=(zx n).map λa=>(zx n).map λb=>zw F (yt J (xW F a) (xW F b)):=(r _).trans (List.map_congr_left λa _=>r _);have u:((zx n).map λa=>zc ((zx n).map λb=>zw F (yt J (xW F a) (xW F b))))=(lJ J F n).map zc:=by
   rw[R];exact(zyB (g:=zc)).symm
  rw[u]at w;exact w
 have T:=yU (p:=9) Q (zl rfl);have y:WE (zq (yw y0) [none,none,some 1,some 2,some 8] (gT 2 (ye zG (ye (gN 1) xD))) zH (zY (dC zh (dC (zq (yw zj) [none,some 2,some 3,some 4] zG zH (zq (ya xI yb) [none,some 1,some 0,some 3] zG zH (f2 zj (f2 zu (f2 zD zh zk) zk) zk))) dN)))) (Cn s n m J e Ds S F (sT (zc (cH F n))) (sT (zv (lJ J F n))) none none) (.lst ((lD Ds F n).map yh)):=by
  have w:=yy (as:=Cn s n m J e Ds S F (sT (zc (cH F n))) (sT (zv (lJ J F n))) none none) (cap:=[none,none,some 1,some 2,some 8]) (gg:=gT 2 (ye zG (ye (gN 1) xD))) Ds (xM (WD.e (za (i:=6) rfl))) (by omega) λp z=>by
   have B:=A.ds p z;have c:=yy (as:=[sT (.str p.1),sT (zv p.2),sW s (zc F),sI n,sT (zc (cH F n))]) (cap:=[none,some 2,some 3,some 4]) (gg:=gN 0) p.2 (xM (WD.e (za (i:=1) rfl))) (by rw[B.1];omega) λq mq=>by
    have I:=yy (as:=[sT (zc q),sW s (zc F),sI n,sT (zc (cH F n))]) (cap:=[none,some 1,some 0,some 3]) (gg:=gN 0) (zx n) (vb (zg (za (i:=2) rfl) zt) (by omega)) (by rw[k];omega) λa d=>
     ⟨_,rfl,WD.e (zi (za (i:=1) rfl) (zi (za (i:=2) rfl) (zi (za (i:=3) rfl) (za (i:=0) rfl) (o a (zQ d)) rfl) (rowAt (B.2 q mq) (f a (zQ d))).1 rfl) (xa fl (rowAt (B.2 q mq) (f a (zQ d))).2) rfl)⟩
    have u:((zx n).map λa=>D.int (zw F (zw q (xW F a))))=((cH F n).map λa=>zw F (zw q a)).map D.int:=by
     rw[r];exact(zyB).symm
    rw[u]at I;exact⟨_,rfl,I⟩
   rw[show(p.2.map λq=>zc ((cH F n).map λa=>zw F (zw q a)))=(lT p.2 F n).map zc from(zyB (g:=zc)).symm]at c;exact⟨_,rfl,xJ (WD.e (za (i:=0) rfl)) c⟩
  rw[show(Ds.map λp=>yh (p.1,lT p.2 F n))=(lD Ds F n).map yh from(zyB (g:=yh)).symm]at w;exact w
 have C:=yU (p:=10) y (zl rfl);have E:WE (zq (yw yK) [none,none,some 1] (gT 2 (ye zG (ye (gN 1) xD))) zH (zY (dC zh (dC (fP (aC (zq (yw zj) [none,some 2] zG zH (f2 zj zh zk)) aN) Yy) dN)))) (Cn s n m J e Ds S F (sT (zc (cH F n))) (sT (zv (lJ J F n))) (sT (.lst ((lD Ds F n).map yh))) none) (.lst ((lS S F n).map yx)):=by
  have w:=yy (as:=Cn s n m J e Ds S F (sT (zc (cH F n))) (sT (zv (lJ J F n))) (sT (.lst ((lD Ds F n).map yh))) none) (cap:=[none,none,some 1]) (gg:=gT 2 (ye zG (ye (gN 1) xD))) S (xM (WD.e (za (i:=7) rfl))) (by have:=hS.1;omega) λp z=>by
   have G:=hS.2.2 p z;have Y:p.2.length<=n:=by have:=G.length_le;rw[k]at this;exact this
   have c:=yy (as:=[sT (.str p.1),sT (zc p.2),sW s (zc F)]) (cap:=[none,some 2]) (gg:=gN 0) p.2 (xM (WD.e (za (i:=1) rfl))) (by omega) λv U=>
    ⟨_,rfl,WD.e (zi (za (i:=1) rfl) (za (i:=0) rfl) (xa fl (zQ (G.subset U))) rfl)⟩
   rw[show(p.2.map λv=>D.int (zw F v))=(p.2.map (zw F)).map D.int from(zyB).symm]at c;have K:=sO c (by rw[zzB];omega);rw[IY A h G]at K;exact⟨_,rfl,xJ (WD.e (za (i:=0) rfl)) K⟩
  rw[show(S.map λp=>yx (p.1,lV p.2 F n))=(lS S F n).map yx from(zyB (g:=yx)).symm]at w;exact w
 have H:=yU (p:=11) E (zl rfl);exact ym rfl (zd M (zd P (zd T (zd C (zd H (yi (XJ (ze (za rfl) (ze (za rfl) (ze (za rfl) (ze (zi (za rfl) (za rfl) (xa fl L) rfl) (ze (za rfl) (ze (za rfl) zJ)))))) (wC rfl) rfl rfl)))))))
end
def sY{k:Nat}{a:Int}:xk (k+1) (.int a) (.int a)=some true:=by show some (a==a)=_;simp
def pM{k:Nat}{a:Str}:xk (k+1) (.str a) (.str a)=some true:=by show some (a==a)=_;simp
def qG{k:Nat}{r:List Int}:xk (k+2) (zc r) (zc r)=some true:=by
 show GU (xk (k+1)) (r.map D.int) (r.map D.int)=_;refine xB λx m=>?_;obtain⟨i,_,rfl⟩:=zxE.mp m;exact sY
def eqT{k:Nat}{T:TZ}:xk (k+3) (zv T) (zv T)=some true:=by
 show GU (xk (k+2)) (T.map zc) (T.map zc)=_;refine xB λx m=>?_;obtain⟨i,_,rfl⟩:=zxE.mp m;exact qG
def rC{k:Nat}{p:Str×TZ}:xk (k+4) (yh p) (yh p)=some true:=by
 show GU (xk (k+3)) [.str p.1,zv p.2] [.str p.1,zv p.2]=_;refine xB λx m=>?_
 rcases zzC.mp m with rfl|m
 . exact pM
 rcases zzC.mp m with rfl|m
 . exact eqT
 . exact nomatch m
def qd{k:Nat}{p:Str×List Int}:xk (k+3) (yx p) (yx p)=some true:=by
 show GU (xk (k+2)) [.str p.1,zc p.2] [.str p.1,zc p.2]=_;refine xB λx m=>?_
 rcases zzC.mp m with rfl|m
 . exact pM
 rcases zzC.mp m with rfl|m
 . exact qG
 . exact nomatch m
def qR{k:Nat}{Ds:DZ}:xk (k+5) (.lst (Ds.map yh)) (.lst (Ds.map yh))=some true:=by
 show GU (xk (k+4)) (Ds.map yh) (Ds.map yh)=_;refine xB λx m=>?_;obtain⟨i,_,rfl⟩:=zxE.mp m;exact rC
def qX{k:Nat}{S:SS}:xk (k+4) (.lst (S.map yx)) (.lst (S.map yx))=some true:=by
 show GU (xk (k+3)) (S.map yx) (S.map yx)=_;refine xB λx m=>?_;obtain⟨i,_,rfl⟩:=zxE.mp m;exact qd
def q9{k n m:Nat}{J:TZ}{e:Int}{Ds:DZ}{S:SS}:xk (k+6) (zo n m J e Ds S) (zo n m J e Ds S)=some true:=by
 show GU (xk (k+5)) [.int n,.int m,zv J,.int e,.lst (Ds.map yh),.lst (S.map yx)] [.int n,.int m,zv J,.int e,.lst (Ds.map yh),.lst (S.map yx)]=_;refine xB λx m=>?_
 rcases zzC.mp m with rfl|m
 . exact sY
 rcases zzC.mp m with rfl|m
 . exact sY
 rcases zzC.mp m with rfl|m
 . exact eqT
 rcases zzC.mp m with rfl|m
 . exact sY
 rcases zzC.mp m with rfl|m
 . exact qR
 rcases zzC.mp m with rfl|m
 . exact qX
 . exact nomatch m
def Ax{n m:Nat}{J:TZ}{e:Int}{Ds:DZ}{S:SS}{k:Int}(A:Alg n m J e Ds)(sl:Sg n S):∃S':SS,Sg n S'/\RE (XC [(true,zo n m J e Ds S),(true,.int k)]) (zo n m J e Ds S'):=by
 have P:=A.n1;have Q:=A.n8;have b:vS zh (gT 6 (ye (gN 2) (ye (gN 3) (ye vp (ye (gN 5) (ye (gN 6) (ye (gN 7) xD))))))) [sT (zo n m J e Ds S),sI k,none,none,none,none,none,none,none,none]=some (.nx [sT (zo n m J e Ds S),sI k,sI n,sI m,sT (zv J),sI e,sT (.lst (Ds.map yh)),sT (.lst (S.map yx)),none,none]):=RI (WD.e (za rfl)) rfl;have c:WT (fT (f2 (f2 zj yk zB) zX (zy .Eq))) [sT (zo n m J e Ds S),sI k,sI n,sI m,sT (zv J),sI e,sT (.lst (Ds.map yh)),sT (.lst (S.map yx)),none,none] (k%2==0):=zF (yo (yc (za rfl) zb (by decide)) zb rfl) rfl;have d:WT (fT (f2 yK (yF dN) (zy .Eq))) [sT (zo n m J e Ds S),sI k,sI n,sI m,sT (zv J),sI e,sT (.lst (Ds.map yh)),sT (.lst (S.map yx)),none,none] S.isEmpty:=zF (WQ (WD.e (za rfl)) (xu zJ (wC rfl) rfl rfl) (by cases S<;>rfl)) rfl
 by_cases h:(k%2==0)=true
 . exact⟨S,sl,ym rfl (zd b (y7 (wa (Us c (λz=>by rw[h]at z;cases z) (λ_=>rfl)) (yi (WD.e (za rfl))))))⟩
 cases S with
 |nil=>exact⟨[],sl,ym rfl (zd b (y7 (wa (Us c (λ_=>d) (λ_=>rfl)) (yi (WD.e (za rfl))))))⟩
 |cons p S=>
  have s:=Us c (λ_=>d) (λz=>absurd z h);obtain⟨R,T,t,u⟩:=I_ (as:=[sT (zo n m J e Ds (p::S)),sI k,sI n,sI m,sT (zv J),sI e,sT (.lst (Ds.map yh)),sT (.lst ((p::S).map yx)),none,none]) (a:=fV 1) (m:=1) (by omega) (WD.e (za rfl)) (WD.e zb);obtain⟨y,v,_⟩:=at2 t (k:=0) (by omega) (by omega);have w:=yU (p:=8) (sk u (WD.e (zb)) v) (zl rfl);have B:zC n (y%n):=⟨zyN _ (by omega),zyH _ (by omega)⟩;obtain⟨r,f,C⟩:=Qj (g:=gN 0) (as0:=[none,sI n,sT (zv J),sI y]) (tt:=fT (f2 (f2 (f2 zu zh zk) (f2 zD zj zB) zk) (f2 (f2 zD YR zR) zj zB) (zy .Eq))) (xs:=zx n) λx E=>by
   have F:=zQ E;exact⟨[sI x,sI n,sT (zv J),sI y],_,rfl,zF (yo (x_ A.j F B (za rfl) (za rfl) (yc (za rfl) (za rfl) (by omega))) (yc (wN (za rfl) zb (by decide) (zO (by decide) (by decide))) (za rfl) (by omega)) rfl) rfl,za (i:=0) rfl⟩
  rw[<-Jk]at f;have G:=ZX (as:=[sT (zo n m J e Ds (p::S)),sI k,sI n,sI m,sT (zv J),sI e,sT (.lst (Ds.map yh)),sT (.lst ((p::S).map yx)),sI y,none]) (cap:=[none,some 2,some 4,some 8]) (yO (zg (za (i:=2) rfl) zt) (by omega) (by omega)) (by rw[yG];exact LV (by omega)) f;have H:=yU (p:=9) (⟨_,G,(wy r).1,(wy r).2⟩:WE _ _ (zc r)) (zl rfl);obtain⟨l,I,K,L⟩:=xJ (as:=[sT (zo n m J e Ds (p::S)),sI k,sI n,sI m,sT (zv J),sI e,sT (.lst (Ds.map yh)),sT (.lst ((p::S).map yx)),sI y,sT (zc r)]) (a:=f2 (f2 yK zX zk) zX zk) (WD.e (zi (zZ (za rfl) (zb) (Qz rfl)) (zb) rfl rfl)) (WD.e (za (i:=9) rfl));obtain⟨o,M,N,O⟩:=xu (vV I zJ) (wC rfl) (by show(l.str&&true)=true;rw[K];rfl) (by show D.lst [l.toD]=_;rw[L]);refine⟨[(p.1,r)],⟨by show 1<=10;decide,by simp,λq mq=>by rw[zzR.mp mq];exact C⟩,ym rfl (zd b (zd (zL s rfl) (zd w (zd H (yi (XJ (ze (za rfl) (ze (za rfl) (ze (za rfl) (ze (za rfl) (ze (za rfl) (vV M zJ)))))) (wC rfl) (by show(true&&(true&&(true&&(true&&(true&&(o.str&&true))))))=true;rw[N];rfl) (by show D.tup [.int n,.int m,zv J,.int e,.lst (Ds.map yh),o.toD]=_;rw[O];rfl)))))))⟩
def pd{a b:EF}{as:AS}{x y:D}{q:Bool}(ha:WE a as x)(hb:WE b as y)(h:xk 60 x y=some q):WD (f2 a b (zy .NotEq)) as true (.bl (!q)):=FN ha hb (by show(xk 60 x y).bind _=_;rw[h];rfl)
def pK{a:EF}{as:AS}{n:Nat}(hn:n<=1000)(h:WE a as (.int n)):WE (fP (aC a aN) Bw) as (zc (zx n)):=by
 have k:=QH (g:=Bw) (zs:=(zx n).map D.int) h (by
  show(if(0:Int)<=n/\(n:Int)<=100000 then _ else _)=_;rw[if_pos ⟨by omega,by omega⟩,zyB];rfl)
 rw[V8]at k;exact⟨_,k,(wy _).1,(wy _).2⟩
section
variable{n m c:Nat}{J J2:TZ}{e e2:Int}{Ds D2:DZ}{S S2:SS}{r ns F W:List Int}
abbrev TJ(ns:List Int)(A B:D)(r:List Int)(c:Nat)(e5 e6 e7 e8 e9 e10 e11:Option O):AS:=[sT (.lst (ns.map .int)),sT A,sT B,sT (zc r),sI c,e5,e6,e7,e8,e9,e10,e11]
abbrev aB(n m:Nat)(c:Nat)(J:TZ)(e:Int)(Ds:DZ)(S:SS)(r:List Int):D:=zo c m (lJ J r c) (zw r e) (lD Ds r c) (lS S r c)
abbrev pX:SF:=(zm (vS (fP (aC yP (aC zP aN)) K4) (gT 2 (ye (gN 6) (ye (gN 7) xD))))
 (xx (fT (f2 (f2 (zp (aC zu (aC y0 O0)) yY) (zY (dC (fC (.str "alike")) dN)) (zy .Eq)) (f2 y0 yK (zy .Eq)) (zy .NotEq))) (zT (fC (.bl false))) xR))
def pf{as:AS}:WE (zY (dC (fC (.str "alike")) dN)) as (.tup [.str "alike"]):=XJ (ze zb zJ) (wC rfl) rfl rfl
theorem Jp{A0:D}{Rs:TZ}{k:Nat}(A:Alg c m J e Ds)(hF:∀q ∈ Rs,Fm c m J Ds q)(se:∀x y,zC c x->zC c y->(x=y ↔ Ee S Rs k x y)):∀(t:List Int) (e5 e6 e7:Option O),(∀x ∈ t,zC (c*c) x)->∃e5' e6' e7',forL (gN 5) pX (t.map λx=>(true,D.int x)) (TJ ns A0 (zo c m J e Ds S) r c e5 e6 e7 none none none none)=some (.nx (TJ ns A0 (zo c m J e Ds S) r c e5' e6' e7' none none none none))
 | [],a,b,d,_=>⟨a,b,d,rfl⟩
 |x::t,a,b,d,h=>by
  have u:=A.n1;have v:=A.n8;have f:=h x (zzF ..);have g:zC c (x/c):=⟨Int.ediv_nonneg f.1 (by omega),by
   have:=f.2;rw[zzV]at this;exact Int.ediv_lt_of_lt_mul (by omega) this⟩
  have i:zC c (x%c):=⟨zyN _ (by omega),zyH _ (by omega)⟩;obtain⟨j,l,n,o⟩:=Jp A hF se t (sI x) (sI (x/c)) (sI (x%c)) λy p=>h y (zzD _ p);have s:WT (fT (f2 (f2 (zp (aC zu (aC y0 O0)) yY) (zY (dC (fC (.str "alike")) dN)) (zy .Eq)) (f2 y0 yK (zy .Eq)) (zy .NotEq))) (TJ ns A0 (zo c m J e Ds S) r c (sI x) (sI (x/c)) (sI (x%c)) none none none none) false:=by
   rcases O8 A hF se g i with⟨q,w⟩|⟨q,y,z,w⟩
   . exact zF (Wg (WQ (vf (WD.e (za rfl)) (WD.e (za rfl)) (WD.e (za rfl)) w) pf rfl) (yo (c:=true) (za rfl) (za rfl) (by show some (x/(c:Int)==x%c)=_;simp[q])) rfl) rfl
   . exact zF (Wg (WQ (vf (WD.e (za rfl)) (WD.e (za rfl)) (WD.e (za rfl)) w) pf rfl) (yo (c:=false) (za rfl) (za rfl) (by show some (x/(c:Int)==x%c)=_;simp[q])) rfl) rfl
  exact⟨j,l,n,y8 rfl (zV (RI (WD.e (uq (za rfl) (za rfl) (by omega) (by omega))) rfl) (zL s rfl)) o⟩
abbrev oE:SF:=yB (yZ 11 (dC (f2 (fV 10) (f2 (fV 8) (wm .lst zD Hf x6) zk) zk) dN) y9)
theorem JH{A0 B0 C0:D}{e6 e7:Option O}(fl:F.length=n)(wl:W.length=n)(n8:n<=8)(rl:r.length<=1000)(hf:∀v,zC n v->zC n (zw F v)):∀(t l:List Int) (e5:Option O),(∀x ∈ t,x ∈ r/\zC n (xW r x))->l.length+t.length<=100->∃e5',forL (gN 5) oE (t.map λx=>(true,D.int x)) (TJ ns A0 B0 r c e5 e6 e7 (sT (zc F)) (sT C0) (sT (zc W)) (sN (l.map xf)))=some (.nx (TJ ns A0 B0 r c e5' e6 e7 (sT (zc F)) (sT C0) (sT (zc W)) (sN ((l++t.map λk=>zw W (zw F (xW r k))).map xf))))
 | [],l,b,_,_=>⟨b,by rw[List.map_nil,List.map_nil,zyE];rfl⟩
 |x::t,l,b,h,d=>by
  obtain⟨g,e⟩:=h x (zzF ..);obtain⟨m,a⟩:=JH fl wl n8 rl hf t (l++[zw W (zw F (xW r x))]) (sI x) (λy o=>h y (zzD _ o)) (by rw[zzJ];simp only[zzT,List.length_nil]at d ⊢;omega);rw[zxD]at a;refine⟨m,y8 rfl ?_ a⟩;have f:=U2 (i:=11) (as:=TJ ns A0 B0 r c (sI x) e6 e7 (sT (zc F)) (sT C0) (sT (zc W)) (sN (l.map xf))) rfl (zi (za (i:=10) rfl) (zi (za (i:=8) rfl) (JL (i:=3) (j:=5) rl g rfl rfl) (xa fl e) rfl) (xa wl (hf _ e)) rfl) rfl (by rw[zzB];exact xF (by simp only[zzT]at d;omega));rw[show(l.map xf)++[xf (zw W (zw F (xW r x)))]=(l++[zw W (zw F (xW r x))]).map xf from(PR ..).symm]at f;exact f
def tw{as:AS}{i:Nat}{l:List Int}(h:as[i]? = some (sN (l.map xf)))(hl:l.length<64):WE (fP (aC (fV i) aN) Yy) as (zc (sortI l)):=by
 refine⟨.nd .ls ((sortI l).map xf), ?_,(wy _).1,(wy _).2⟩;have b:aC (fV i) aN as=some ([.bo i],as):=by unfold aC;rw[Xc h];rfl
 unfold fP;rw[b];show(views as [.bo i]).bind _=_;unfold views;rw[Zo h];show(Yy [(O.nd .ls (l.map xf)).toD]).bind _=_;rw[(wy l).2];have c:Yy [.lst (l.map D.int)]=some (.fl ((sortI l).map .int)):=by
  show(wL (l.map D.int)).bind _=_;rw[Yc];exact if_pos hl
 rw[c];generalize meet (O.nd .ls (l.map xf)).kl (some true)=a;show(if(((sortI l).map D.int).all zN||a.isSome)=true then some (RV.ow (.nd .ls (((sortI l).map D.int).map (K8 (a.getD false)))))else none).bind _=_;have d:((sortI l).map D.int).all zN=true:=by rw[List.all_map];exact List.all_eq_true.mpr λ_ _=>rfl
 rw[d,zyB];rfl
end
section
variable{n m c:Nat}{J:TZ}{e:Int}{Ds:DZ}{S:SS}{r ns F W:List Int}
def IS{v:Int}(hl:r.length=n)(hv:zC n v):zw r v ∈ r:=by
 have a:v.toNat<r.length:=by have:=hv.1;have:=hv.2;omega
 rw[Zr a];exact zxA a
def CC{x:List Int}:xk 60 (.tup [zo n m J e Ds S,zc x]) (.tup [zo n m J e Ds S,zc x])=some true:=by
 show GU (xk 59) [zo n m J e Ds S,zc x] [zo n m J e Ds S,zc x]=_;refine xB λy a=>?_
 rcases zzC.mp a with rfl|a
 . exact q9
 rcases zzC.mp a with rfl|a
 . exact qG
 . exact nomatch a
end
def Hh:∀ns:List Int,ns.length<=63->G3 [(true,.lst (ns.map .int))]=sT (.bl true):=λns hns=>by
 obtain⟨n,m,J,e,Ds,S0,A,L,hS0,hA⟩:=Ik;obtain⟨c4,h4⟩:=Zp (k:=4) (by omega);obtain⟨c3,h3⟩:=Zp (k:=3) (by omega);obtain⟨S,hS,hFw⟩:=Ax A hS0;obtain⟨c,r,Rs,k,K,C,hL⟩:=RA A L hS;obtain⟨Rs1,k1,C1,se,hLL⟩:=NS A L hS K C;have hP:=Bz A K hS.1;obtain⟨F,hF,hO⟩:=NQ A.n1 A.n8;have KF:Ct n m n J e Ds S F:=Ll A hF;have hR:=RX (s:=true) A hS hF;obtain⟨c',W,Rs2,k2,KW,CW,hW⟩:=RA KF.al (GS A L KF) (P_ KF hS);have hp:=BN A K KF KW C CW;have ec:c=c':=by
  have:=hp.length_eq;rw[zzB,zzB,zzB,zyU,zyU]at this;exact this
 subst ec;have tt:=λv hv=>CJ A K KF C CW (a:=v) hv;have KT:Ct c m c (lJ J r c) (zw r e) (lD Ds r c) (lS S r c) (tN r F W c):=Ll K.al hp;have hE:=O_ A K KF KW KT tt;have hR2:=RX (s:=false) K.al (P_ K hS) hp;have n8:=A.n8;have c8:=K.al.n8;have c1:=K.al.n1;have rl:=K.ln;generalize hT:tN r F W c=T at hp tt KT hE hR2;have tl:=vP hp;have wF:∀as:AS,as[0]? = some (sT (.lst (ns.map .int)))->WE (zp (aC (zp xr Ye) (aC (zp (aC zh (aC xo aN)) zU) aN)) XC) as (zo n m J e Ds S):=λas h0=>vU (xp (WD.e (za h0)) hA) (WD.e (yX (zg (za h0) (zg zb zt)) h4)) hFw;have s1:=yU (p:=1) (as:=[sT (.lst (ns.map .int)),none,none,none,none,none,none,none,none,none,none,none]) (wF _ rfl) (zl rfl);have s2:vS (zp yS yr) (gT 2 (ye (gN 2) (ye (gN 3) xD))) [sT (.lst (ns.map .int)),sT (zo n m J e Ds S),none,none,none,none,none,none,none,none,none,none]=some (.nx [sT (.lst (ns.map .int)),sT (zo n m J e Ds S),sT (aB n m c J e Ds S r),sT (zc r),none,none,none,none,none,none,none,none]):=RI (xp (WD.e (za rfl)) hL) rfl;have s4:zz true 4 (f2 zu zX zk) [sT (.lst (ns.map .int)),sT (zo n m J e Ds S),sT (aB n m c J e Ds S r),sT (zc r),none,none,none,none,none,none,none,none]=some (.nx (TJ ns (zo n m J e Ds S) (aB n m c J e Ds S r) r c none none none none none none none)):=yj (zi (za rfl) zb rfl rfl) (zl rfl);have t5:WT (XM (fT (f2 (zp xI yr) (zY (dC zu (dC (fP (aC zP aN) Bw) dN))) (zy .NotEq))) (YN (fT (zp (aC zj (aC zu Yk)) wI)))) (TJ ns (zo n m J e Ds S) (aB n m c J e Ds S r) r c none none none none none none none) false:=Us (zF (pd (xp (WD.e (za rfl)) hLL) (xJ (WD.e (za rfl)) (pK (by omega) (WD.e (za rfl)))) CC) rfl) (λ_=>Ti (k:=true) (zF (yX (zg (za rfl) (zg (za rfl) (zg (za rfl) zt))) hP) rfl)) (λz=>nomatch z);obtain⟨e5,e6,e7,hf⟩:=Jp K.al C1.F se (zx (c*c)) none none none λx mx=>zQ mx;have cc:=Nat.mul_le_mul c8 c8;have wr:WA (aC (f2 zP zP zE) aN) (TJ ns (zo n m J e Ds S) (aB n m c J e Ds S r) r c none none none none none none none) [(true,.int ((c*c:Nat):Int))]:=by
  rw[zzV];exact zg (yV (za rfl) (za rfl) (zO (by omega) (by omega)) (zO (by omega) (by omega))) zt
 have s6:=yH (vb wr (by omega)) hf;have w8:WE (zp (aC (zp (aC zh (aC xv aN)) zU) (aC (f2 zj zX zk) aN)) w_) (TJ ns (zo n m J e Ds S) (aB n m c J e Ds S r) r c e5 e6 e7 none none none none) (zc F):=vU (WD.e (yX (zg (za rfl) (zg zb zt)) h3)) (WD.e (zi (za rfl) (zb) rfl rfl)) hO;have s8:=yU (p:=8) w8 (zl rfl);generalize hC:zo c m (lJ (lJ J F n) W c) (zw W (zw F e)) (lD (lD Ds F n) W c) (lS (lS S F n) W c)=C0 at hW hE;have s9:vS (zp (aC (zp (aC zj (aC (fV 8) aN)) xl) aN) yr) (gT 2 (ye (gN 9) (ye (gN 10) xD))) (TJ ns (zo n m J e Ds S) (aB n m c J e Ds S r) r c e5 e6 e7 (sT (zc F)) none none none)=some (.nx (TJ ns (zo n m J e Ds S) (aB n m c J e Ds S r) r c e5 e6 e7 (sT (zc F)) (sT C0) (sT (zc W)) none)):=RI (xp (vU (WD.e (za rfl)) (WD.e (za rfl)) hR) hW) (by rw[<-hC];rfl);have t10:WT (fT (f2 (f2 (fV 9) zX zk) zP (zy .NotEq))) (TJ ns (zo n m J e Ds S) (aB n m c J e Ds S r) r c e5 e6 e7 (sT (zc F)) (sT C0) (sT (zc W)) none) false:=zF (Wg (c:=true) (zi (za rfl) zb (by rw[<-hC];rfl) rfl) (za rfl) (by show some ((c:Int)==c)=_;simp)) rfl;have s11:=yI (i:=11) (as:=TJ ns (zo n m J e Ds S) (aB n m c J e Ds S r) r c e5 e6 e7 (sT (zc F)) (sT C0) (sT (zc W)) none) (xt zJ (wC rfl)) (zl rfl);obtain⟨f5,hu⟩:=JH (r:=r) KF.ln KW.ln n8 (by omega) KF.i1 (zx c) [] e5 (λx mx=>by
  obtain⟨i1,i2⟩:=K.ix x (zQ mx);have:=IS rl i1;rw[i2]at this;exact⟨this,i1⟩) (by rw[zzB,zyU];show 0+c<=100;omega)
 rw[List.nil_append,show((zx c).map λk=>zw W (zw F (xW r k)))=T from hT]at hu;have s12:=yH (vb (zg (za (i:=4) rfl) zt) (by omega)) hu;have w1:WE (zq (ya (aC (f2 zj zX zk) aN) yb) [none,some 10,some 8] zG zH (f2 zj (f2 zu zh zk) zk)) (TJ ns (zo n m J e Ds S) (aB n m c J e Ds S r) r c f5 e6 e7 (sT (zc F)) (sT C0) (sT (zc W)) (sN (T.map xf))) (zc (r.map (zw T))):=by
  have w:=yy (as:=TJ ns (zo n m J e Ds S) (aB n m c J e Ds S r) r c f5 e6 e7 (sT (zc F)) (sT C0) (sT (zc W)) (sN (T.map xf))) (cap:=[none,some 10,some 8]) (gg:=gN 0) (zx n) (vb (zg (zi (g:=zk) (za (i:=1) rfl) (zb (x:=.int 0)) rfl rfl) zt) (by omega)) (by rw[zzB,zyU];omega) λv mv=>
   ⟨_,rfl,WD.e (zi (za (i:=1) rfl) (zi (za (i:=2) rfl) (za (i:=0) rfl) (xa KF.ln (zQ mv)) rfl) (xa KW.ln (KF.i1 v (zQ mv))) rfl)⟩
  have e1:((zx n).map λv=>D.int (zw W (zw F v)))=(r.map (zw T)).map D.int:=by
   conv=>rhs;rw[<-B_ rl,zyB,zyB]
   exact List.map_congr_left λv mv=>congrArg D.int (tt v (zQ mv)).symm
  rw[e1]at w;exact w
 have w2:WE (zq (yw zD) [none,some 11] zG zH (f2 zj zh zk)) (TJ ns (zo n m J e Ds S) (aB n m c J e Ds S r) r c f5 e6 e7 (sT (zc F)) (sT C0) (sT (zc W)) (sN (T.map xf))) (zc (r.map (zw T))):=by
  have w:=yy (as:=TJ ns (zo n m J e Ds S) (aB n m c J e Ds S r) r c f5 e6 e7 (sT (zc F)) (sT C0) (sT (zc W)) (sN (T.map xf))) (cap:=[none,some 11]) (gg:=gN 0) r (xM (WD.e (za (i:=3) rfl))) (by omega) λx mx=>by
   refine⟨_,by show some [sI x,sW false (O.nd .ls (T.map xf)).toD]=_;rw[(wy T).2],WD.e (zi (za (i:=1) rfl) (za (i:=0) rfl) (xa tl ?_) rfl)⟩;obtain⟨i,hi⟩:=List.mem_iff_getElem?.mp mx;have hk:=(zzG.mp hi).1;have:=K.i1 (i:Int) ⟨by omega,by omega⟩
   rwa [BR hi]at this
  rw[show(r.map λv=>D.int (zw T v))=(r.map (zw T)).map D.int from(zyB).symm]at w;exact w
 have t13:=zF (pd w1 w2 MO) rfl;obtain⟨o,o1,o2,o3⟩:=hR2;have w3:WE (zp (aC zu (aC yz aN)) xl) (TJ ns (zo n m J e Ds S) (aB n m c J e Ds S r) r c f5 e6 e7 (sT (zc F)) (sT C0) (sT (zc W)) (sN (T.map xf))) C0:=by
  refine⟨o,He rfl ?_ o1,o2,o3.trans hE⟩;show some [(true,aB n m c J e Ds S r),(false,(O.nd .ls (T.map xf)).toD)]=_;rw[(wy T).2]
 have w4:WD (f2 (fP (aC yz aN) Yy) (fP (aC zP aN) Bw) (zy .Eq)) (TJ ns (zo n m J e Ds S) (aB n m c J e Ds S r) r c f5 e6 e7 (sT (zc F)) (sT C0) (sT (zc W)) (sN (T.map xf))) true (.bl true):=by
  have ws:=tw (as:=TJ ns (zo n m J e Ds S) (aB n m c J e Ds S r) r c f5 e6 e7 (sT (zc F)) (sT C0) (sT (zc W)) (sN (T.map xf))) (i:=11) rfl (by omega);rw[Sf hp]at ws;exact WQ ws (pK (by omega) (WD.e (za rfl))) MO
 refine vr rfl (zV s1 (zV s2 (zV s4 (zV (zL t5 rfl) (zV s6 (zV s8 (zV s9 (zV (zL t10 rfl) (zV s11 (zV s12 (zV (zL t13 rfl) (wq (RS w4 (λ_=>WQ w3 (WD.e (za rfl)) ?_) (λz=>nomatch z))))))))))))));rw[<-hC];exact q9
end G57
end
end
open PySem PySem.W PyProof.Rows
set_option maxRecDepth 100000 in
set_option maxHeartbeats 0 in
theorem PySem.Challenge.cw_stretchdeeds_k57_least_of_least_holds : PySem.Challenge.rw_stretchdeeds_k57_least_of_least.Holds := by
 w_on;refine holds_law G57.ws λsaid=>?_
 refine holds_open (q:=G57.qv) (loose:=[]) (Xt:=G57.Xt) (XP:=XL G57.qv []) (Yf:=Hook.obs (kHook G57.K G57.kA G57.kAe)) (Ya:=Hook.val (kHook G57.K G57.kA G57.kAe)) (YP:=Hook.says (kHook G57.K G57.kA G57.kAe)) (N:=6000) G57.hl (Hook.of (kHook G57.K G57.kA G57.kAe)) (Hook.keeps (kHook G57.K G57.kA G57.kAe)) (λs e=>xl_of s (Bool.and_eq_true_iff.mp e).1) XL.keeps (by rfl) (by rfl) (by rfl) (λs e=>recFacts_of (Bool.and_eq_true_iff.mp e).2) (by rfl) (by first|assumption|decide +kernel) (by decide +kernel) ⟨rfl,rfl,rfl,rfl,rfl,by decide +kernel⟩ ?hw ?hc
 (case hw=>w_witness2)
 k_fill
 refine G57.walk (l:=PySem.Challenge.rw_stretchdeeds_k57_least_of_least) rfl rfl (λw h Y=>PySem.W.kIn_of Y) G57.Hh ?F
 case F=>
  intro w mg fa h KX G hmg;refine' G57.Do KX G hmg ?_ ?_ ?_ ?_ ?_ ?_ ?_ ?_ ?_ ?_ ?_ ?_ ?_ ?_ ?_ ?_ ?_ ?_ ?_ ?_ ?_ ?_ ?_ ?_ ?_ ?_ ?_ ?_ ?_ ?_ ?_ ?_ ?_ ?_ ?_ ?_ ?_ ?_ ?_ ?_ ?_ ?_ ?_ ?_ ?_ ?_ ?_ ?_ ?_ ?_ ?_ ?_ ?_ ?_ ?_ ?_ ?_ ?_ ?_ ?_ ?_ ?_ ?_
  all_goals try first|k_is|(change _=_;k_is)|exact⟨_,⟨_,_,_,_,_,_,_,_,_,rfl,by k_is,by k_is⟩,by k_is⟩|(refine⟨?_, ?_⟩;(change _=_;k_is);exact⟨_,⟨_,_,_,_,_,_,_,_,_,rfl,by k_is,by k_is⟩,by k_is⟩)|rfl
#print axioms PySem.Challenge.cw_stretchdeeds_k57_least_of_least_holds
