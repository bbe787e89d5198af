import PyProof.Rows.All
import Wide.All
import OpenK.AllK
import PySem.Challenge.RW_stretchdeeds_k53_least_algebras
set_option Elab.async false
set_option linter.all false
set_option maxRecDepth 100000
set_option genSizeOf false
set_option compiler.extract_closed false
set_option bootstrap.genMatcherCode false
noncomputable section
abbrev zzA:=PySem.W.Frag
abbrev zzB:=@List.length_map
abbrev zzC:=@List.mem_cons
abbrev zzD:=@List.mem_cons_of_mem
abbrev zzE:=@List.getElem?_eq_getElem
abbrev zzF:=@List.mem_cons_self
abbrev zzG:=@List.getElem?_eq_some_iff
abbrev zzH:=@List.size_toArray
abbrev zzI:=@List.getElem?_map
abbrev zzJ:=@List.length_append
abbrev zzK:=@Nat.lt_of_lt_of_le
abbrev zzL:=@List.mem_append_right
abbrev zzM:=@List.mem_append
abbrev zzN:=@Nat.le_refl
abbrev zzO:=@Nat.le_trans
abbrev zzP:=@List.mem_append_left
abbrev zzQ:=@Nat.ne_of_lt
abbrev zzR:=@List.mem_singleton
abbrev zzS:=@List.length_take
abbrev zzT:=@List.length_cons
abbrev zzU:=@List.length_set
abbrev zzV:=@Int.natCast_mul
abbrev zzW:=@List.nodup_cons
abbrev zzX:=@Option.map_eq_some_iff
abbrev zzY:=@List.getElem?_set_ne
abbrev zzZ:=@Option.some.inj
abbrev zyA:=@List.mem_of_getElem?
abbrev zyB:=@List.map_map
abbrev zyC:=@Bool.and_eq_true
abbrev zyD:=@Bool.or_true
abbrev zyE:=@List.append_nil
abbrev zyF:=@List.getD_eq_getElem?_getD
abbrev zyG:=@decide_eq_false
abbrev zyH:=@Int.emod_lt_of_pos
abbrev zyI:=@Int.toNat_natCast
abbrev zyJ:=@List.nodup_nil
abbrev zyK:=@List.getElem?_set_self
abbrev zyL:=@Option.bind_some
abbrev zyM:=@List.map_append
abbrev zyN:=@Int.emod_nonneg
abbrev zyO:=@decide_eq_true
abbrev zyP:=@List.getElem?_append_left
abbrev zyQ:=@List.drop_eq_getElem_cons
abbrev zyR:=@List.getElem?_append_right
abbrev zyS:=@List.map_cons
abbrev zyT:=@Array.length_toList
abbrev zyU:=@List.length_range
abbrev zyV:=@List.getElem?_of_mem
abbrev zyW:=@Bool.false_ne_true
abbrev zyX:=@Nat.le_succ
abbrev zyY:=@Nat.zero_add
abbrev zyZ:=@Int.toNat_of_nonneg
abbrev zxA:=@List.getElem_mem
abbrev zxB:=@Nat.lt_succ_of_lt
abbrev zxC:=@List.not_mem_nil
abbrev zxD:=@List.append_assoc
abbrev zxE:=@List.mem_map
abbrev zxF:=@List.nodup_append
abbrev zxG:=@PySem.wpAny_bind
abbrev zxH:=@PySem.wpAny_pure
abbrev zxI:=@PySem.Heap.get?_push_of_some
abbrev zxJ:=@PySem.Heap.lt_size
abbrev zxK:=@PySem.Heap.get?_push_size
abbrev zxL:=@PySem.wpAny_newObj_type
abbrev zxM:=@PySem.wpAny_holding
abbrev zxN:=@PySem.Heap.size_push
abbrev zxO:=@PySem.wpAny_mono
section
namespace L2
open PySem PySem.Spec PyProof.Rows
abbrev Key:=Sum Int Str
def UT:Key->Value->Bool
 | .inl k,.bool b=>(if b then 1 else 0)==k
 | .inl k,v=>Value.isInt k v
 | .inr x,v=>Value.isStrOf x v
def q_(w:World):Key->Int
 | .inl k=>hashInt k
 | .inr x=>hashStr w x
def yV:∀{k:Key}{v:Value},UT k v=true->(∃i t,k=Sum.inl i/\v=Value.int i t)\/(∃x t,k=Sum.inr x/\v=Value.str x t)\/(∃b,k=Sum.inl (if b=true then 1 else 0)/\v=Value.bool b)
 | .inl i,v,h=>by
  by_cases hb:∃b,v=Value.bool b
  . obtain⟨b,rfl⟩:=hb;have h:((if b=true then 1 else 0)==i)=true:=h;exact .inr<|.inr ⟨b,by rw[eq_of_beq h],rfl⟩
  . have h':Value.isInt i v=true:=by
     cases v<;>first|exact h|exact(hb ⟨_,rfl⟩).elim
    obtain⟨t,e⟩:=Value.isInt_shape (k:=i) (v:=v) h';exact .inl ⟨i,t,rfl,e⟩
 | .inr x,v,h=>by
  obtain⟨t,e⟩:=Value.isStrOf_shape (x:=x) (v:=v) h;exact .inr<|.inl ⟨x,t,rfl,e⟩
def Ha(b:Bool):UT (.inl (if b=true then 1 else 0)) (.bool b)=true:=by simp[UT]
def BR(i:Int)(t:Tok):UT (.inl i) (.int i t)=true:=by simp[UT,Value.isInt]
def BC(x:Str)(t:Tok):UT (.inr x) (.str x t)=true:=by simp[UT,Value.isStrOf]
def Lw(a b:Int):decide ((Sum.inl a:Key)=Sum.inl b)=(a==b):=by
 by_cases e:a=b
 . subst e;simp
 . have h:¬(Sum.inl a:Key)=Sum.inl b:=λq=>e<|Sum.inl.inj q;rw[zyG h];exact(beq_eq_false_iff_ne.mpr e).symm
def J0(a b):decide ((Sum.inr a:Key)=Sum.inr b)=decide (a=b):=by
 by_cases e:a=b
 . subst e;simp
 . have h:¬(Sum.inr a:Key)=Sum.inr b:=λq=>e<|Sum.inr.inj q;rw[zyG h,zyG e]
def Hr(a)(b):decide ((Sum.inl a:Key)=Sum.inr b)=false:=zyG (λq=>nomatch q)
def Hm(a)(b):decide ((Sum.inr a:Key)=Sum.inl b)=false:=zyG (λq=>nomatch q)
def Ck{prog:Program}{w:World}{A:Around}{E:Value->Shared->Prop}{s:Shared}{b:Bool}{Q:Int->Shared->Prop}(h:Q (hashInt (if b=true then 1 else 0)) {s with toks:=s.toks+1}):wpAny (model prog w) A (PySem.pyHash<|.bool b) Q E s:=by
 refine W.pyHash_slot (B:=_) (v:=.bool b) rfl PySem.F.slot_bool_hash entry_int_hash (args_int_hash _) (beq_builtin_none _) (.inl rfl) ?_;have one:∀n:Int,Q (PySem.reduceHash n) {s with toks:=s.toks+1}->wpAny (model prog w) A.in1 (do ret (<-mkInt n)) (λfin s'=>∃n t,fin = .done (.ret<|.int n t)/\Q (PySem.reduceHash n) s') E s:=λn z=>zxG<|wpAny_mkInt<|zxH ⟨_,_,rfl,z⟩;cases b with
 |false=>exact one 0 h
 |true=>exact one 1 h
def xi(prog:Program)(w:World):PySem.KeyKind prog w Key where
 is:=UT
 hash:=q_ w
 inj:=λv a b ha hb=>by
  rcases yV ha with⟨i,t,rfl,rfl⟩|⟨x,t,rfl,rfl⟩|⟨c,rfl,rfl⟩
  . rcases yV hb with⟨j,u,rfl,e⟩|⟨y,u,rfl,e⟩|⟨d,rfl,e⟩
    . injection e with e1 _;rw[e1]
    . exact nomatch e
    . exact nomatch e
  . rcases yV hb with⟨j,u,rfl,e⟩|⟨y,u,rfl,e⟩|⟨d,rfl,e⟩
    . exact nomatch e
    . injection e with e1 _;rw[e1]
    . exact nomatch e
  . rcases yV hb with⟨j,u,rfl,e⟩|⟨y,u,rfl,e⟩|⟨d,rfl,e⟩
    . exact nomatch e
    . exact nomatch e
    . injection e with e1;rw[e1]
 byValue:=λk v h=>by
  rcases yV h with⟨i,t,rfl,rfl⟩|⟨x,t,rfl,rfl⟩|⟨c,rfl,rfl⟩<;>rfl
 pyHash:=λhv h=>by
  rcases yV hv with⟨i,t,rfl,rfl⟩|⟨x,t,rfl,rfl⟩|⟨c,rfl,rfl⟩
  . exact wpAny_pyHash_int h
  . exact wpAny_pyHash_str h
  . exact Ck h
 eqBool:=λhu hv h=>by
  rcases yV hu with⟨i,t,rfl,rfl⟩|⟨x,t,rfl,rfl⟩|⟨c,rfl,rfl⟩
  . rcases yV hv with⟨j,u,rfl,rfl⟩|⟨y,u,rfl,rfl⟩|⟨d,rfl,rfl⟩
    . rw[Lw]at h;exact wpAny_eqBool_int h
    . rw[Hr]at h;exact SeqAt.EqAt.int_str i t y u _ _ _ _ h
    . rw[Lw]at h;exact SeqAt.EqAt.int_bool i t d _ _ _ _ h
  . rcases yV hv with⟨j,u,rfl,rfl⟩|⟨y,u,rfl,rfl⟩|⟨d,rfl,rfl⟩
    . rw[Hm]at h;exact SeqAt.EqAt.str_int x t j u _ _ _ _ h
    . rw[J0]at h;exact wpAny_eqBool_str h
    . rw[Hm]at h;exact SeqAt.EqAt.str_bool x t d _ _ _ _ h
  . rcases yV hv with⟨j,u,rfl,rfl⟩|⟨y,u,rfl,rfl⟩|⟨d,rfl,rfl⟩
    . rw[Lw]at h;exact SeqAt.EqAt.bool_int c j u _ _ _ _ h
    . rw[Hr]at h;exact SeqAt.EqAt.bool_str c y u _ _ _ _ h
    . rw[Lw]at h;exact SeqAt.EqAt.bool_bool c d _ _ _ _ (by
       have e:(((if c=true then 1 else 0:Int))==(if d=true then 1 else 0))=(c==d):=by cases c<;>cases d<;>rfl
       rw[e]at h;exact h)
 «strs» := λk x t v h=>by
  rcases yV h with⟨i,u,rfl,e⟩|⟨y,u,rfl,e⟩|⟨d,rfl,e⟩
  . exact nomatch e
  . injection e with e1 _
    subst e1;cases v<;>rfl
  . exact nomatch e
def NN(prog)(w)(i)(t):(xi prog w).is (.inl i) (.int i t)=true:=BR i t
def XI(prog)(w)(x)(t):(xi prog w).is (.inr x) (.str x t)=true:=BC x t
end L2
namespace L2
open PySem PySem.Spec PyProof.Rows
inductive V where
 |non|bl (b:Bool)|int (i:Int)|str (x:Str)|byt (b:Array UInt8)|flt (b:UInt64)|ref (a:Addr)|ty (n:String)
 deriving DecidableEq
def RelV:V->Value->Prop
 | .non,u=>u=Value.none
 | .bl b,u=>u=Value.bool b
 | .int i,u=>∃t,u=Value.int i t
 | .str x,u=>∃t,u=Value.str x t
 | .byt b,u=>∃t,u=Value.bytes b t
 | .flt b,u=>∃t,u=Value.float b t
 | .ref a,u=>u=Value.ref a
 | .ty n,u=>u=Value.type n
abbrev yd:List V->List Value->Prop:=Paired RelV
theorem yd.length(r:yd xs us):xs.length=us.length:=Paired.length r
theorem yd.get:∀{xs:List V}{us:List Value}{i:Nat}{x:V},yd xs us->xs[i]? = some x->∃u,us[i]? = some u/\RelV x u
 |_,_,_,_,.nil,e=>by simp at e
 |_,_,0,_,.cons r _,e=>by simp at e;subst e;exact⟨_,rfl,r⟩
 |_,_,i+1,x,.cons _ t,e=>by
  obtain⟨u,h1,h2⟩:=yd.get t (by simpa using e);exact⟨u,by simpa using h1,h2⟩
theorem yd.set(r:RelV x u):∀{xs:List V}{us:List Value}(i:Nat),yd xs us->yd (xs.set i x) (us.set i u)
 |_,_,_,.nil=>.nil
 |_,_,0,.cons _ t=>.cons r t
 |_,_,i+1,.cons q t=>.cons q<|yd.set r i t
theorem yd.append:∀{xs ys:List V}{us ws:List Value},yd xs us->yd ys ws->yd (xs++ys) (us++ws)
 |_,_,_,_,.nil,s=>s
 |_,_,_,_,.cons r t,s=>.cons r<|yd.append t s
theorem yd.take:∀{xs:List V}{us:List Value}(n:Nat),yd xs us->yd (xs.take n) (us.take n)
 |_,_,0,_=>.nil
 |_,_,_+1,.nil=>.nil
 |_,_,n+1,.cons r t=>.cons r<|yd.take n t
theorem yd.drop:∀{xs:List V}{us:List Value}(n:Nat),yd xs us->yd (xs.drop n) (us.drop n)
 |_,_,0,r=>r
 |_,_,_+1,.nil=>.nil
 |_,_,n+1,.cons _ t=>yd.drop n t
def PZ:Option V->Option Value->Prop
 |some v,some u=>RelV v u
 |none,none=>True
 |_,_=>False
def KV{κ:Type}:List (κ×V)->List (κ×Value)->Prop:=Paired λ(p:κ×V) (q:κ×Value)=>p.1=q.1/\RelV p.2 q.2
def kV:Key->V
 | .inl i=>.int i
 | .inr x=>.str x
inductive HO where
 |lst (xs:List V)
 |tup (xs:List V)
 |dK (kvs:List (Key×V))|dT (kvs:List (List Key×V))
 |set (S:Int->Bool) (n:Nat)
 |ins (C dx:Addr) (fs:List (Str×V))
 |own (x:Addr)
 |xd (fs:List (Str×V))
 |met (f x:Addr)
 |rng (lo hi:Int)
 |frz (o:Obj) (u:HO)
 |tbl (ps:Array Value)
 |ext (φ:Heap->Prop)
abbrev Hp:=Addr->Option HO
def upd(H:Hp)(a:Addr)(o:HO):Hp:=λb=>if b=a then some o else H b
def yp:upd H a o a=some o:=by unfold upd;rw[if_pos rfl]
def zJ(h:b≠a):upd H a o b=H b:=by unfold upd;rw[if_neg h]
def sA{H:Hp}{a b o u}(h:H a=some o)(h':H b=some u)(d:o≠u):a≠b:=by
 intro e;subst e;rw[h]at h';exact d<|zzZ h'
def yE{H:Hp}{a b o}(h:H a=some o)(h':H b=none):a≠b:=by
 intro e;subst e;rw[h]at h';cases h'
def kO:V->Option Key
 | .int i=>some (.inl i) | .str x=>some (.inr x) | .bl b=>some (.inl (if b=true then 1 else 0))|_=>none
def KC(H:Hp)(b:Addr)(k:List Key):Prop:=∃vs,H b=some (.tup vs)/\vs.map kO=k.map some
def KC.mono{H H':Hp}{b:Addr}{k:List Key}(h:KC H b k)(ht:∀ys,H b=some (.tup ys)->H' b=some (.tup ys)):KC H' b k:=let⟨vs,h1,h2⟩:=h;⟨vs,ht _ h1,h2⟩
section
variable(P:Program)(w:World)
def xR(H:Hp)(h:Heap)(a:Addr):HO->Prop
 | .lst xs=>xs.length<=sizeLine/\∃(its:List Value) (n:Nat),yd xs its/\h.get? a=some {cls:=.type "list",data:=.seq its.toArray n}
 | .tup xs=>xs.length<=sizeLine/\∃its:List Value,yd xs its/\IsTup h a its.toArray
 | .dK kvs=>kvs.length<=sizeLine/\(a==sysModules)=false/\∃vs,KV kvs vs/\h.DictOf (xi P w) a vs
 | .dT kvs=>kvs.length<=sizeLine/\(a==sysModules)=false/\∃xs:List (List Key×Addr×Value),
  Paired (λ(p:List Key×V) (q:List Key×Addr×Value)=>p.1=q.1/\KC H q.2.1 p.1/\RelV p.2 q.2.2) kvs xs/\
  ∃o es ep,h.get? a=some o/\o.ExactDict/\o.data = .dict es ep/\es.toList=xs.map (entryOfKey<|tupleKind<|xi P w)/\(xs.map (·.1)).Nodup
 | .set S n=>h.SetOf (intKind P w) a S n
 | .ins C dx fs=>H dx=some (.own a)/\fs.length<=1000/\dx≠a/\h.get? a=some (W.instObj C dx)/\
  ∃mA,h.Ns1 dx mA/\(∀f,PZ (fs.lookup f)<|mA f)/\PySem.Within mA (fs.map (·.1))
 | .own _=>∃o,h.get? a=some o
 | .xd fs=>∃mA,h.Ns1 a mA/\∀f,PZ (fs.lookup f)<|mA f
 | .rng lo hi=>∃t u v,h.get? a=some {cls:=.type "range",data:=.fields #[.int lo t,.int hi u,.int 1 v]}
 | .frz o u=>h.get? a=some o/\xR H h a u
 | .tbl ps=>h.get? a=some {cls:=.none,data:=.fields ps}
 | .met f x=>h.get? a=some (W.methodObj (.ref f)<|.ref x)
 | .ext φ=>φ h/\(∃o,h.get? a=some o)/\∀h1 h2:Heap,φ h1->(∀o,h1.get? a=some o->h2.get? a=some o)->φ h2
def QJ(H:Hp)(h:Heap):Prop:=∀a o,H a=some o->xR P w H h a o
end
section
variable{P:Program}{w:World}{H H':Hp}{h h':Heap}{a:Addr}{o:HO}
theorem xR.lt(x:xR P w H h a o):a<h.objs.size:=by
 cases o with
 |lst xs=>obtain⟨_,_,_,_,e⟩:=x;exact zxJ e
 |tup xs=>obtain⟨_,_,_,p⟩:=x;exact p.lt
 |dK kvs=>obtain⟨_,_,_,_,o,_,_,e,_⟩:=x;exact zxJ e
 |dT kvs=>obtain⟨_,_,_,_,o,_,_,e,_⟩:=x;exact zxJ e
 |set S n=>obtain⟨o,_,_,_,e,_⟩:=x;exact zxJ e
 |ins C dx fs=>obtain⟨_,_,_,e,_⟩:=x;exact zxJ e
 |own y=>obtain⟨_,e⟩:=x;exact zxJ e
 |xd fs=>obtain⟨_,⟨_,_,_,e,_⟩,_⟩:=x;exact zxJ e
 |rng lo hi=>obtain⟨_,_,_,e⟩:=x;exact zxJ e
 |frz ob u=>obtain⟨e,_⟩:=x;exact zxJ e
 |tbl ps=>exact zxJ (x)
 |met f y=>exact zxJ (x)
 |ext φ=>obtain⟨_,⟨_,e⟩,_⟩:=x;exact zxJ e
theorem Paired.mapP:∀{l₁:List α}{l₂:List β},Paired F l₁ l₂->(∀a b,F a b->G a b)->Paired G l₁ l₂
 |_,_,.nil,_=>.nil
 |_,_,.cons r t,f=>.cons (f _ _ r)<|Paired.mapP t f
def xR.stay(x:xR P w H h a o)(k:∀b u,(b=a\/H b=some (.own a))->h.get? b=some u->h'.get? b=some u)
 (ho:∀b,H b=some (.own a)->H' b=some (.own a)) (ht:∀b xs,H b=some (.tup xs)->H' b=some (.tup xs)):xR P w H' h' a o:=by
 induction o with
 |lst xs=>obtain⟨z,its,n,r,e⟩:=x;exact⟨z,its,n,r,k _ _ (.inl rfl) e⟩
 |tup xs=>obtain⟨z,its,r,ob,e,c⟩:=x;exact⟨z,its,r,ob,k _ _ (.inl rfl) e,c⟩
 |dK kvs=>obtain⟨z,y,vs,r,ob,es,ep,e,c⟩:=x;exact⟨z,y,vs,r,ob,es,ep,k _ _ (.inl rfl) e,c⟩
 |dT kvs=>
  obtain⟨z,y,xs,r,ob,es,ep,e,c⟩:=x;exact⟨z,y,xs,Paired.mapP r λp q z=>⟨z.1,z.2.1.mono λys=>ht _ ys,z.2.2⟩,ob,es,ep,k _ _ (.inl rfl) e,c⟩
 |set S n=>obtain⟨ob,es,ep,t,e,c⟩:=x;exact⟨ob,es,ep,t,k _ _ (.inl rfl) e,c⟩
 |ins C dx fs=>
  obtain⟨d,z,ne,e,mA,⟨od,es,ep,e2,c⟩,r⟩:=x;exact⟨ho _ d,z,ne,k _ _ (.inl rfl) e,mA,⟨od,es,ep,k _ _ (.inr d) e2,c⟩,r⟩
 |own y=>obtain⟨ob,e⟩:=x;exact⟨ob,k _ _ (.inl rfl) e⟩
 |xd fs=>obtain⟨mA,⟨od,es,ep,e,c⟩,r⟩:=x;exact⟨mA,⟨od,es,ep,k _ _ (.inl rfl) e,c⟩,r⟩
 |rng lo hi=>obtain⟨t,u,v,e⟩:=x;exact⟨t,u,v,k _ _ (.inl rfl) e⟩
 |frz ob u ih=>obtain⟨e,q⟩:=x;exact⟨k _ _ (.inl rfl) e,ih q⟩
 |tbl ps=>
  have e:=x;exact k a _ (.inl rfl) e
 |met f y=>
  have e:=x;exact k a _ (.inl rfl) e
 |ext φ=>obtain⟨p,⟨o,e⟩,st⟩:=x;exact⟨st _ _ p λo q=>k _ _ (.inl rfl) q,⟨o,k _ _ (.inl rfl) e⟩,st⟩
theorem QJ.lt(x:QJ P w H h)(e:H a=some o):a<h.objs.size:=(x a o e).lt
def QJ.fresh(x:QJ P w H h)(e:h.objs.size<=a):H a=none:=by
 cases q:H a with
 |none=>rfl
 |some u=>exact absurd (zzK (x.lt q) e) (Nat.lt_irrefl _)
def QJ.kept(x:QJ P w H h)(k:∀b u,h.get? b=some u->h'.get? b=some u):QJ P w H h':=λa o e=>
 (x a o e).stay (λb u _ q=>k b u q) (λ_ q=>q) λ_ _ q=>q
def QJ.laid(x:QJ P w H h)(k:∀b u,h.get? b=some u->h'.get? b=some u)(hp:h.objs.size<=a)(new:xR P w (upd H a o) h' a o):QJ P w (upd H a o) h':=λb u e=>by
 have hn:=x.fresh hp
 by_cases hb:b=a
 . subst hb;rw[yp]at e;cases e;exact new
 . rw[zJ hb]at e;exact(x b u e).stay (λc v _ q=>k c v q) (λc q=>by rw[zJ<|yE q hn];exact q) λc xs q=>by rw[zJ<|yE q hn];exact q
end
def Rd(H:Hp)(a:Addr)(u:HO):Prop:=H a=some u\/∃o,H a=some (.frz o u)
def Rd.ok(r:Rd H a u)(x:QJ P w H h):xR P w H h a u:=by
 rcases r with r|⟨o,r⟩
 . exact x a u r
 . obtain⟨_,q⟩:=x a _ r;exact q
def uO:Option HO->Prop
 |some (.lst _)=>True
 |some (.dK _)=>True
 |some (.dT _)=>True
 |some (.set _ _)=>True
 |some (.ins _ _ _)=>True
 |some (.ext _)=>True
 |_=>False
section
variable{P:Program}{w:World}{H:Hp}{h h':Heap}{x e:Addr}{o':HO}
def QJ.write(ok:QJ P w H h)(mu:uO (H x))(he:e=x\/H e=some (.own x))(k:∀b u,b≠e->h.get? b=some u->h'.get? b=some u)(heo:∃u,h'.get? e=some u)
 (new:xR P w (upd H x o') h' x o'):QJ P w (upd H x o') h':=λb u q=>by
 have nown:∀c y,H c=some (.own y)->c≠x:=λc y r z=>by subst z;rw[r]at mu;exact mu
 have ntup:∀c xs,H c=some (.tup xs)->c≠x:=λc xs r z=>by subst z;rw[r]at mu;exact mu
 by_cases hb:b=x
 . subst hb;rw[yp]at q;cases q;exact new
 . rw[zJ hb]at q
   by_cases hbe:b=e
   . have q':H b=some (.own x):=by
      rcases he with z|z
      . exact absurd (hbe.trans z) hb
      . rw[hbe];exact z
     rw[q]at q';cases q';obtain⟨v,hv⟩:=heo;exact⟨v,by rw[hbe];exact hv⟩
   . refine(ok b u q).stay (λc v hc r=>k c v ?_ r) (λc r=>by rw[zJ<|nown c b r];exact r) λc xs r=>by rw[zJ<|ntup c xs r];exact r
     rcases hc with rfl|hc
     . exact hbe
     . rintro rfl
       rcases he with z|z
       . exact nown c b hc z
       . rw[hc]at z;cases z;exact hb rfl
end
structure Un(fs ex:List Addr)(H H':Hp)(h h':Heap):Prop where
 keep:∀b o,h.get? b=some o->H b=none->b ∉ fs->b ∉ ex->h'.get? b=some o
 slot:∀b o,h.get? b=some o->H b=none->b ∈ fs->b ∉ ex->∃sl,h'.get? b=some {o with slots:=sl}
 free:∀b o,h.get? b=some o->H b=none->b ∉ ex->H' b=none
 there:∀b o,h.get? b=some o->b ∉ ex->∃o',h'.get? b=some o'
 tups:∀b xs,H b=some (.tup xs)->H' b=some (.tup xs)
 frzs:∀b o u,H b=some (.frz o u)->H' b=some (.frz o u)
 tbls:∀b ps,H b=some (.tbl ps)->∃more,H' b=some (.tbl<|ps++more)
section
variable{fs fs' ex ex':List Addr}{H H1 H2:Hp}{h h1 h2 h':Heap}{a x e:Addr}{o:HO}
def Un.any(u:Un fs ex H H1 h h1)(q:h.get? b=some ob)(n:H b=none)(hx:b ∉ ex):∃sl,h1.get? b=some {ob with slots:=sl}:=by
 by_cases hb:b ∈ fs
 . exact u.slot b ob q n hb hx
 . exact⟨ob.slots,u.keep b ob q n hb hx⟩
def Un.kept(k:∀b u,h.get? b=some u->h'.get? b=some u):Un fs ex H H h h':=
 ⟨λb ob q _ _ _=>k b ob q,λb ob q _ _ _=>⟨ob.slots,k b ob q⟩,λ_ _ _ n _=>n,λb ob q _=>⟨ob,k b ob q⟩,λ_ _ q=>q,λ_ _ _ q=>q,λ_ ps q=>⟨#[],by rw[q];simp⟩⟩
def Un.refl:Un fs ex H H h h:=Un.kept λ_ _ q=>q
def Un.laid(k:∀b u,h.get? b=some u->h'.get? b=some u)(hp:h.objs.size<=a)(hn:H a=none):Un fs ex H (upd H a o) h h' where
 keep:=λb u q _ _ _=>k b u q
 slot:=λb u q _ _ _=>⟨u.slots,k b u q⟩
 free:=λb u q n _=>by rw[zJ<|zzQ<|zzK (zxJ q) hp];exact n
 there:=λb u q _=>⟨u,k b u q⟩
 tups:=λb xs q=>by rw[zJ<|yE q hn];exact q
 frzs:=λb u xs q=>by rw[zJ<|yE q hn];exact q
 tbls:=λb ps q=>⟨#[],by rw[zJ<|yE q hn,q];simp⟩
def Un.write(mu:uO (H x))(he:e=x\/H e=some (.own x))(k:∀b u,b≠e->h.get? b=some u->h'.get? b=some u)(heo:∃u,h'.get? e=some u):Un fs ex H (upd H x o) h h':=by
 have hx:∀b,H b=none->b≠x:=λb n z=>by subst z;rw[n]at mu;exact mu
 have hb:∀b,H b=none->b≠e:=λb n z=>by
  subst z
  rcases he with r|r
  . exact hx b n r
  . rw[n]at r;cases r
 have hm:∀b u,H b=some u->¬uO (some u)->b≠x:=λb u q nm z=>by subst z;rw[q]at mu;exact nm mu
 refine⟨λb u q n _ _=>k b u (hb b n) q,λb u q n _ _=>⟨u.slots,k b u (hb b n) q⟩,λb u q n _=>by rw[zJ<|hx b n];exact n,λb u q _=>?_,
  λb xs q=>by rw[zJ<|hm b _ q λz=>z];exact q,λb u xs q=>by rw[zJ<|hm b _ q λz=>z];exact q,λb ps q=>⟨#[],by rw[zJ<|hm b _ q λz=>z,q];simp⟩⟩
 by_cases hbe:b=e
 . subst hbe;exact heo
 . exact⟨u,k b u hbe q⟩
end
def trk(h:Heap)(H:Hp):List Addr:=(List.range h.objs.size).filter λa=>(H a).isSome
def Bn(h:Heap)(H:Hp):Heap:=W.hideAll h<|trk h H
def Bz(h)(H):(Bn h H).objs.size=h.objs.size:=W.hideAll_size _ _
def S9(e:h.get? b=some o)(n:H b=none):(Bn h H).get? b=some o:=
 W.hideAll_get _ e λhm=>by
  have q:=(List.mem_filter.mp hm).2;rw[n]at q;simp at q
def Cs(e:(Bn h H).get? b=some o):h.get? b=some o/\H b=none:=by
 have e':h.get? b=some o:=W.of_hideAll _ e;refine⟨e', ?_⟩;cases q:H b with
 |none=>rfl
 |some x=>
  have hm:b ∈ trk h H:=List.mem_filter.mpr ⟨List.mem_range.mpr<|zxJ e',by simp[q]⟩;have z:(Bn h H).get? b=none:=W.hideAll_none _ hm;rw[z]at e;cases e
end L2
namespace L2
open PySem PySem.Spec PyProof.Rows
structure Mod(K:zzA)(mg:Str->Option Value)(base:Heap):Prop where
 kin:K.In base
 glob:base.Ns mainGlobals mg
 blt:∃mb,base.Ns builtinsNs mb/\∀x:Str,x≠"__name__"->mb x=bootBuiltins x
 nolimit:base.NoLimit
structure Cx where
 prog:Program
 w:World
 K:zzA
 mg:Str->Option Value
 base:Heap
 A:Around
 N:List Str
 s₀:Shared
 H₀:Hp
 env:Env
 outer:List Env
 stack:List Env
 ex:List Addr
 fn:Str->Bool
 calm:Bool
 pn:List (Addr×Obj)
 xe:Value->Shared->Prop
def B7(l:List Env):List Addr:=l.filterMap (·.frame)
abbrev Cx.fs(X:Cx):List Addr:=B7 X.outer
def sS(sc:Scope)(x:Str):Prop:=sc.names.lookup x=some .local\/sc.names.lookup x=some .cell\/sc.names.lookup x=some .free
def Loc(sc:Scope)(x:Str):Prop:=sc.names.lookup x=some .local\/sc.names.lookup x=some .cell
def Look(env:Env)(h:Heap)(m:Str->Option Value)(x:Str)(u:Value):Prop:=
 (env.kindOf x=some .local/\m x=some u)\/((env.kindOf x=some .cell\/env.kindOf x=some .free)/\∃c,env.cells.lookup x=some c/\h.IsCell c (some u))
structure Cx.Ok(X:Cx):Prop where
 mod:Mod X.K X.mg X.base
 kind:X.env.scope.kind = .function
 glob:X.env.globals=mainGlobals
 blt:X.env.builtins=builtinsNs
 above:X.s₀.heap.objs.size<=X.env.locals
 inj:∀x y c,X.env.cells.lookup x=some c->X.env.cells.lookup y=some c->x=y
 has:∀x,(X.env.kindOf x=some .cell\/X.env.kindOf x=some .free)->∃c,X.env.cells.lookup x=some c
 cab:∀x c,X.fn x=true->X.env.cells.lookup x=some c->X.s₀.heap.objs.size<=c
 hd:X.calm=true->X.A.handled=none
 frames:X.A.frames=some X.stack
 stk:X.stack=X.outer\/(X.stack=X.env::X.outer/\X.env.frame=some X.env.locals)
 exf:∀b ∈ X.ex,b≠X.env.locals/\∀x c,X.env.cells.lookup x=some c->c≠b
 bs:∀b o,X.base.get? b=some o->X.s₀.heap.get? b=some o/\X.H₀ b=none
 bsz:X.base.objs.size<=X.s₀.heap.objs.size
 noex:∀b o,X.base.get? b=some o->b ∉ X.ex
 exfs:∀b ∈ X.ex,b ∉ X.fs
 funs:X.s₀.heap.FunFrames X.base X.outer
 frf:∀b ∈ X.fs,X.H₀ b=none
structure Inv(X:Cx)(pins:List (Addr×Obj))(σ:List (Option V))(H:Hp)(s:Shared):Prop where
 ok:X.Ok
 os:s.os=X.s₀.os
 bare:AllBare s.gens
 base:Un X.fs X.ex X.H₀ H X.s₀.heap s.heap
 loc:∃m,s.heap.Ns X.env.locals m/\∀(i:Nat) (x:Str) (v:V),X.N[i]? = some x->σ[i]? = some (some v)->sS X.env.scope x->∃u,RelV v u/\Look X.env s.heap m x u
 cell:∀x c,X.env.cells.lookup x=some c->∃v,s.heap.IsCell c v
 free:H X.env.locals=none
 freeC:∀x c,X.env.cells.lookup x=some c->H c=none
 pin:∀p ∈ X.pn++pins,s.heap.get? p.1=some p.2/\H p.1=none/\p.1≠X.env.locals/\p.1 ∉ X.fs/\∀v,p.2.data ≠ .cell v
 hok:QJ X.prog X.w H s.heap
 len:σ.length=X.N.length
section
variable{X:Cx}{pins:List (Addr×Obj)}{σ:List (Option V)}{H H':Hp}{s:Shared}{h':Heap}
def Cx.Ok.nofr(ok:X.Ok)(e:X.base.get? b=some o):b ∉ X.fs:=λhb=>by
 have:=(ok.funs.mem hb).1;rw[e]at this;cases this
theorem Inv.bs(I:Inv X pins σ H s):∀b o,X.base.get? b=some o->s.heap.get? b=some o/\H b=none:=λb o e=>
 ⟨I.base.keep b o (I.ok.bs b o e).1 (I.ok.bs b o e).2 (I.ok.nofr e)<|I.ok.noex b o e,I.base.free b o (I.ok.bs b o e).1 (I.ok.bs b o e).2<|I.ok.noex b o e⟩
def Inv.bk(I:Inv X pins σ H s):∀b o,X.base.get? b=some o->s.heap.get? b=some o:=λb o e=>(I.bs b o e).1
theorem Inv.mod(I:Inv X pins σ H s):Mod X.K X.mg X.base:=I.ok.mod
def Inv.kIn(I:Inv X pins σ H s):X.K.In s.heap:=I.ok.mod.kin.keeps I.bk
theorem Inv.lt(I:Inv X pins σ H s):X.env.locals<s.heap.objs.size:=let⟨_,hn,_⟩:=I.loc;hn.lt
def Inv.sz(I:Inv X pins σ H s):X.s₀.heap.objs.size<=s.heap.objs.size:=zzO I.ok.above<|Nat.le_of_lt I.lt
def Inv.nofs(I:Inv X pins σ H s)(h:s.heap.objs.size<=a):a ∉ X.fs:=λhb=>by
 obtain⟨_,o,ho,_⟩:=I.ok.funs.mem hb;exact absurd (zzK (zxJ ho)<|zzO I.sz h)<|Nat.lt_irrefl _
def Inv.cne(I:Inv X pins σ H s):∀x c,X.env.cells.lookup x=some c->c≠X.env.locals:=λx c e z=>by
 obtain⟨v,o,ho,hd⟩:=I.cell x c e;obtain⟨m,⟨o',es,ep,ho',hd',_⟩,_⟩:=I.loc;rw[z,ho']at ho;cases ho;rw[hd']at hd;cases hd
theorem Inv.funs(I:Inv X pins σ H s):s.heap.FunFrames X.base X.outer:=by
 have all:∀(l:List Env),(∀b ∈ B7 l,b ∈ X.fs)->X.s₀.heap.FunFrames X.base l->s.heap.FunFrames X.base l:=by
  intro l
  induction l with
  |nil=>intro _ _;trivial
  |cons env r ih=>
   intro hs hl;obtain⟨hk,⟨L,o,hf,hn,ho,hd⟩,hr⟩:=hl;have hL:=hs L (by unfold B7;rw[List.filterMap_cons,hf];exact zzF);obtain⟨sl,e⟩:=I.base.slot L o ho (I.ok.frf L hL) hL λz=>I.ok.exfs L z hL;exact⟨hk,⟨L,_,hf,hn,e,hd⟩,ih (λb hb=>hs b<|by unfold B7;rw[List.filterMap_cons,hf];exact zzD _ hb) hr⟩
 exact all X.outer (λ_ hb=>hb) I.ok.funs
theorem Inv.stack(I:Inv X pins σ H s):s.heap.FunFrames X.base X.stack:=by
 rcases I.ok.stk with e|⟨e,hf⟩
 . rw[e];exact I.funs
 . rw[e];obtain⟨m,hn,_⟩:=I.loc;refine .cons (by rw[I.ok.kind];decide) hf hn ?_ I.funs;exact Heap.get?_none_of_le<|zzO I.ok.bsz I.ok.above
def Inv.stkSub(I:Inv X pins σ H s):∀b ∈ B7 X.stack,b ∈ X.env.locals::X.fs:=λb hb=>by
 rcases I.ok.stk with e|⟨e,hf⟩
 . rw[e]at hb;exact zzD _ hb
 . rw[e]at hb;unfold B7 at hb;rw[List.filterMap_cons,hf]at hb;exact hb
def Inv.stkFree(I:Inv X pins σ H s):∀b ∈ B7 X.stack,H b=none:=λb hb=>by
 rcases zzC.mp (I.stkSub b hb)with e|hb
 . rw[e];exact I.free
 . obtain⟨_,o,ho,_⟩:=I.ok.funs.mem hb;exact I.base.free b o ho (I.ok.frf b hb) λz=>I.ok.exfs b z hb
def Inv.step{g'}{t':Nat}{d'}{ch:List Addr}(I:Inv X pins σ H s)
 (hch:∀b ∈ ch,(b ∈ X.ex\/X.s₀.heap.objs.size<=b)/\b≠X.env.locals/\(∀x c,X.env.cells.lookup x=some c->c≠b)/\∀p ∈ X.pn++pins,p.1≠b)
 (keep:∀b o,b≠X.env.locals->b ∉ X.fs->b ∉ ch->s.heap.get? b=some o->H b=none->h'.get? b=some o)
 (slot:∀b o,b≠X.env.locals->b ∈ X.fs->b ∉ ch->s.heap.get? b=some o->H b=none->∃sl,h'.get? b=some {o with slots:=sl}) (free:∀b o,b ∉ ch->s.heap.get? b=some o->H b=none->H' b=none)
 (there:∀b o,b ∉ ch->s.heap.get? b=some o->∃o',h'.get? b=some o')
 (tups:∀b xs,H b=some (.tup xs)->H' b=some (.tup xs)) (frzs:∀b o u,H b=some (.frz o u)->H' b=some (.frz o u)) (tbls:∀b ps,H b=some (.tbl ps)->∃more,H' b=some (.tbl<|ps++more))
 (ns:∀m,s.heap.Ns X.env.locals m->h'.Ns X.env.locals m) (hok:QJ X.prog X.w H' h') (hg:AllBare g'):
 Inv X pins σ H' {s with heap:=h',gens:=g',drawn:=d',toks:=t'}:=by
 have neL:∀b o,X.s₀.heap.get? b=some o->b≠X.env.locals:=λb o e=>zzQ<|zzK (zxJ e) I.ok.above;have neC:∀b o,X.s₀.heap.get? b=some o->b ∉ X.ex->b ∉ ch:=λb o e hx hb=>by
  rcases(hch b hb).1 with z|z
  . exact hx z
  . exact absurd (zzK (zxJ e) z)<|Nat.lt_irrefl _
 have cellK:∀x c,X.env.cells.lookup x=some c->∀v,s.heap.IsCell c v->h'.IsCell c v:=λx c e v ⟨o,ho,hd⟩=>by
  have nch:=λz=>(hch c z).2.2.1 x c e rfl
  by_cases hc:c ∈ X.fs
  . obtain⟨sl,q⟩:=slot c o (I.cne x c e) hc nch ho<|I.freeC x c e;exact⟨_,q,hd⟩
  . exact⟨o,keep c o (I.cne x c e) hc nch ho<|I.freeC x c e,hd⟩
 refine⟨I.ok,I.os,hg,⟨λb o e n hb hx=>?_,λb o e n hb hx=>?_,λb o e n hx=>?_,λb o e hx=>?_,λb xs e=>tups b xs<|I.base.tups b xs e,λb o xs e=>frzs b o xs<|I.base.frzs b o xs e,λb ps e=>?_⟩, ?_,λx c e=>?_, ?_,λx c e=>?_,λp hp=>?_,hok,I.len⟩
 . exact keep b o (neL b o e) hb (neC b o e hx) (I.base.keep b o e n hb hx)<|I.base.free b o e n hx
 . obtain⟨sl,e1⟩:=I.base.slot b o e n hb hx;obtain⟨sl',e2⟩:=slot b _ (neL b o e) hb (neC b o e hx) e1<|I.base.free b o e n hx;exact⟨sl',e2⟩
 . obtain⟨o',e1⟩:=I.base.there b o e hx;exact free b o' (neC b o e hx) e1<|I.base.free b o e n hx
 . obtain⟨o',e1⟩:=I.base.there b o e hx;exact there b o' (neC b o e hx) e1
 . obtain⟨m1,e1⟩:=I.base.tbls b ps e;obtain⟨m2,e2⟩:=tbls b _ e1;exact⟨m1++m2,by rw[e2,Array.append_assoc]⟩
 . obtain⟨m,hn,hl⟩:=I.loc;refine⟨m,ns m hn,λi x v e1 e2 e3=>?_⟩;obtain⟨u,r,l⟩:=hl i x v e1 e2 e3;refine⟨u,r, ?_⟩
   rcases l with l|⟨k,c,e,z⟩
   . exact .inl l
   . exact .inr ⟨k,c,e,cellK x c e _ z⟩
 . obtain⟨v,z⟩:=I.cell x c e;exact⟨v,cellK x c e v z⟩
 . obtain⟨m,⟨o,_,_,ho,_⟩,_⟩:=I.loc;exact free _ o (λz=>(hch _ z).2.1 rfl) ho I.free
 . obtain⟨v,o,ho,hd⟩:=I.cell x c e;exact free c o (λz=>(hch c z).2.2.1 x c e rfl) ho<|I.freeC x c e
 . obtain⟨e,n,ne,nf,d⟩:=I.pin p hp;have nch:=λz=>(hch p.1 z).2.2.2 p hp rfl;exact⟨keep p.1 p.2 ne nf nch e n,free p.1 p.2 nch e n,ne,nf,d⟩
def Inv.un{t':Nat}(I:Inv X pins σ H s)(u:Un X.fs [] H H' s.heap h')(hok:QJ X.prog X.w H' h'):Inv X pins σ H' {s with heap:=h',toks:=t'}:=by
 obtain⟨m,⟨o,es,ep,ho,r⟩,_⟩:=id I.loc;obtain⟨sl,hL⟩:=u.any ho I.free (by simp);exact I.step (g':=s.gens) (d':=s.drawn) (ch:=[]) (λ_ z=>nomatch z) (λb o _ hb _ e n=>u.keep b o e n hb<|by simp) (λb o _ hb _ e n=>u.slot b o e n hb<|by simp) (λb o _ e n=>u.free b o e n<|by simp) (λb o _ e=>u.there b o e<|by simp) u.tups u.frzs u.tbls (λm' hm=>by
  obtain⟨o',es',ep',ho',r'⟩:=hm;rw[ho]at ho';cases ho';exact⟨_,es',ep',hL,r'⟩) hok I.bare
def Inv.call{g'}{t':Nat}{d'}{ch:List Addr}(I:Inv X pins σ H s)(u:Un (B7 X.stack) ch H H' s.heap h')(hok:QJ X.prog X.w H' h')(hg:AllBare g')
 (hch:∀b ∈ ch,(b ∈ X.ex\/X.s₀.heap.objs.size<=b)/\b≠X.env.locals/\(∀x c,X.env.cells.lookup x=some c->c≠b)/\∀p ∈ X.pn++pins,p.1≠b):
 Inv X pins σ H' {s with heap:=h',gens:=g',drawn:=d',toks:=t'}:=by
 obtain⟨m,⟨o,es,ep,ho,r⟩,_⟩:=id I.loc;obtain⟨sl,hL⟩:=u.any ho I.free λz=>(hch _ z).2.1 rfl;exact I.step hch (λb o hL hb hc e n=>u.keep b o e n (λz=>(zzC.mp<|I.stkSub b z).elim hL hb) hc) (λb o _ _ hc e n=>u.any e n hc) (λb o hc e n=>u.free b o e n hc) (λb o hc e=>u.there b o e hc) u.tups u.frzs u.tbls (λm' hm=>by
  obtain⟨o',es',ep',ho',r'⟩:=hm;rw[ho]at ho';cases ho';exact⟨_,es',ep',hL,r'⟩) hok hg
def Inv.turned{t':Nat}{it:Addr}(I:Inv X pins σ H s)(k:∀b o,b≠it->s.heap.get? b=some o->h'.get? b=some o)(hn:H it=none)(hL:it≠X.env.locals)
 (h1:it ∈ X.ex\/X.s₀.heap.objs.size<=it) (h2:∀x c,X.env.cells.lookup x=some c->c≠it) (h3:∀p ∈ X.pn++pins,p.1≠it):Inv X pins σ H {s with heap:=h',toks:=t'}:=by
 have nit:∀b u,H b=some u->b≠it:=λb u e z=>by rw[z,hn]at e;cases e
 refine I.step (g':=s.gens) (d':=s.drawn) (ch:=[it]) (λb hb=>?_) (λb o _ _ hc e _=>k b o (λz=>hc<|by simp[z]) e) (λb o _ _ hc e _=>⟨o.slots,k b o (λz=>hc<|by simp[z]) e⟩) (λ_ _ _ _ n=>n)
  (λb o hc e=>⟨o,k b o (λz=>hc<|by simp[z]) e⟩) (λ_ _ e=>e) (λ_ _ _ e=>e) (λb ps e=>⟨#[],by rw[e];simp⟩) (λm hm=>?_) (λb u e=>?_) I.bare
 . have e:b=it:=by simpa using hb
   subst e;exact⟨h1,hL,h2,h3⟩
 . obtain⟨o,es,ep,ho,r⟩:=hm;exact⟨o,es,ep,k _ o (Ne.symm hL) ho,r⟩
 . refine(I.hok b u e).stay (λc v hc q=>k c v ?_ q) (λ_ q=>q) λ_ _ q=>q
   rcases hc with z|z
   . rw[z];exact nit b u e
   . exact nit c _ z
def Inv.tok(I:Inv X pins σ H s)(t:Nat):Inv X pins σ H {s with toks:=t}:=I.un (h':=s.heap) (t':=t) Un.refl I.hok
theorem Inv.kept(I:Inv X pins σ H s)(k:∀b u,s.heap.get? b=some u->h'.get? b=some u):Inv X pins σ H {s with heap:=h',toks:=t'}:=I.un (Un.kept k)<|I.hok.kept k
theorem Inv.laid(I:Inv X pins σ H s)(k:∀b u,s.heap.get? b=some u->h'.get? b=some u)(hp:s.heap.objs.size<=a)(new:xR X.prog X.w (upd H a o) h' a o):
 Inv X pins σ (upd H a o) {s with heap:=h',toks:=t'}:=I.un (Un.laid k hp<|I.hok.fresh hp)<|I.hok.laid k hp new
theorem Inv.write(I:Inv X pins σ H s)(mu:uO (H x))(he:e=x\/H e=some (.own x))(k:∀b u,b≠e->s.heap.get? b=some u->h'.get? b=some u)(heo:∃u,h'.get? e=some u)
 (new:xR X.prog X.w (upd H x o) h' x o):Inv X pins σ (upd H x o) {s with heap:=h',toks:=t'}:=I.un (Un.write mu he k heo)<|I.hok.write mu he k heo new
def Inv.weak(I:Inv X pins σ H s)(hl:σ'.length=σ.length)(w:∀(i:Nat) v,σ'[i]? = some (some v)->σ[i]? = some (some v)):Inv X pins σ' H s:=
 ⟨I.ok,I.os,I.bare,I.base,let⟨m,hn,hl'⟩:=I.loc;⟨m,hn,λi x v e1 e2 e3=>hl' i x v e1 (w i v e2) e3⟩,I.cell,I.free,I.freeC,I.pin,I.hok,hl.trans I.len⟩
def Inv.pins_of(I:Inv X pins σ H s)(h:∀p ∈ pins',s.heap.get? p.1=some p.2/\H p.1=none/\p.1≠X.env.locals/\p.1 ∉ X.fs/\∀v,p.2.data ≠ .cell v):Inv X pins' σ H s:=
 ⟨I.ok,I.os,I.bare,I.base,I.loc,I.cell,I.free,I.freeC,λp hp=>(zzM.mp hp).elim (λz=>I.pin p<|zzP _ z)<|h p,I.hok,I.len⟩
def Nv{N:List Str}(hN:N.Nodup){i j:Nat}{x}(a:N[i]? = some x)(b:N[j]? = some x):i=j:=by
 obtain⟨h1,e1⟩:=zzG.mp a;obtain⟨h2,e2⟩:=zzG.mp b;exact(List.getElem_inj hN).mp<|e1.trans e2.symm
def G9{M A E}{i:Nat}{x v u Q}(I:Inv X pins σ H s)(hN:X.N.Nodup)(hi:X.N[i]? = some x)(hx:Loc X.env.scope x)(r:RelV v u)
 (h:∀s',Inv X pins (σ.set i<|some v) H s'->(∃a,Heap.SameBut a s.heap s'.heap/\(a=X.env.locals\/X.env.cells.lookup x=some a))->Q () s') (hf:X.fn x=true\/X.env.scope.names.lookup x=some .local:=by first|exact .inl rfl|exact .inr rfl|assumption):wpAny M A (storeName X.env x u) Q E s:=by
 obtain⟨m,hn,hl⟩:=id I.loc;have hcls:(X.env.scope.kind == .class||(X.env.scope.kind == .module&&X.env.locals != X.env.globals))=false:=by rw[I.ok.kind];rfl
 have hiσ:i<σ.length:=by rw[I.len];exact(zzG.mp hi).1
 have cne:=I.cne;have tracked:∀{a:Addr}{h':Heap},(∃o,s.heap.get? a=some o/\H a=none)->Heap.SameBut a s.heap h'->QJ X.prog X.w H h':=λ{a h'} ha hs b ob e=>by
  obtain⟨_,_,hfree⟩:=ha;refine(I.hok b ob e).stay (λc w' hc q=>(hs.2 c ?_).trans q) (λ_ q=>q) λ_ _ q=>q
  rintro rfl
  rcases hc with rfl|hc
  . rw[hfree]at e;cases e
  . rw[hfree]at hc;cases hc
 rcases hx with hk|hk
 . refine wpAny_storeName_local hk hn (λh' hn' hs=>?_) hcls;obtain⟨oL,_,_,hoL,_⟩:=id hn;refine h _ ⟨I.ok,I.os,I.bare,⟨λb o e n hb hx=>?_,λb o e n hb hx=>?_,I.base.free,λb o e hx=>?_,I.base.tups,I.base.frzs,I.base.tbls⟩,⟨_,hn',λj y v' e1 e2 e3=>?_⟩,λy c e=>?_,I.free,I.freeC,λp hp=>?_,tracked ⟨oL,hoL,I.free⟩ hs,by simpa using I.len⟩ ⟨_,hs,.inl rfl⟩
   . exact(hs.2 b<|zzQ<|zzK (zxJ e) I.ok.above).trans<|I.base.keep b o e n hb hx
   . obtain⟨sl,e1⟩:=I.base.slot b o e n hb hx;exact⟨sl,(hs.2 b<|zzQ<|zzK (zxJ e) I.ok.above).trans e1⟩
   . obtain⟨o',e1⟩:=I.base.there b o e hx;exact⟨o',(hs.2 b<|zzQ<|zzK (zxJ e) I.ok.above).trans e1⟩
   . by_cases hj:j=i
     . subst hj;rw[hi]at e1;cases e1;rw[zyK hiσ]at e2;cases e2;exact⟨u,r,.inl ⟨hk,by simp⟩⟩
     . rw[zzY<|Ne.symm hj]at e2;obtain⟨u',r',q⟩:=hl j y v' e1 e2 e3;refine⟨u',r', ?_⟩
       rcases q with⟨k,e⟩|⟨k,c,e,z⟩
       . refine .inl ⟨k, ?_⟩;have:y≠x:=λe=>hj<|Nv hN e1<|e ▸ hi;simp[this,e]
       . exact .inr ⟨k,c,e,z.sameBut hs<|cne y c e⟩
   . obtain⟨w',z⟩:=I.cell y c e;exact⟨w',z.sameBut hs<|cne y c e⟩
   . obtain⟨e,n,ne,nf,d⟩:=I.pin p hp;exact⟨(hs.2 p.1 ne).trans e,n,ne,nf,d⟩
 . have hfn:X.fn x=true:=by
    rcases hf with z|z
    . exact z
    . rw[z]at hk;cases hk
   obtain⟨c,hc⟩:=I.ok.has x<|.inl hk;obtain⟨w',z⟩:=I.cell x c hc;refine wpAny_storeName_cell I.ok.kind hk hc z λh' hc' hs=>?_;obtain⟨oc,hoc,hocd⟩:=id z;refine h {s with heap:=h'} ⟨I.ok,I.os,I.bare,⟨λb o e n hb hx=>?_,λb o e n hb hx=>?_,I.base.free,λb o e hx=>?_,I.base.tups,I.base.frzs,I.base.tbls⟩,⟨m,hn.sameBut hs<|Ne.symm<|cne x c hc,λj y v' e1 e2 e3=>?_⟩,λy c' e=>?_,I.free,I.freeC,λp hp=>?_,tracked ⟨oc,hoc,I.freeC x c hc⟩ hs,by simpa using I.len⟩ ⟨c,hs,.inr hc⟩
   . exact(hs.2 b<|zzQ<|zzK (zxJ e)<|I.ok.cab x c hfn hc).trans<|I.base.keep b o e n hb hx
   . obtain⟨sl,e1⟩:=I.base.slot b o e n hb hx;exact⟨sl,(hs.2 b<|zzQ<|zzK (zxJ e)<|I.ok.cab x c hfn hc).trans e1⟩
   . obtain⟨o',e1⟩:=I.base.there b o e hx;exact⟨o',(hs.2 b<|zzQ<|zzK (zxJ e)<|I.ok.cab x c hfn hc).trans e1⟩
   . by_cases hj:j=i
     . subst hj;rw[hi]at e1;cases e1;rw[zyK hiσ]at e2;cases e2;exact⟨u,r,.inr ⟨.inl hk,c,hc,hc'⟩⟩
     . rw[zzY<|Ne.symm hj]at e2;obtain⟨u',r',q⟩:=hl j y v' e1 e2 e3;refine⟨u',r', ?_⟩
       rcases q with q|⟨k,c',e,z'⟩
       . exact .inl q
       . refine .inr ⟨k,c',e,z'.sameBut hs ?_⟩
         rintro rfl
         exact hj<|Nv hN e1<|I.ok.inj _ _ _ e hc ▸ hi
   . by_cases hcc:c'=c
     . subst hcc;exact⟨_,hc'⟩
     . obtain⟨w2,z2⟩:=I.cell y c' e;exact⟨w2,z2.sameBut hs hcc⟩
   . obtain⟨e,n,ne,nf,d⟩:=I.pin p hp;refine⟨(hs.2 p.1 ?_).trans e,n,ne,nf,d⟩;intro q;rw[q,hoc]at e;have q':oc=p.2:=zzZ e;exact d w' (by rw[<-q'];exact hocd)
def Qy(I:Inv X pins σ H s)(hN:X.N.Nodup)(hi:X.N[i]? = some x)(hx:Loc X.env.scope x)(r:RelV v u)
 (h:∀s',Inv X pins (σ.set i<|some v) H s'->Q () s') (hf:X.fn x=true\/X.env.scope.names.lookup x=some .local:=by first|exact .inl rfl|exact .inr rfl|assumption):wpAny M A (storeName X.env x u) Q E s:=
 G9 I hN hi hx r (λs' I' _=>h s' I') hf
def Inv.call'(I:Inv X pins σ H s)(ho:s'.os=s.os)(u:Un (B7 X.stack) ch H H' s.heap s'.heap)(hok:QJ X.prog X.w H' s'.heap)(hg:AllBare s'.gens)
 (hch:∀b ∈ ch,(b ∈ X.ex\/X.s₀.heap.objs.size<=b)/\b≠X.env.locals/\(∀x c,X.env.cells.lookup x=some c->c≠b)/\∀p ∈ X.pn++pins,p.1≠b):Inv X pins σ H' s':=by
 obtain⟨h',g',d',t',o'⟩:=s';have e:=ho;subst e;exact I.call (g':=g') (t':=t') (d':=d') u hok hg hch
end
abbrev XK:=Value->Option Addr->Hp->Prop
abbrev St:=List<|Option V
abbrev VK:=V->Hp->Prop
abbrev TE:=St->Hp->VK->Prop
abbrev TT:=St->Hp->(Bool->Hp->Prop)->Prop
abbrev TA:=St->Hp->(List V->Hp->Prop)->Prop
structure Ends where
 nx:St->Hp->Prop
 rt:VK
 bk:St->Hp->Prop:=λ_ _=>False
 ct:St->Hp->Prop:=λ_ _=>False
abbrev TS:=Ends->St->Hp->Prop
def EP(X:Cx)(pins:List (Addr×Obj))(σ:St)(Q:VK)(u:Value)(s':Shared):Prop:=∃v H',Inv X pins σ H' s'/\RelV v u/\Q v H'
def TP(X:Cx)(pins:List (Addr×Obj))(σ:St)(Q:Bool->Hp->Prop)(b:Bool)(s':Shared):Prop:=∃H',Inv X pins σ H' s'/\Q b H'
def AP(X:Cx)(pins:List (Addr×Obj))(σ:St)(Q:List V->Hp->Prop)(us:List Value)(s':Shared):Prop:=∃vs H',Inv X pins σ H' s'/\yd vs us/\Q vs H'
def SP(X:Cx)(pins:List (Addr×Obj))(D:Ends)(f:Flow)(s':Shared):Prop:=
 match f with
 | .next=>∃σ' H',Inv X pins σ' H' s'/\D.nx σ' H'
 | .brk=>∃σ' H',Inv X pins σ' H' s'/\D.bk σ' H'
 | .cont=>∃σ' H',Inv X pins σ' H' s'/\D.ct σ' H'
 | .ret u=>∃v σ' H',Inv X pins σ' H' s'/\RelV v u/\D.rt v H'
def PE(X:Cx)(e:Expr)(t:TE):Prop:=
 ∀(pins:List (Addr×Obj)) (s:Shared) (σ:St) (H:Hp) (Q:VK),Inv X pins σ H s->t σ H Q->wpAny (model X.prog X.w) X.A (eval e X.env) (EP X pins σ Q) X.xe s
def PT(X:Cx)(e:Expr)(t:TT):Prop:=
 ∀(pins:List (Addr×Obj)) (s:Shared) (σ:St) (H:Hp) (Q:Bool->Hp->Prop),Inv X pins σ H s->t σ H Q->wpAny (model X.prog X.w) X.A (isTrue e X.env<|eval e X.env) (TP X pins σ Q) X.xe s
def PW(X:Cx)(e:Expr)(t:TT):Prop:=
 ∀(whole:Sem Value) (pins:List (Addr×Obj)) (s:Shared) (σ:St) (H:Hp) (Q:Bool->Hp->Prop),Inv X pins σ H s->t σ H Q->wpAny (model X.prog X.w) X.A (isTrue e X.env whole) (TP X pins σ Q) X.xe s
def PW.pt(h:PW X e t):PT X e t:=h _
def PA(X:Cx)(es:List Expr)(t:TA):Prop:=
 ∀(pos:Pos) (pins:List (Addr×Obj)) (s:Shared) (σ:St) (H:Hp) (Q:List V->Hp->Prop),Inv X pins σ H s->t σ H Q->wpAny (model X.prog X.w) X.A (spliced<|backTo pos<|starEach es X.env) (AP X pins σ Q) X.xe s
def PS(X:Cx)(st:Stmt)(t:TS):Prop:=
 ∀(pins:List (Addr×Obj)) (s:Shared) (σ:St) (H:Hp) (D:Ends),Inv X pins σ H s->t D σ H->wpAny (model X.prog X.w) X.A (exec st X.env) (SP X pins D) X.xe s
def Mv(X:Cx)(st:List Stmt)(t:TS):Prop:=
 ∀(pins:List (Addr×Obj)) (s:Shared) (σ:St) (H:Hp) (D:Ends),Inv X pins σ H s->t D σ H->wpAny (model X.prog X.w) X.A (execs st X.env) (SP X pins D) X.xe s
def thn(h:wpAny M A t Q E s)(hQ:∀a s,Q a s->Q' a s):wpAny M A t Q' E s:=zxO h hQ λ_ _ x=>x
end L2
namespace L2
open PySem PySem.Spec PyProof.Rows
section
variable{X:Cx}
def Yi(i:Nat):TE:=λσ H Q=>∃v,σ[i]? = some (some v)/\Q v H
def tC(v:V):TE:=λ_ H Q=>Q v H
def S8(hN:X.N[i]? = some x)(hv:sS X.env.scope x)(hd:(x==("__debug__":Str))=false:=by decide)(hcd:(x==("__classdict__":Str))=false:=by decide):PE X (.Name x pos) (Yi i):=by
 intro pins s σ H Q I h;obtain⟨v,e,h⟩:=h;obtain⟨m,hn,hl⟩:=I.loc;obtain⟨u,r,l⟩:=hl i x v hN e hv;have fin:EP X pins σ Q u s:=⟨v,H,I,r,h⟩
 rcases l with⟨hk,hm⟩|⟨hk,c,hc,hcell⟩
 . exact wpAny_Name (wpAny_loadName_local I.ok.kind hk hn hm fin) hd
 . rcases hk with hk|hk
   . exact wpAny_Name (wpAny_loadName_cell I.ok.kind hk hc hcell fin) hd
   . exact wpAny_Name (wpAny_loadName_free I.ok.kind hk hc hcell fin hcd) hd
def wX:PE X (.Constant (.int i) j pos) (tC<|.int i):=λ_ _ _ H _ I h=>wpAny_Constant_int ⟨.int i,H,I.tok _,⟨_,rfl⟩,h⟩
def Jf:PE X (.Constant (.bool b) j pos) (tC<|.bl b):=λ_ _ _ H _ I h=>Constant_bool ⟨.bl b,H,I,rfl,h⟩
def Js:PE X (.Constant .none j pos) (tC .non):=λ_ _ _ H _ I h=>Constant_none ⟨.non,H,I,rfl,h⟩
def DU:PE X (.Constant (.str x) j pos) (tC<|.str x):=λ_ _ _ H _ I h=>Calls.Constant_str ⟨.str x,H,I.tok _,⟨_,rfl⟩,h⟩
def Gl(X:Cx)(x:Str):Prop:=X.env.kindOf x=some .globalImplicit
def Ic(I:Inv X pins σ H s)(hg:Gl X x)(hm:X.mg x=some u)(h:Q u s)
 (hd:(x==("__debug__":Str))=false:=by decide):wpAny (model X.prog X.w) X.A (eval (.Name x pos) X.env) Q E s:=
 Calls.Name_function_global I.ok.kind hg (Calls.loadGlobal_global (by rw[I.ok.glob];exact I.mod.glob.keeps I.bk) hm h) hd
def Z1(I:Inv X pins σ H s)(hg:Gl X x)(hm:X.mg x=none)(hv:bootBuiltins x=some u)(h:Q u s)
 (hn:x≠"__name__":=by decide) (hd:(x==("__debug__":Str))=false:=by decide):wpAny (model X.prog X.w) X.A (eval (.Name x pos) X.env) Q E s:=by
 obtain⟨mb,h1,h2⟩:=I.mod.blt;exact Calls.Name_function_global I.ok.kind hg (Calls.loadGlobal_builtin (by rw[I.ok.glob];exact I.mod.glob.keeps I.bk) hm (by rw[I.ok.blt];exact h1.keeps I.bk) ((h2 x hn).trans hv) h) hd
def O8(hg:Gl X x)(hm:X.mg x=none)(hv:bootBuiltins x=some u)(r:RelV v u)(hn:x≠"__name__":=by decide)(hd:(x==("__debug__":Str))=false:=by decide):PE X (.Name x pos) (tC v):=
 λ_ _ _ H _ I h=>Z1 I hg hm hv ⟨v,H,I,r,h⟩ hn hd
variable{a b:Expr}{ta tb:TE}{pos:Pos}
variable{tA tB':TT}{rest:List Expr}
def rD(t u:TT):TT:=λσ H Q=>t σ H λc H1=>if c=true then u σ H1 Q else Q false H1
def oE(t u:TT):TT:=λσ H Q=>t σ H λc H1=>if c=true then Q true H1 else u σ H1 Q
def qX(t:TT):TT:=λσ H Q=>t σ H λc H1=>Q (!c) H1
def C0(ha:PT X a tA):PW X (.BoolOp .And [a] pos) tA:=by
 intro wh pins s σ H Q I h;refine isTrue_and<|thn (ha pins s σ H Q I h) λc s1 e=>?_;cases c with
 |true=>exact isTrue_and_nil e
 |false=>exact e
def DQ(ha:PT X a tA):PW X (.BoolOp .Or [a] pos) tA:=by
 intro wh pins s σ H Q I h;refine isTrue_or<|thn (ha pins s σ H Q I h) λc s1 e=>?_;cases c with
 |false=>exact isTrue_or_nil e
 |true=>exact e
def JU(ha:PT X a tA)(hb:PW X (.BoolOp .And (b::rest) pos) tB'):PW X (.BoolOp .And (a::b::rest) pos) (rD tA tB'):=by
 intro wh pins s σ H Q I h;refine isTrue_and<|thn (ha pins s σ H _ I h) λc s1 ⟨H1,I1,q1⟩=>?_;cases c with
 |true=>exact hb wh pins s1 σ H1 Q I1 q1
 |false=>exact⟨H1,I1,q1⟩
def uU(ha:PT X a tA)(hb:PW X (.BoolOp .Or (b::rest) pos) tB'):PW X (.BoolOp .Or (a::b::rest) pos) (oE tA tB'):=by
 intro wh pins s σ H Q I h;refine isTrue_or<|thn (ha pins s σ H _ I h) λc s1 ⟨H1,I1,q1⟩=>?_;cases c with
 |true=>exact⟨H1,I1,q1⟩
 |false=>exact hb wh pins s1 σ H1 Q I1 q1
def JO(ha:PT X a tA):PT X (.UnaryOp .Not a pos) (qX tA):=by
 intro pins s σ H Q I h;exact isTrue_not<|ha pins s σ H (λc H1=>Q (!c) H1) I h
def sd(ta tb:TE):TE:=λσ H Q=>ta σ H λx H1=>∃c,x = .bl c/\if c=true then tb σ H1 Q else Q (.bl false) H1
def AX(h:PE X a t):PE X (.BoolOp op [a] pos) t:=λpins s σ H Q I hw=>BoolOp_one<|h pins s σ H Q I hw
def JP(ha:PE X a ta)(hb:PE X (.BoolOp .And (b::rest) pos) tb):PE X (.BoolOp .And (a::b::rest) pos) (sd ta tb):=by
 intro pins s σ H Q I h;refine BoolOp_and<|thn (ha pins s σ H _ I h) λv s1 ⟨x,H1,I1,r1,q1⟩=>?_;obtain⟨c,rfl,q1⟩:=q1;cases r1;refine wpAny_truthy_bool ?_;cases c with
 |true=>exact hb pins s1 σ H1 Q I1 q1
 |false=>exact⟨.bl false,H1,I1,rfl,q1⟩
end
end L2
namespace L2
open PySem PySem.Spec PyProof.Rows
def Xr(K:zzA)(H:Hp)(a:Addr)(xs:List V):Prop:=
 Rd H a (.lst xs) \/
  ∃(o:Obj) (its:Array Value) (n:Nat),K.lookup a=some o/\o.cls = .type "list"/\o.dict=none/\o.data = .seq its n/\its.size<=sizeLine/\yd xs its.toList
def Oc(K:zzA)(H:Hp)(a:Addr)(xs:List V):Prop:=
 Rd H a (.lst xs)\/∃(its:Array Value) (n:Nat),K.lookup a=some {cls:=.type "list",data:=.seq its n}/\its.size<=sizeLine/\yd xs its.toList
def Q8(K:zzA)(H:Hp)(a:Addr)(xs:List V):Prop:=
 Rd H a (.tup xs) \/
  ∃(o:Obj) (its:Array Value) (n:Nat),K.lookup a=some o/\o.cls = .type "tuple"/\o.data = .seq its n/\its.size<=sizeLine/\yd xs its.toList
def qy:Value->Option V
 | .none=>some .non
 | .bool b=>some<|.bl b
 | .int i _=>some<|.int i
 | .str x _=>some<|.str x
 | .bytes b _=>some<|.byt b
 | .float b _=>some<|.flt b
 | .ref a=>some<|.ref a
 | .type n=>some (.ty n)
 |_=>none
def RelV.abs(r:RelV x u):qy u=some x:=by
 cases x with
 |non=>cases r;rfl
 |bl _=>cases r;rfl
 |int _=>obtain⟨t,rfl⟩:=r;rfl
 |str _=>obtain⟨t,rfl⟩:=r;rfl
 |byt _=>obtain⟨t,rfl⟩:=r;rfl
 |flt _=>obtain⟨t,rfl⟩:=r;rfl
 |ref _=>cases r;rfl
 |ty _=>cases r;rfl
def RelV.inj(r:RelV x u)(q:RelV y u):x=y:=zzZ<|r.abs.symm.trans q.abs
theorem yd.inj:∀{xs ys:List V}{us:List Value},yd xs us->yd ys us->xs=ys
 |_,_,_,.nil,.nil=>rfl
 |_,_,_,.cons r t,.cons r' t'=>by rw[r.inj r',yd.inj t t']
section
variable{X:Cx}{pins:List (Addr×Obj)}{σ:St}{H:Hp}{s:Shared}{a:Addr}{xs ys:List V}
def Inv.list(I:Inv X pins σ H s)(h:Xr X.K H a xs):∃its:List Value,yd xs its/\PlainL s.heap a its.toArray/\xs.length<=sizeLine:=by
 rcases h with h|⟨o,its,n,hk,hc,hd,hs,hz,r⟩
 . obtain⟨z,its,n,r,e⟩:=h.ok I.hok;exact⟨its,r,⟨_,n,e,rfl,rfl,rfl⟩,z⟩
 . refine⟨its.toList,r,⟨o,n,I.kIn a o hk,hc,hd,by simpa using hs⟩, ?_⟩;have e:=r.length;simp only[zyT]at e;omega
def Inv.tuple(I:Inv X pins σ H s)(h:Q8 X.K H a xs):∃its:List Value,yd xs its/\IsTup s.heap a its.toArray/\xs.length<=sizeLine:=by
 rcases h with h|⟨o,its,n,hk,hc,hs,hz,r⟩
 . obtain⟨z,its,r,p⟩:=h.ok I.hok;exact⟨its,r,p,z⟩
 . refine⟨its.toList,r,⟨o,I.kIn a o hk,hc,n,by simpa using hs⟩, ?_⟩;have e:=r.length;simp only[zyT]at e;omega
def Inv.list_inj(I:Inv X pins σ H s)(h:Xr X.K H a xs)(h':Xr X.K H a ys):xs=ys:=by
 obtain⟨its,r,⟨o,n,e,_,_,d⟩,_⟩:=I.list h;obtain⟨its',r',⟨o',n',e',_,_,d'⟩,_⟩:=I.list h';rw[e]at e';cases e';rw[d]at d';injection d' with d1 _
 have:its=its':=by simpa using congrArg Array.toList d1
 subst this;exact r.inj r'
def Inv.tuple_inj(I:Inv X pins σ H s)(h:Q8 X.K H a xs)(h':Q8 X.K H a ys):xs=ys:=by
 obtain⟨its,r,⟨o,e,_,n,d⟩,_⟩:=I.tuple h;obtain⟨its',r',⟨o',e',_,n',d'⟩,_⟩:=I.tuple h';rw[e]at e';cases e';rw[d]at d';injection d' with d1 _
 have:its=its':=by simpa using congrArg Array.toList d1
 subst this;exact r.inj r'
end
abbrev Cx.wish(X:Cx)(E:Value->Shared->Prop):Cx:={X with xe:=E}
abbrev Cx.nox(X:Cx):Cx:=X.wish λ_ _=>False
theorem Cx.Ok.wish{X:Cx}(ok:X.Ok)(E):(X.wish E).Ok:=
 ⟨ok.mod,ok.kind,ok.glob,ok.blt,ok.above,ok.inj,ok.has,ok.cab,ok.hd,ok.frames,ok.stk,ok.exf,ok.bs,ok.bsz,ok.noex,ok.exfs,ok.funs,ok.frf⟩
def Cx.Ok.unwish{X:Cx}{E}(ok:(X.wish E).Ok):X.Ok:=
 ⟨ok.mod,ok.kind,ok.glob,ok.blt,ok.above,ok.inj,ok.has,ok.cab,ok.hd,ok.frames,ok.stk,ok.exf,ok.bs,ok.bsz,ok.noex,ok.exfs,ok.funs,ok.frf⟩
section
variable{X:Cx}{pins:List (Addr×Obj)}{σ:St}{H:Hp}{s:Shared}{E:Value->Shared->Prop}
theorem Inv.wish(I:Inv X pins σ H s)(E:Value->Shared->Prop):Inv (X.wish E) pins σ H s:=⟨I.ok.wish E,I.os,I.bare,I.base,I.loc,I.cell,I.free,I.freeC,I.pin,I.hok,I.len⟩
theorem Inv.unwish(I:Inv (X.wish E) pins σ H s):Inv X pins σ H s:=⟨I.ok.unwish,I.os,I.bare,I.base,I.loc,I.cell,I.free,I.freeC,I.pin,I.hok,I.len⟩
theorem SP.unwish(h:SP (X.wish E) pins D f s'):SP X pins D f s':=by
 cases f with
 |next=>obtain⟨σ',H',I,q⟩:=h;exact⟨σ',H',I.unwish,q⟩
 |brk=>obtain⟨σ',H',I,q⟩:=h;exact⟨σ',H',I.unwish,q⟩
 |cont=>obtain⟨σ',H',I,q⟩:=h;exact⟨σ',H',I.unwish,q⟩
 |ret u=>obtain⟨v,σ',H',I,r,q⟩:=h;exact⟨v,σ',H',I.unwish,r,q⟩
theorem Mv.nox{st t}(h:Mv X.nox st t):Mv X st t:=λpins s σ H D I hw=>
 zxO (h pins s σ H D (I.wish _) hw) (λ_ _ q=>q.unwish) λ_ _ z=>False.elim z
end
section
variable{X:Cx}{st:Stmt}{rest:List Stmt}{t u:TS}{e:Expr}{te:TE}{pos:Pos}
def ux:TS:=λD σ H=>D.nx σ H
def qC(t u:TS):TS:=λD σ H=>t {D with nx:=u D} σ H
def Fw:Mv X [] ux:=λ_ _ σ H _ I h=>wpAny_execs_nil ⟨σ,H,I,h⟩
def XU(h1:PS X st t)(h2:Mv X rest u):Mv X (st::rest) (qC t u):=by
 intro pins s σ H D I h;refine wpAny_execs_cons<|thn (h1 pins s σ H {D with nx:=u D} I h) λf s1 q=>?_;cases f with
 |next=>
  obtain⟨σ',H',I',q⟩:=q;exact h2 pins s1 σ' H' D I' q
 |ret v=>exact q
 |brk=>exact q
 |cont=>exact q
def RR(h1:PS X st t):Mv X [st] t:=by
 intro pins s σ H D I h;refine wpAny_execs_cons<|thn (h1 pins s σ H D I h) λf s1 q=>?_;cases f with
 |next=>exact wpAny_execs_nil q
 |ret v=>exact q
 |brk=>exact q
 |cont=>exact q
def Inv.quiet(I:Inv X pins σ H s):interactive X.env=false:=by simp[interactive,I.ok.kind]
def si(te:TE):TS:=λD σ H=>te σ H λ_ H1=>D.nx σ H1
def YX(he:PE X e te)(hs:swapsWith e none pos.line X.env=pure false:=by rfl):PS X (.Expr e pos) (si te):=by
 intro pins s σ H D I h;exact wpAny_Expr_any (thn (he pins s σ H _ I h) λv s1 ⟨x,H1,I1,r1,q1⟩=>⟨σ,H1,I1,q1⟩) I.quiet hs
def qm(te:TE):TS:=λD σ H=>te σ H D.rt
def OJ(he:PE X e te):PS X (.Return (some e) pos) (qm te):=by
 intro pins s σ H D I h;exact wpAny_Return_some<|thn (he pins s σ H _ I h) λv s1 ⟨x,H1,I1,r1,q1⟩=>⟨x,σ,H1,I1,r1,q1⟩
def qg(c:TT)(t u:TS):TS:=λD σ H=>c σ H λb H1=>if b=true then t D σ H1 else u D σ H1
def Jd(hc:PT X c tc)(ha:Mv X a t)(hb:Mv X b u):PS X (.If c a b pos) (qg tc t u):=by
 intro pins s σ H D I h;refine wpAny_If<|thn (hc pins s σ H _ I h) λd s1 ⟨H1,I1,q1⟩=>?_;cases d with
 |true=>exact ha pins s1 σ H1 D I1 q1
 |false=>exact hb pins s1 σ H1 D I1 q1
end
abbrev TG:=V->St->Hp->(St->Hp->Prop)->Prop
abbrev DN:=List V->St->Hp->(St->Hp->Prop)->Prop
def PG(X:Cx)(target:Expr)(t:TG):Prop:=
 ∀(pins:List (Addr×Obj)) (s:Shared) (σ:St) (H:Hp) (v:V) (u:Value) (Q:St->Hp->Prop),Inv X pins σ H s->RelV v u->t v σ H Q->
  wpAny (model X.prog X.w) X.A (assign target X.env u) (λ_ s'=>∃σ' H',Inv X pins σ' H' s'/\Q σ' H') X.xe s
def Jn(X:Cx)(ts:List Expr)(t:DN):Prop:=
 ∀(pins:List (Addr×Obj)) (s:Shared) (σ:St) (H:Hp) (vs:List V) (us:List Value) (Q:St->Hp->Prop),Inv X pins σ H s->yd vs us->t vs σ H Q->
  wpAny (model X.prog X.w) X.A (assignInOrder ((assignEach ts X.env).map (·.2)) us) (λ_ s'=>∃σ' H',Inv X pins σ' H' s'/\Q σ' H') X.xe s
abbrev u5:=V->V->V->Hp->(Hp->Prop)->Prop
def tN(X:Cx)(t:u5):Prop:=
 ∀(pins:List (Addr×Obj)) (s:Shared) (σ:St) (H:Hp) (o i v:V) (ov iv u:Value) (Q:Hp->Prop),Inv X pins σ H s->RelV o ov->RelV i iv->RelV v u->t o i v H Q->
  wpAny (model X.prog X.w) X.A (setItem ov iv u) (λ_ s'=>∃H',Inv X pins σ H' s'/\Q H') X.xe s
section
variable{X:Cx}{pos:Pos}
def EV(i:Nat):TG:=λv σ H Q=>Q (σ.set i<|some v) H
def Cz(hN:X.N.Nodup)(hi:X.N[i]? = some x)(hx:Loc X.env.scope x)(hf:X.fn x=true\/X.env.scope.names.lookup x=some .local:=by first|exact .inl rfl|exact .inr rfl|assumption):PG X (.Name x pos) (EV i):=by
 intro pins s σ H v u Q I r h;exact wpAny_assign_Name<|Qy I hN hi hx r (λs' I'=>⟨_,H,I',h⟩) hf
def rY:DN:=λvs σ H Q=>vs=[]/\Q σ H
def ug(t:TG)(u:DN):DN:=λvs σ H Q=>∃v r,vs=v::r/\t v σ H λσ' H'=>u r σ' H' Q
def Ib:Jn X [] rY:=by
 intro pins s σ H vs us Q I r h;obtain⟨e,h⟩:=h;subst e;cases r;exact assignInOrder_nil ⟨σ,H,I,h⟩
def Hb(h1:PG X e t)(h2:Jn X es u)
 (hs:(assignEach (e::es) X.env).map (·.2)=assign e X.env::(assignEach es X.env).map (·.2):=by rfl):Jn X (e::es) (ug t u):=by
 intro pins s σ H vs us Q I r h;obtain⟨v,vr,e1,h⟩:=h;subst e1;cases r with
 |cons r rr=>
  rw[hs];refine assignInOrder_cons<|thn (h1 pins s σ H _ _ _ I r h) λ_ s1 ⟨σ1,H1,I1,q1⟩=>?_;exact h2 pins s1 σ1 H1 _ _ Q I1 rr q1
def rW(K:zzA)(n:Nat)(t:DN):TG:=λv σ H Q=>∃a xs,v = .ref a/\Q8 K H a xs/\xs.length=n/\t xs σ H Q
def As(hc:X.calm=true)(h:Jn X es t)
 (hn:(assignEach es X.env).length=n:=by rfl) (hst:(assignEach es X.env).findIdx? (·.1)=none:=by rfl):PG X (.Tuple es k pos) (rW X.K n t):=by
 intro pins s σ H v u Q I r hw;obtain⟨a,xs,e1,hq,hl,hw⟩:=hw;subst e1;cases r;obtain⟨its,rv,ht,hz⟩:=I.tuple hq;refine assign_Tuple_tuple (I.ok.hd hc) ht (by simp[hn,<-hl,rv.length]) hst λh' hx=>?_;have I1:=I.kept (t':=s.toks) λb o e=>hx b o (zzQ<|zxJ e) e;exact h pins _ σ H xs _ Q I1 (by simpa using rv) hw
def qI(to ti:TE)(t:u5):TG:=λv σ H Q=>to σ H λo H1=>ti σ H1 λi H2=>t o i v H2 λH3=>Q σ H3
def Eo(ho:PE X o to)(hi:PE X i ti)(hs:tN X t)
 (ha:∀v,assign (.Subscript o i pos) X.env v=(do
  let ov <-holding [v] (eval o X.env);let iv <-holding [v,ov] (eval i X.env)
  standAt pos
  holding [v,ov,iv] (setItem ov iv v)
  release [v,ov,iv] []):=by intro _;rfl):PG X (.Subscript o i pos) (qI to ti t):=by
 intro pins s σ H v u Q I r h;rw[ha];refine zxG<|zxM<|thn (ho pins s σ H _ I h) λov s1 ⟨x,H1,I1,r1,q1⟩=>?_;refine zxG<|zxM<|thn (hi pins s1 σ H1 _ I1 q1) λiv s2 ⟨y,H2,I2,r2,q2⟩=>?_;refine zxG<|wpAny_standAt<|zxG<|zxM<|thn (hs pins s2 σ H2 x y v ov iv u _ I2 r1 r2 r q2) λ_ s3 ⟨H3,I3,q3⟩=>?_;exact wpAny_release ⟨σ,H3,I3,q3⟩
def DW(te:TE)(g:TG):TS:=λD σ H=>te σ H λx H1=>g x σ H1 D.nx
def Ll(he:PE X e te)(hg:PG X tg g)(hs:swapsWithSole [tg] e pos.line X.env=pure false:=by rfl)(hw:swappedStores [tg] e X.env=pure none:=by rfl)
 (h1:(assignEach [tg] X.env).map (·.2)=[assign tg X.env]:=by rfl):PS X (.Assign [tg] e pos) (DW te g):=by
 intro pins s σ H D I h;refine wpAny_Assign_stores (thn (he pins s σ H _ I h) λv s1 ⟨x,H1,I1,r1,q1⟩=>?_) hs hw;rw[h1];exact thn (hg pins s1 σ H1 x v _ I1 r1 q1) λ_ s2 q=>q
def MJ(hN:X.N.Nodup)(hi:X.N[i]? = some x)(hx:Loc X.env.scope x)(he:PE X e te)(hs:swapsWith e (some<|.Name x pos') pos.line X.env=pure false:=by rfl)(hf:X.fn x=true\/X.env.scope.names.lookup x=some .local:=by first|exact .inl rfl|exact .inr rfl|assumption):
 PS X (.Assign [.Name x pos'] e pos) (DW te<|EV i):=by
 intro pins s σ H D I h;refine wpAny_Assign_Name (thn (he pins s σ H _ I h) λv s1 ⟨y,H1,I1,r1,q1⟩=>?_) hs;exact Qy I1 hN hi hx r1 (λs2 I2=>⟨_,H1,I2,q1⟩) hf
def qK(i j:Nat)(ta:TA):TS:=λD σ H=>ta σ H λvs H1=>∃v w,vs=[v,w]/\D.nx ((σ.set i<|some v).set j<|some w) H1
def JH(hc:X.calm=true)(hN:X.N.Nodup)(hi:X.N[i]? = some x)(hj:X.N[j]? = some y)(hij:i≠j)
 (hx:X.env.scope.names.lookup x=some .local) (hy:X.env.scope.names.lookup y=some .local) (ha:PA X [a,b] ta)
 (hw:swappedStores [.Tuple [.Name x px,.Name y py] kt pt] (.Tuple [a,b] k2 pt2) X.env=pure (some [x,y]))
 (hs:swapsWithSole [.Tuple [.Name x px,.Name y py] kt pt] (.Tuple [a,b] k2 pt2) pos.line X.env=pure false:=by rfl):
 PS X (.Assign [.Tuple [.Name x px,.Name y py] kt pt] (.Tuple [a,b] k2 pt2) pos) (qK i j ta):=by
 intro pins s σ H D I h;rw[exec_Assign_arm];refine zxG<|wpAny_standAt ?_;rw[hs];refine zxG<|zxH ?_;rw[if_neg<|by decide];refine zxG<|Tuple_<|thn (ha _ pins s σ H _ I h) λus s1 ⟨vs,H1,I1,r1,q1⟩=>?_;obtain⟨v,w,e1,q1⟩:=q1;subst e1;obtain⟨u1,u2,rfl,rv,rw'⟩:∃u1 u2,us=[u1,u2]/\RelV v u1/\RelV w u2:=by
  cases r1 with
  |cons p q=>
   cases q with
   |cons p' q'=>
    cases q';exact⟨_,_,rfl,p,p'⟩
 refine zxL ?_ (by show 2<=sizeLine;decide);have I2:Inv X pins σ H1 {s1 with heap:=s1.heap.push {cls:=.type "tuple",data:=.seq [u1,u2].toArray}}:=I1.kept (t':=s1.toks) λb o e=>zxI _ e;rw[hw];refine zxG<|zxH ?_;refine zxG<|wpAny_rule<|zxG<|unpackItems_tuple (items:=#[u1,u2]) (I.ok.hd hc) (IsTup.new s1.heap _) λh' hx'=>?_;have I3:=I2.kept (h':=h') (t':=s1.toks) λb o e=>hx' b o (zzQ<|zxJ e) e;refine zxG<|assignInOrder_cons<|wpAny_bindName<|Qy I3 hN hj (.inl hy) rw' (λs2 I4=>?_)<|.inr hy;refine assignInOrder_cons<|wpAny_bindName<|Qy I4 hN hi (.inl hx) rv (λs3 I5=>assignInOrder_nil<|zxH ?_)<|.inr hx;rw[List.set_comm _ _<|Ne.symm hij]at I5;exact⟨_,H1,I5,q1⟩
end
section
variable{X:Cx}{pos:Pos}
def DE(c:TT)(tb:TS):TS:=λD σ H=>∃W:Nat->St->Hp->Prop,(∃m,W m σ H)/\∀m σ H,W m σ H->
 c σ H λb H1=>if b=true then ∃N:St->Hp->Prop,(∀σ' H',N σ' H'->∃m',m'<m/\W m' σ' H')/\tb {D with nx:=N,ct:=N,bk:=D.nx} σ H1 else D.nx σ H1
def Og(hp:PassesOwn (model X.prog X.w) X.A X.env X.xe)(hc:PT X c tc)(hb:Mv X body tb):PS X (.While c body [] pos) (DE tc tb):=by
 intro pins s σ H D I h;obtain⟨W,⟨m0,w0⟩,turn⟩:=h;refine wpAny_While<|codeAny_whileLoop (λn s'=>∃σ' H',Inv X pins σ' H' s'/\W n σ' H') ?_ m0 ⟨σ,H,I,w0⟩
 rintro n s1 ⟨σ1,H1,I1,w1⟩
 refine wpAny_passesOwn hp<|thn (hc pins s1 σ1 H1 _ I1<|turn n σ1 H1 w1) λb s2 ⟨H2,I2,q2⟩=>?_;cases b with
 |true=>
  obtain⟨N,hN,q2⟩:=q2;rw[if_pos rfl];refine wpAny_passesOwn hp<|thn (hb pins s2 σ1 H2 _ I2 q2) λf s3 q3=>?_;cases f with
  |next=>
   obtain⟨σ3,H3,I3,n3⟩:=q3;obtain⟨m',hm,w3⟩:=hN σ3 H3 n3;exact⟨m',hm,σ3,H3,I3,w3⟩
  |cont=>
   obtain⟨σ3,H3,I3,n3⟩:=q3;obtain⟨m',hm,w3⟩:=hN σ3 H3 n3;exact⟨m',hm,σ3,H3,I3,w3⟩
  |brk=>exact q3
  |ret v=>exact q3
 |false=>
  rw[if_neg zyW];exact wpAny_execs_nil ⟨σ1,H2,I2,q2⟩
end
structure It where
 go:Nat->Hp->Prop
 yld:Nat->Hp->V->Hp->Prop
 stop:Nat->Hp->Prop
def RA(X:Cx)(pins:List (Addr×Obj))(H:Hp)(b:Addr):Prop:=
 H b=none/\b≠X.env.locals/\b ∉ X.fs/\(b ∈ X.ex\/X.s₀.heap.objs.size<=b)/\(∀x c,X.env.cells.lookup x=some c->c≠b)/\∀p ∈ X.pn++pins,p.1≠b
def Inv.fpOk(I:Inv X pins σ H s)(hb:s.heap.objs.size<=b)(hn:H' b=none):RA X pins H' b:=by
 refine⟨hn,Nat.ne_of_gt<|zzK I.lt hb,I.nofs hb,.inr<|zzO I.sz hb,λx c e z=>?_,λp hp z=>?_⟩
 . obtain⟨v,q⟩:=I.cell x c e;exact absurd (zzK q.lt<|by rw[z];exact hb)<|Nat.lt_irrefl _
 . exact absurd (zzK (zxJ (I.pin p hp).1)<|by rw[z];exact hb)<|Nat.lt_irrefl _
structure Turn(P:Program)(w:World)(K:zzA)(tg:Expr)(J:It)(fp:List Addr)(it:Addr)(tn:Nat->Heap->Prop):Prop where
 mem:it ∈ fp
 obj:∀i h,tn i h->∀b ∈ fp,∃o,h.get? b=some o/\∀v,o.data ≠ .cell v
 keep:∀i h h',tn i h->(∀b ∈ fp,∀o,h.get? b=some o->h'.get? b=some o)->tn i h'
 item:∀(X:Cx),X.prog=P->X.w=w->X.K=K->X.calm=true->∀(i:Nat) (pins:List (Addr×Obj)) (s:Shared) (σ:St) (H:Hp) (E:Value->Shared->Prop),Inv X pins σ H s->(∀b ∈ fp,RA X pins H b)->tn i s.heap->J.go i H->
  wpAny (model P w) X.A (pyNext<|.ref it) (λr s1=>∃u,r=some u/\
   wpAny (model P w) X.A (letOwnedTupleGo tg (.ref it) u) (λ_ s2=>∃x H',Inv X pins σ H' s2/\RelV x u/\J.yld i H x H'/\tn (i+1) s2.heap/\∀b ∈ fp,H' b=none) E s1) E s
 done:∀(X:Cx),X.prog=P->X.w=w->X.K=K->X.calm=true->∀(i:Nat) (pins:List (Addr×Obj)) (s:Shared) (σ:St) (H:Hp) (E:Value->Shared->Prop),Inv X pins σ H s->(∀b ∈ fp,RA X pins H b)->tn i s.heap->J.stop i H->
  wpAny (model P w) X.A (pyNext<|.ref it) (λr s1=>r=none/\Inv X pins σ H s1) E s
 self:∀(A:Around) (i:Nat) (s:Shared) (Q:Value->Shared->Prop) (E:Value->Shared->Prop),tn i s.heap->Q (.ref it) s->wpAny (model P w) A (pyIter<|.ref it) Q E s
abbrev TI:=St->Hp->(It->Hp->Prop)->Prop
def p5(X:Cx)(pins:List (Addr×Obj))(σ:St)(tg:Expr)(R:It->Hp->Prop)(itv:Value)(s2:Shared):Prop:=
 ∃(it:Addr) (fp:List Addr) (tn:Nat->Heap->Prop) (J:It) (H':Hp),itv = .ref it/\Inv X pins σ H' s2/\Turn X.prog X.w X.K tg J fp it tn/\tn 0 s2.heap/\(∀b ∈ fp,RA X pins H' b)/\R J H'
def PI(X:Cx)(tg iter:Expr)(wi:TI):Prop:=
 ∀(pins:List (Addr×Obj)) (s:Shared) (σ:St) (H:Hp) (R:It->Hp->Prop),Inv X pins σ H s->wi σ H R->
  wpAny (model X.prog X.w) X.A (eval iter X.env) (λv s1=>wpAny (model X.prog X.w) X.A (pyIter v) (p5 X pins σ tg R) X.xe s1) X.xe s
def Ou(ho:s.heap.get? it=some o)(hc:o.cls = .type n)(hd:o.data = .fields vs)
 (hn : ["enumerate","zip","dict_itemiterator","dict_reverseitemiterator","odict_iterator","itertools.zip_longest","itertools.pairwise"].contains n=false) (hQ:Q () s):wpAny M A (letOwnedTupleGo tg (.ref it) u) Q E s:=by
 unfold letOwnedTupleGo;cases tg<;>first
  |exact zxH hQ
  |(cases u<;>first
   |exact zxH hQ
   | (refine zxG (wpAny_load ho ?_)
      rw[hc,hd];show wpAny M A (if _=true then _ else _) Q E s;rw[if_neg (by intro h;rw[hn,Bool.false_and]at h;cases h)];exact zxH hQ))
def sE(K:zzA)(a:Addr):It:=
 ⟨λi H=>∃xs x,Xr K H a xs/\xs[i]? = some x,λi H x H'=>H'=H/\∀xs,Xr K H a xs->xs[i]? = some x,λi H=>∃xs,Xr K H a xs/\xs.length<=i⟩
def sH(K:zzA)(a:Addr):It:=
 ⟨λi H=>∃xs x,Q8 K H a xs/\xs[i]? = some x,λi H x H'=>H'=H/\∀xs,Q8 K H a xs->xs[i]? = some x,λi H=>∃xs,Q8 K H a xs/\xs.length<=i⟩
def sf(lo:Int)(n:Nat):It:=⟨λi _=>i<n,λi H x H'=>H'=H/\x = .int (lo+i),λi _=>n<=i⟩
def BL{P w K tg}(a it):Turn P w K tg (sE K a) [it] it (λi h=>h.IsListIter it a i)where
 mem:=by simp
 obj:=λi h st b hb=>by
  have e:b=it:=by simpa using hb
  subst e;obtain⟨o,e,c,d⟩:=st;exact⟨o,e,λv z=>by rw[d]at z;cases z⟩
 keep:=λi h h' st k=>st.at λo e=>k it (by simp) o e
 item:=by
  intro X hP hw hK hc i pins s σ H E I hf st hg;subst hP hw hK;obtain⟨xs,x,hq,hx⟩:=hg;obtain⟨its,rv,p,hz⟩:=I.list hq;obtain⟨u,hu,ru⟩:=rv.get hx;obtain⟨f0,f1,f2,f3,f4,f5⟩:=hf it (by simp);refine wpAny_pyNext_list_item st p.isList (by simpa using hu) λh' st' sb=>?_;have I1:=I.turned (t':=s.toks) (λb o hb e=>(sb.2 b hb).trans e) f0 f1 f3 f4 f5;obtain⟨o,e,c,d⟩:=id st';exact⟨u,rfl,Ou e c d (by decide) ⟨x,H,I1,ru,⟨rfl,λys hy=>by rw[I.list_inj hy hq];exact hx⟩,st',λb hb=>(hf b hb).1⟩⟩
 done:=by
  intro X hP hw hK hc i pins s σ H E I hf st hg;subst hP hw hK;obtain⟨xs,hq,hx⟩:=hg;obtain⟨its,rv,p,hz⟩:=I.list hq;obtain⟨f0,f1,f2,f3,f4,f5⟩:=hf it (by simp);have hl:=rv.length;exact wpAny_pyNext_list_end (I.ok.hd hc) st p.isList (by simp;omega) λh' eb=>⟨rfl,I.turned (t':=s.toks) (λb o hb e=>eb b o hb e) f0 f1 f3 f4 f5⟩
 self:=λ_ _ _ _ _ st h=>wpAny_pyIter_listiter st h
def MS{P w K tg}(a it):Turn P w K tg (sH K a) [it] it (λi h=>h.IsTupleIter it a i)where
 mem:=by simp
 obj:=λi h st b hb=>by
  have e:b=it:=by simpa using hb
  subst e;obtain⟨o,e,c,d⟩:=st;exact⟨o,e,λv z=>by rw[d]at z;cases z⟩
 keep:=λi h h' st k=>st.at λo e=>k it (by simp) o e
 item:=by
  intro X hP hw hK hc i pins s σ H E I hf st hg;subst hP hw hK;obtain⟨xs,x,hq,hx⟩:=hg;obtain⟨its,rv,p,hz⟩:=I.tuple hq;obtain⟨u,hu,ru⟩:=rv.get hx;obtain⟨f0,f1,f2,f3,f4,f5⟩:=hf it (by simp);refine wpAny_pyNext_tuple_item st (p) (x:=u) (by simpa using hu) λh' st' sb=>?_;have I1:=I.turned (t':=s.toks) (λb o hb e=>(sb.2 b hb).trans e) f0 f1 f3 f4 f5;obtain⟨o,e,c,d⟩:=id st';exact⟨u,rfl,Ou e c d (by decide) ⟨x,H,I1,ru,⟨rfl,λys hy=>by rw[I.tuple_inj hy hq];exact hx⟩,st',λb hb=>(hf b hb).1⟩⟩
 done:=by
  intro X hP hw hK hc i pins s σ H E I hf st hg;subst hP hw hK;obtain⟨xs,hq,hx⟩:=hg;obtain⟨its,rv,p,hz⟩:=I.tuple hq;obtain⟨f0,f1,f2,f3,f4,f5⟩:=hf it (by simp);have hl:=rv.length;exact wpAny_pyNext_tuple_end (I.ok.hd hc) st (p) (by simp;omega) λh' eb=>⟨rfl,I.turned (t':=s.toks) (λb o hb e=>eb b o hb e) f0 f1 f3 f4 f5⟩
 self:=λ_ _ _ _ _ st h=>wpAny_pyIter_tupleiter st h
def EE{P w K tg}(it)(lo)(n:Nat):Turn P w K tg (sf lo n) [it] it (λi h=>IsRangeIter h it (lo+(i:Nat)*1) ((n:Int)-(i:Nat)) 1)where
 mem:=by simp
 obj:=λi h st b hb=>by
  have e:b=it:=by simpa using hb
  subst e;exact⟨_,st,λv z=>by
   have z':Data.fields _=Data.cell v:=z;cases z'⟩
 keep:=λi h h' st k=>k it (by simp) _ st
 item:=by
  intro X hP hw hK hc i pins s σ H E I hf st hg;subst hP hw hK;obtain⟨f0,f1,f2,f3,f4,f5⟩:=hf it (by simp);have W:=Walks.range (prog:=X.prog) (w:=X.w) (I.ok.hd hc) it lo 1 n;refine W.item i s _ _ hg st λv h' tk hv st' kk=>?_;obtain⟨t,rfl⟩:=hv;have I1:Inv X pins σ H {s with heap:=h',toks:=tk}:=I.turned (λb o hb e=>kk b o (by simpa using hb) e) f0 f1 f3 f4 f5;refine⟨_,rfl,Ou st' rfl rfl (by decide) ⟨.int<|lo+i,H,I1,⟨t, ?_⟩,⟨rfl,rfl⟩,st',λb hb=>(hf b hb).1⟩⟩;rw[Int.mul_one]
 done:=by
  intro X hP hw hK hc i pins s σ H E I hf st hg;subst hP hw hK;obtain⟨f0,f1,f2,f3,f4,f5⟩:=hf it (by simp);exact wpAny_pyNext_range_end (I.ok.hd hc) st (by have:n<=i:=hg;omega) λh' eb=>⟨rfl,I.turned (t':=s.toks) (λb o hb e=>eb b o hb e) f0 f1 f3 f4 f5⟩
 self:=λ_ _ _ _ _ st h=>wpAny_pyIter_rangeiter st h
end L2
namespace L2
open PySem PySem.Spec PyProof.Rows
section
variable{X:Cx}{tg:Expr}
def u_(K:zzA)(tl:TE):TI:=λσ H R=>tl σ H λx H1=>∃a,x = .ref a/\(∃xs,Xr K H1 a xs)/\R (sE K a) H1
def rT(K:zzA)(tl:TE):TI:=λσ H R=>tl σ H λx H1=>∃a,x = .ref a/\(∃xs,Q8 K H1 a xs)/\R (sH K a) H1
def KR{l tl}(hl:PE X l tl):PI X tg l (u_ X.K tl):=by
 intro pins s σ H R I h;refine thn (hl pins s σ H _ I h) λv s1 ⟨x,H1,I1,r1,q1⟩=>?_;obtain⟨a,e,⟨xs,hq⟩,q⟩:=q1;subst e;cases r1;obtain⟨its,rv,p,hz⟩:=I1.list hq;refine wpAny_pyIter_list p.isList ?_;refine⟨s1.heap.objs.size,[s1.heap.objs.size],_,_,H1,rfl,I1.kept (t':=s1.toks) λb o e=>zxI _ e,BL a _,⟨_,zxK _ rfl,rfl,rfl⟩,λb hb=>?_,q⟩;have e:b=s1.heap.objs.size:=by simpa using hb
 subst e;exact I1.fpOk (zzN _)<|I1.hok.fresh<|zzN _
def Er{l tl}(hl:PE X l tl):PI X tg l (rT X.K tl):=by
 intro pins s σ H R I h;refine thn (hl pins s σ H _ I h) λv s1 ⟨x,H1,I1,r1,q1⟩=>?_;obtain⟨a,e,⟨xs,hq⟩,q⟩:=q1;subst e;cases r1;obtain⟨its,rv,p,hz⟩:=I1.tuple hq;refine wpAny_pyIter_tuple (p) ?_;refine⟨s1.heap.objs.size,[s1.heap.objs.size],_,_,H1,rfl,I1.kept (t':=s1.toks) λb o e=>zxI _ e,MS a _,⟨_,zxK _ rfl,rfl,rfl⟩,λb hb=>?_,q⟩;have e:b=s1.heap.objs.size:=by simpa using hb
 subst e;exact I1.fpOk (zzN _)<|I1.hok.fresh<|zzN _
def SW{pins σ H s R E lo hi t u v}{tk:Nat}(I:Inv X pins σ H s)(h1 : -(2 ^ 62)<=lo)(h2:lo<2 ^ 62)(h3 : -(2 ^ 62)<=hi)(h4:hi<2 ^ 62)
 (q:R (sf lo (hi-lo).toNat) H):wpAny (model X.prog X.w) X.A (pyIter<|.ref s.heap.objs.size) (p5 X pins σ tg R) E {s with heap:=s.heap.push {cls:=.type "range",data:=.fields #[.int lo t,.int hi u,.int 1 v]},toks:=tk}:=by
 refine wpAny_pyIter_range (IsRange.new ..) (small_one h1 h2 h3 h4) ?_;have I1:Inv X pins σ H {s with heap:=s.heap.push {cls:=.type "range",data:=.fields #[.int lo t,.int hi u,.int 1 v]},toks:=tk}:=I.kept λb o e=>zxI _ e;refine⟨(s.heap.push {cls:=.type "range",data:=.fields #[.int lo t,.int hi u,.int 1 v]}).objs.size,[(s.heap.push {cls:=.type "range",data:=.fields #[.int lo t,.int hi u,.int 1 v]}).objs.size],_,_,H,rfl,
  I1.kept (t':=tk) λb o e=>zxI _ e,EE _ lo (hi-lo).toNat, ?_,λb hb=>?_,q⟩
 . have e1:lo+((0:Nat):Int)*1=lo:=by simp
   have e2:(((hi-lo).toNat:Nat):Int)-((0:Nat):Int)=Builtin.Range.rangeSize lo hi 1:=by rw[rangeSize_one];split<;>omega
   rw[e1,e2];exact zxK _ rfl
 . have e:b=(s.heap.push {cls:=.type "range",data:=.fields #[.int lo t,.int hi u,.int 1 v]}).objs.size:=by simpa using hb
   subst e;exact I1.fpOk (zzN _)<|I1.hok.fresh<|zzN _
def sC(ta:TA):TI:=λσ H R=>ta σ H λvs H1=>∃j:Int,vs=[.int j] /\ -(2 ^ 62)<=j/\j<2 ^ 62/\R (sf 0 j.toNat) H1
def GT{a ta p pos}(hg:Gl X "range")(hm:X.mg "range"=none)(ha:PA X [a] ta)(hs:starEach [a] X.env=[(false,eval a X.env)]:=by rfl):PI X tg (.Call (.Name "range" p) [a] [] pos) (sC ta):=by
 intro pins s σ H R I h;refine Call_<|Z1 I hg hm boot_range<|PyProof.Rows.callWith_type1 (thn (ha pos pins s σ H _ I h) λus s1 ⟨vs,H1,I1,r1,q1⟩=>?_) hs rfl;obtain⟨j,e,q1,q2,q⟩:=q1;subst e;cases r1 with
 |cons r rr=>
  cases rr;obtain⟨t,rfl⟩:=r;exact call_range_1 (SW I1 (by omega) (by omega) q1 q2<|by simpa using q)
def qO(wi:TI)(g:TG)(tb:TS):TS:=λD σ H=>wi σ H λJ H1=>∃W:Nat->Nat->St->Hp->Prop,(∃m,W 0 m σ H1)/\∀i m σ H,W i m σ H->
 (J.stop i H/\D.nx σ H)\/(J.go i H/\∃N:St->Hp->Prop,(∀σ' H',N σ' H'->∃m',m'<m/\W (i+1) m' σ' H')/\∀x H',J.yld i H x H'->g x σ H' λσ2 H2=>tb {D with nx:=N,ct:=N,bk:=D.nx} σ2 H2)
def MV(fp:List Addr)(h:Heap):List (Addr×Obj):=fp.filterMap λb=>(h.get? b).map λo=>(b,o)
def Y5(hb:b ∈ fp)(e:h.get? b=some o):(b,o) ∈ MV fp h:=List.mem_filterMap.mpr ⟨b,hb,by rw[e];rfl⟩
def BZ(hp:p ∈ MV fp h):p.1 ∈ fp/\h.get? p.1=some p.2:=by
 obtain⟨b,hb,e⟩:=List.mem_filterMap.mp hp;cases q:h.get? b with
 |none=>rw[q]at e;cases e
 |some o=>
  rw[q]at e;have e':(b,o)=p:=zzZ e;subst e';exact⟨hb,q⟩
def Inv.pinned(I:Inv X pins σ H s)(hf:∀b ∈ fp,RA X pins H b)(ho:∀b ∈ fp,∃o,s.heap.get? b=some o/\∀v,o.data ≠ .cell v):Inv X (pins++MV fp s.heap) σ H s:=
 I.pins_of λp hp=>(zzM.mp hp).elim (λz=>I.pin p<|zzL _ z) λz=>by
  obtain⟨hb,e⟩:=BZ z;obtain⟨f0,f1,f2,_⟩:=hf p.1 hb;obtain⟨o,e',d⟩:=ho p.1 hb;rw[e]at e';cases e';exact⟨e,f0,f1,f2,d⟩
def Inv.unpinned(I:Inv X (pins++pl) σ H s):Inv X pins σ H s:=I.pins_of λp hp=>I.pin p<|zzL _<|zzP _ hp
def A5(hp:PassesOwn (model X.prog X.w) X.A X.env X.xe)(hc:X.calm=true)(hi:PI X tg iter wi)(hg:PG X tg g)(hb:Mv X body tb)
 (hs:∀x,foldedSetIterable iter X.env x=pure x:=by intro _;rfl):PS X (.For tg iter body [] pos) (qO wi g tb):=by
 intro pins s σ H D I h;refine wpAny_For (thn (hi pins s σ H _ I h) λv s1 h1=>thn h1 λitv s2 h2=>?_) hs;obtain⟨it,fp,tn,J,H2,e,I2,T,st2,f2,W,⟨m0,w0⟩,turn⟩:=h2;subst e;have stat:∀{H':Hp},(∀b ∈ fp,H' b=none)->∀b ∈ fp,RA X pins H' b:=λhn b hb=>⟨hn b hb,(f2 b hb).2⟩;refine codeAny_forLoop_any (λn s'=>∃i σ' H',Inv X pins σ' H' s'/\tn i s'.heap/\(∀b ∈ fp,H' b=none)/\W i n σ' H') ?_ m0 ⟨0,σ,H2,I2,st2,λb hb=>(f2 b hb).1,w0⟩
 rintro n s3 ⟨i,σ3,H3,I3,st3,fr3,w3⟩
 rcases turn i n σ3 H3 w3 with⟨stop,qn⟩|⟨go,N,hN,step⟩
 . refine wpAny_passesOwn hp<|thn (T.done X rfl rfl rfl hc i pins s3 σ3 H3 X.xe I3 (stat fr3) st3 stop) λr s4 ⟨hr,I4⟩=>?_;subst hr;exact wpAny_execs_nil ⟨σ3,H3,I4,qn⟩
 . refine wpAny_passesOwn hp<|thn (T.item X rfl rfl rfl hc i pins s3 σ3 H3 X.xe I3 (stat fr3) st3 go) λr s4 ⟨u,hr,h4⟩=>?_;subst hr;refine wpAny_passesOwn hp<|thn h4 λ_ s5 ⟨x,H5,I5,r5,y5,st5,fr5⟩=>?_;have I5':=I5.pinned (stat fr5)<|T.obj _ _ st5;refine wpAny_passesOwn hp<|thn (hg _ s5 σ3 H5 x u _ I5' r5<|step x H5 y5) λ_ s6 ⟨σ6,H6,I6,q6⟩=>?_;refine wpAny_passesOwn hp<|thn (hb _ s6 σ6 H6 _ I6 q6) λf s7 q7=>?_;have again:∀{σ7:St}{H7:Hp},Inv X _ σ7 H7 s7->N σ7 H7->∃m,m<n/\∃i σ' H',Inv X pins σ' H' s7/\tn i s7.heap/\(∀b ∈ fp,H' b=none)/\W i m σ' H':=λ{σ7 H7} I7 n7=>by
    obtain⟨m',hm,w7⟩:=hN σ7 H7 n7;refine⟨m',hm,i+1,σ7,H7,I7.unpinned,T.keep _ _ _ st5 λb hb o e=>(I7.pin (b,o)<|zzL _<|zzL _<|Y5 hb e).1,λb hb=>?_,w7⟩;obtain⟨o,e,d⟩:=T.obj _ _ st5 b hb;exact(I7.pin (b,o)<|zzL _<|zzL _<|Y5 hb e).2.1
   cases f with
   |next=>obtain⟨σ7,H7,I7,n7⟩:=q7;exact again I7 n7
   |cont=>obtain⟨σ7,H7,I7,n7⟩:=q7;exact again I7 n7
   |brk=>obtain⟨σ7,H7,I7,q7⟩:=q7;exact⟨σ7,H7,I7.unpinned,q7⟩
   |ret v=>obtain⟨x7,σ7,H7,I7,r7,q7⟩:=q7;exact⟨x7,σ7,H7,I7.unpinned,r7,q7⟩
end
end L2
namespace L2
open PySem PySem.Spec PyProof.Rows
abbrev R2:=V->V->Hp->VK->Prop
def Rr(X:Cx)(f:Value->Value->Sem Value)(r:R2):Prop:=
 ∀(pins:List (Addr×Obj)) (s:Shared) (σ:St) (H:Hp) (x y:V) (v u:Value) (Q:VK),Inv X pins σ H s->RelV x v->RelV y u->r x y H Q->
  wpAny (model X.prog X.w) X.A (f v u) (EP X pins σ Q) X.xe s
def sF(X:Cx)(f:Value->Sem Value)(r:V->Hp->VK->Prop):Prop:=
 ∀(pins:List (Addr×Obj)) (s:Shared) (σ:St) (H:Hp) (x:V) (v:Value) (Q:VK),Inv X pins σ H s->RelV x v->r x H Q->
  wpAny (model X.prog X.w) X.A (f v) (EP X pins σ Q) X.xe s
def X5(X:Cx)(f:Value)(r:List V->Hp->VK->Prop):Prop:=
 ∀(pins:List (Addr×Obj)) (s:Shared) (σ:St) (H:Hp) (xs:List V) (us:List Value) (Q:VK),Inv X pins σ H s->yd xs us->r xs H Q->
  wpAny (model X.prog X.w) X.A (call f us) (EP X pins σ Q) X.xe s
def qU(X:Cx)(r:V->Hp->(Bool->Hp->Prop)->Prop):Prop:=
 ∀(pins:List (Addr×Obj)) (s:Shared) (σ:St) (H:Hp) (x:V) (v:Value) (Q:Bool->Hp->Prop),Inv X pins σ H s->RelV x v->r x H Q->
  wpAny (model X.prog X.w) X.A (truthy v) (TP X pins σ Q) X.xe s
def t6(r:R2)(ta tb:TE):TE:=λσ H Q=>ta σ H λx H1=>tb σ H1 λy H2=>r x y H2 Q
def oo(r:V->Hp->VK->Prop)(ta:TE):TE:=λσ H Q=>ta σ H λx H1=>r x H1 Q
def rI(C:Int->Int->Prop)(g:Int->Int->V):R2:=λx y H Q=>∃i j,x = .int i/\y = .int j/\C i j/\Q (g i j) H
def Jm(g:Int->Int->V):R2:=λx y H Q=>∃i j,x = .int i/\y = .int j/\Q (g i j) H
def rU(g:Int->V):V->Hp->VK->Prop:=λx H Q=>∃i,x = .int i/\Q (g i) H
section
variable{X:Cx}{a b c:Expr}{ta tb tc:TE}{pos:Pos}
def DB(ha:PE X a ta)(hb:PE X b tb){pins s σ H}{R:V->V->Hp->Prop}(I:Inv X pins σ H s)
 (h:ta σ H λx H1=>tb σ H1 λy H2=>R x y H2) {Q:Value->Shared->Prop}{f:Value->Value->Sem Value}
 (hf:∀v u s2 x y H2,Inv X pins σ H2 s2->RelV x v->RelV y u->R x y H2->wpAny (model X.prog X.w) X.A (f v u) Q X.xe s2):
 wpAny (model X.prog X.w) X.A (eval a X.env) (λv s₁=>wpAny (model X.prog X.w) X.A (eval b X.env) (λu s₂=>wpAny (model X.prog X.w) X.A (f v u) Q X.xe s₂) X.xe s₁) X.xe s:=by
 refine thn (ha pins s σ H _ I h) λv s1 ⟨x,H1,I1,r1,q1⟩=>?_;refine thn (hb pins s1 σ H1 _ I1 q1) λu s2 ⟨y,H2,I2,r2,q2⟩=>?_;exact hf v u s2 x y H2 I2 r1 r2 q2
def ID{op}{r:R2}(ho:Rr X (binaryOp op) r)(ha:PE X a ta)(hb:PE X b tb):PE X (.BinOp a op b pos) (t6 r ta tb):=by
 intro pins s σ H Q I h;exact wpAny_BinOp<|DB ha hb I h λv u s2 x y H2 I2 rx ry q=>ho pins s2 σ H2 x y v u Q I2 rx ry q
def tK(ho:sF X (unaryOp op) r)(ha:PE X a ta):PE X (.UnaryOp op a pos) (oo r ta):=by
 intro pins s σ H Q I h;exact UnaryOp_<|thn (ha pins s σ H _ I h) λv s1 ⟨x,H1,I1,r1,q1⟩=>ho pins s1 σ H1 x v Q I1 r1 q1
def p6{f C}{g:Int->Int->Int}
 (rule:∀(i j:Int) (t u:Tok) (s:Shared) (Q:Value->Shared->Prop) (E:Value->Shared->Prop),C i j->Q (.int (g i j) s.toks) {s with toks:=s.toks+1}->wpAny (model X.prog X.w) X.A (f (.int i t)<|.int j u) Q E s):
 Rr X f (rI C λi j=>.int<|g i j):=by
 intro pins s σ H x y v u Q I rx ry h;obtain⟨i,j,rfl,rfl,hc,q⟩:=h;obtain⟨t,rfl⟩:=rx;obtain⟨t',rfl⟩:=ry;exact rule i j t t' s _ _ hc ⟨.int<|g i j,H,I.tok _,⟨_,rfl⟩,q⟩
def u9{f}{g:Int->Int->Int}
 (rule:∀(i j:Int) (t u:Tok) (s:Shared) (Q:Value->Shared->Prop) (E:Value->Shared->Prop),Q (.int (g i j) s.toks) {s with toks:=s.toks+1}->wpAny (model X.prog X.w) X.A (f (.int i t)<|.int j u) Q E s):
 Rr X f (Jm λi j=>.int<|g i j):=by
 intro pins s σ H x y v u Q I rx ry h;obtain⟨i,j,rfl,rfl,q⟩:=h;obtain⟨t,rfl⟩:=rx;obtain⟨t',rfl⟩:=ry;exact rule i j t t' s _ _ ⟨.int<|g i j,H,I.tok _,⟨_,rfl⟩,q⟩
def CB{f}{g:Int->Int->Bool}
 (rule:∀(i j:Int) (t u:Tok) (s:Shared) (Q:Value->Shared->Prop) (E:Value->Shared->Prop),Q (.bool<|g i j) s->wpAny (model X.prog X.w) X.A (f (.int i t)<|.int j u) Q E s):
 Rr X f (Jm λi j=>.bl<|g i j):=by
 intro pins s σ H x y v u Q I rx ry h;obtain⟨i,j,rfl,rfl,q⟩:=h;obtain⟨t,rfl⟩:=rx;obtain⟨t',rfl⟩:=ry;exact rule i j t t' s _ _ ⟨.bl<|g i j,H,I,rfl,q⟩
def qR(i j:Int):Prop:=0<j/\j<1073741824
def qM(i j:Int):Prop:=0<=j/\j<=1000000/\i.natAbs<2 ^ 64
def J3:Rr X (binaryOp .Add) (Jm λi j=>.int<|i+j):=u9 λ_ _ _ _ _ _ _ q=>add_int q
def J_:Rr X (binaryOp .Sub) (Jm λi j=>.int<|i-j):=u9 λ_ _ _ _ _ _ _ q=>sub_int q
def S6:Rr X (binaryOp .Mod) (rI (λ_ j=>0<j) λi j=>.int<|i%j):=p6 λi j _ _ _ _ _ hc q=>by
 have h1:=hc;exact mod_int' (by omega) (by rw[Int.fmod_eq_emod_of_nonneg i<|by omega];exact q)
def Dn:Rr X (binaryOp .Pow) (rI qM λi j=>.int<|i ^ j.toNat):=p6 λ_ _ _ _ _ _ _ hc q=>pow_int_small hc.1 hc.2.1 hc.2.2 q
def ox{f}{g:Int->Int}
 (rule:∀(i:Int) (t:Tok) (s:Shared) (Q:Value->Shared->Prop) (E:Value->Shared->Prop),Q (.int (g i) s.toks) {s with toks:=s.toks+1}->wpAny (model X.prog X.w) X.A (f<|.int i t) Q E s):
 sF X f (rU λi=>.int<|g i):=by
 intro pins s σ H x v Q I rx h;obtain⟨i,rfl,q⟩:=h;obtain⟨t,rfl⟩:=rx;exact rule i t s _ _ ⟨.int<|g i,H,I.tok _,⟨_,rfl⟩,q⟩
def DS:sF X (unaryOp .USub) (rU λi=>.int (-i)):=ox λ_ _ _ _ _ q=>neg_int q
end
section
variable{X:Cx}{a b c:Expr}{ta tb tc:TE}{pos:Pos}
def xu(I:Inv X pins σ H s)(q:Q (.bl k) H)(e:k=k'):EP X pins σ Q (.bool k') s:=by
 subst e;exact⟨.bl k,H,I,rfl,q⟩
def tM:Rr X (compareOp .Lt) (Jm λi j=>.bl<|decide (i<j)):=CB λ_ _ _ _ _ _ _ q=>lt_int q
def uY:Rr X (compareOp .LtE) (Jm λi j=>.bl<|decide (i<=j)):=CB λ_ _ _ _ _ _ _ q=>le_int q
def uG:Rr X (compareOp .Gt) (Jm λi j=>.bl<|decide (j<i)):=CB λ_ _ _ _ _ _ _ q=>gt_int q
def uA:Rr X (compareOp .GtE) (Jm λi j=>.bl<|decide (j<=i)):=CB λ_ _ _ _ _ _ _ q=>ge_int q
def Bo:Rr X (compareOp .In) (λx y H Q=>∃i j,x = .str i/\y = .str j/\Q (.bl<|!(Builtin.Str.occurrences j i 0 j.length 1).isEmpty) H):=by
 intro pins s σ H x y v u Q I rx ry h;obtain⟨i,j,rfl,rfl,q⟩:=h;obtain⟨t,rfl⟩:=rx;obtain⟨t',rfl⟩:=ry;exact in_str<|xu I q rfl
def JT:Rr X (compareOp .Is) (λx y H Q=>y = .non/\Q (.bl<|decide (x = .non)) H):=by
 intro pins s σ H x y v u Q I rx ry h;obtain⟨rfl,q⟩:=h;cases ry;refine is_none_gen<|xu I q ?_;cases x<;>first
  |(cases rx;rfl)
  |(obtain⟨t,rfl⟩:=rx;rfl)
def C7:Rr X (compareOp .IsNot) (λx y H Q=>y = .non/\Q (.bl<|!decide (x = .non)) H):=by
 intro pins s σ H x y v u Q I rx ry h;obtain⟨rfl,q⟩:=h;cases ry;refine isnot_none_gen<|xu I q ?_;cases x<;>first
  |(cases rx;rfl)
  |(obtain⟨t,rfl⟩:=rx;rfl)
def L0:Rr X (compareOp .NotIn) (λx y H Q=>∃i j,x = .str i/\y = .str j/\Q (.bl<|!(!(Builtin.Str.occurrences j i 0 j.length 1).isEmpty)) H):=by
 intro pins s σ H x y v u Q I rx ry h;obtain⟨i,j,rfl,rfl,q⟩:=h;obtain⟨t,rfl⟩:=rx;obtain⟨t',rfl⟩:=ry;exact notIn_str<|xu I q rfl
def OO(b)(h:op ≠ .In:=by decide)(h2:op ≠ .NotIn:=by decide):behindInMarks op b=false:=by
 have e1:(op==CmpOp.In)=false:=by cases op<;>first|rfl|exact absurd rfl h
 have e2:(op==CmpOp.NotIn)=false:=by cases op<;>first|rfl|exact absurd rfl h2
 cases b<;>simp[behindInMarks,e1,e2]
def O1{op}{r:R2}(ho:Rr X (compareOp op) r)(ha:PE X a ta)(hb:PE X b tb)(hm:behindInMarks op b=false):PE X (.Compare a [op] [b] pos) (t6 r ta tb):=by
 intro pins s σ H Q I h;exact wpAny_Compare1 (DB ha hb I h λv u s2 x y H2 I2 rx ry q=>ho pins s2 σ H2 x y v u Q I2 rx ry q) hm
def uD(t:TE):TT:=λσ H Q=>t σ H λx H'=>∃k,x = .bl k/\Q k H'
def Ih(ho:Rr X (compareOp op) r)(ha:PE X a ta)(hb:PE X b tb)(hm:behindInMarks op b=false):PT X (.Compare a [op] [b] pos) (uD<|t6 r ta tb):=by
 intro pins s σ H Q I h;refine wpAny_isTrue_Compare1 (thn (ha pins s σ H _ I h) λv s1 ⟨x,H1,I1,r1,q1⟩=>thn (hb pins s1 σ H1 _ I1 q1) λu s2 ⟨y,H2,I2,r2,q2⟩=>
  thn (ho pins s2 σ H2 x y v u _ I2 r1 r2 q2) λc s3 ⟨z,H3,I3,r3,k,e,q3⟩=>?_) hm
 subst e;cases r3;exact wpAny_truthy_bool ⟨H3,I3,q3⟩
def D3(K:zzA)(x:V)(H:Hp)(k:Bool):Prop:=
 match x with
 | .non=>k=false
 | .bl b=>k=b
 | .int i=>k=(i != 0)
 | .str y=>y.length<=sizeLine/\k=((y.length:Int) != 0)
 | .byt y=>y.size<=sizeLine/\k=((y.size:Int) != 0)
 | .ref p=>(∃xs,Xr K H p xs/\k = !xs.isEmpty)\/(∃xs,Q8 K H p xs/\k = !xs.isEmpty)\/∃kvs,H p=some (.dK kvs)/\k = !kvs.isEmpty
 |_=>False
def MU(r:KV kvs vs):(!vs.isEmpty) = !kvs.isEmpty:=by
 cases r<;>rfl
def TB(r:yd xs its):(!its.toArray.isEmpty) = !xs.isEmpty:=by
 cases r<;>simp
def Vz:(sizeLine:Nat)<2 ^ 63:=by rw[sizeLine_eq];decide
def Ju:qU X (λx H Q=>∃k,D3 X.K x H k/\Q k H):=by
 intro pins s σ H x v Q I rx h;obtain⟨k,e,q⟩:=h;have hl:=Vz;have hs:=sizeLine_eq;cases x with
 |non=>
  cases rx;have e':k=false:=e;subst e';exact truthy_none ⟨H,I,q⟩
 |bl b=>
  cases rx;have e':k=b:=e;subst e';exact wpAny_truthy_bool ⟨H,I,q⟩
 |int i=>
  obtain⟨t,rfl⟩:=rx;have e':k=(i != 0):=e;subst e';exact PySem.P.truthy_int ⟨H,I,q⟩
 |str y=>
  obtain⟨t,rfl⟩:=rx;obtain⟨hy,e'⟩:y.length<=sizeLine/\k=_:=e;subst e';exact PySem.P.truthy_str (by omega) ⟨H,I.tok _,q⟩
 |byt y=>
  obtain⟨t,rfl⟩:=rx;obtain⟨hy,e'⟩:y.size<=sizeLine/\k=_:=e;subst e';exact W.truthy_bytes (by omega) ⟨H,I.tok _,q⟩
 |ref p=>
  cases rx;have e':_\/_\/∃kvs,H p=some (.dK kvs)/\k = !kvs.isEmpty:=e
  rcases e' with⟨xs,hx,e'⟩|⟨xs,hx,e'⟩|⟨kvs,hx,e'⟩
  . subst e';obtain⟨its,r,pl,hz⟩:=I.list hx;have hlen:=r.length;exact wpAny_truthy_list pl.isList (by simp only[zzH];omega) ⟨H,I.tok _,by rw[TB r];exact q⟩
  . subst e';obtain⟨its,r,pl,hz⟩:=I.tuple hx;have hlen:=r.length;exact truthy_tuple pl (by simp only[zzH];omega) ⟨H,I.tok _,by rw[TB r];exact q⟩
  . subst e';obtain⟨hz,hS,vs,r,m⟩:kvs.length<=sizeLine/\_=false/\∃vs,KV kvs vs/\s.heap.DictOf _ p vs:=I.hok p _ hx;have hlen:=Paired.length r;exact wpAny_truthy_dict hS m (by omega) ⟨H,I.tok _,by rw[MU r];exact q⟩
 |_=>exact(e).elim
def HY(ha:PE X a ta)(he:∀whole,isTrue a X.env whole=(do let v <-whole;standAt a.pos;holding [v] (truthy v))):
 PT X a (λσ H Q=>ta σ H λx H'=>∃k,D3 X.K x H' k/\Q k H'):=by
 intro pins s σ H Q I h;exact isTrue_plain (thn (ha pins s σ H _ I h) λv s1 ⟨x,H1,I1,r1,q1⟩=>Ju pins s1 σ H1 x v Q I1 r1 q1)<|he _
def Em:Rr X (binaryOp .Add) (λx y H Q=>∃i j,x = .str i/\y = .str j/\i.length+j.length<=sizeLine/\Q (.str<|i++j) H):=by
 intro pins s σ H x y v u Q I rx ry h;obtain⟨i,j,rfl,rfl,hz,q⟩:=h;obtain⟨t,rfl⟩:=rx;obtain⟨t',rfl⟩:=ry;exact add_str (λt' tk=>⟨.str<|i++j,H,I.tok _,⟨_,rfl⟩,q⟩) hz
def vals1(r:yd [x] us):∃u,us=[u]/\RelV x u:=by
 cases r with
 |cons r1 r2=>cases r2;exact⟨_,rfl,r1⟩
def vals2(r:yd [x,y] us):∃u w',us=[u,w']/\RelV x u/\RelV y w':=by
 cases r with
 |cons r1 r2=>
  cases r2 with
  |cons r3 r4=>cases r4;exact⟨_,_,rfl,r1,r3⟩
def Bf(hc:X.calm=true):X5 X (.builtin "max") (λxs H Q=>∃i j,xs=[.int i,.int j]/\Q (.int (if j > i then j else i)) H):=by
 intro pins s σ H xs us Q I r h;obtain⟨i,j,rfl,q⟩:=h;obtain⟨u,w',rfl,⟨t,rfl⟩,⟨t',rfl⟩⟩:=vals2 r;refine max_two_ints (I.ok.hd hc) λh' tk k=>⟨_,H,I.kept k, ?_,q⟩
 by_cases hj:j > i
 . rw[if_pos hj,if_pos hj];exact⟨_,rfl⟩
 . rw[if_neg hj,if_neg hj];exact⟨_,rfl⟩
def Kv:X5 X (.type "int") (λxs H Q=>(∃i,xs=[.int i]/\Q (.int i) H)\/∃k,xs=[.bl k]/\Q (.int (if k then 1 else 0)) H):=by
 intro pins s σ H xs us Q I r h
 rcases h with⟨i,rfl,q⟩|⟨k,rfl,q⟩
 . obtain⟨u,rfl,t,rfl⟩:=vals1 r;exact call_int_int ⟨.int i,H,I,⟨_,rfl⟩,q⟩
 . obtain⟨u,rfl,r1⟩:=vals1 r;cases r1;exact call_int_bool ⟨.int _,H,I.tok _,⟨_,rfl⟩,q⟩
def Ny:X5 X (.builtin "divmod") (λxs H Q=>∃i j,xs=[.int i,.int j]/\qR i j/\∀p,H p=none->Q (.ref p) (upd H p<|.tup [.int<|i/j,.int<|i%j])):=by
 intro pins s σ H xs us Q I r h;obtain⟨i,j,rfl,⟨h1,h2⟩,q⟩:=h;obtain⟨u,w',rfl,⟨t,rfl⟩,⟨t',rfl⟩⟩:=vals2 r;refine divmod_int (by omega) ?_ (.inl<|PyProof.noPylong_small<|by omega);rw[Int.fdiv_eq_ediv_of_nonneg i (by omega),Int.fmod_eq_emod_of_nonneg i<|by omega];have hn:=I.hok.fresh<|zzN _;refine⟨.ref s.heap.objs.size,_, ?_,rfl,q _ hn⟩;refine I.laid (λb o e=>zxI _ e) (zzN _) ⟨by simp only[zzT,List.length_nil];rw[sizeLine_eq];decide,[.int (i/j) s.toks,.int (i%j)<|s.toks+1],.cons ⟨_,rfl⟩<|.cons ⟨_,rfl⟩ .nil, ?_⟩;exact⟨_,zxK s.heap rfl,rfl,0,rfl⟩
end
end L2
namespace L2
open PySem PySem.Spec PyProof.Rows
def PZ.some_of(r:PZ (some v) o):∃u,o=some u/\RelV v u:=by
 cases o with
 |none=>exact(r).elim
 |some u=>exact⟨u,rfl,r⟩
structure Cls(K:zzA)(C:Addr):Prop where
 pg:W.plainGet K C Str.empty=true
 hd:W.hasDictIn K C=true
 po:W.plainOver K C=true
 sa:W.findIn K (.ref C) "__setattr__"=some (some<|.builtin "object.__setattr__")
section
variable{X:Cx}{pins:List (Addr×Obj)}{σ:St}{H:Hp}{s:Shared}{A:Around}{E:Value->Shared->Prop}{Q:Value->Shared->Prop}{c:Value}{b:Bool}
inductive TyOf(K:zzA)(H:Hp):V->Value->Prop where
 |non:TyOf K H .non (.type "NoneType")
 |bl (x:Bool):TyOf K H (.bl x) (.type "bool")
 |int (i:Int):TyOf K H (.int i) (.type "int")
 |str (x:Str):TyOf K H (.str x) (.type "str")
 |flt (x:UInt64):TyOf K H (.flt x) (.type "float")
 |lst {a:Addr}{xs:List V}(e:H a=some (.lst xs)):TyOf K H (.ref a) (.type "list")
 |frz {a:Addr}{o:Obj}{xs:List V}(e:H a=some (.frz o (.lst xs))):TyOf K H (.ref a) (.type "list")
 |tup {a:Addr}{xs:List V}(e:H a=some (.tup xs)):TyOf K H (.ref a) (.type "tuple")
 |dK {a:Addr}{kvs:List (Key×V)}(e:H a=some (.dK kvs)):TyOf K H (.ref a) (.type "dict")
 |dT {a:Addr}{kvs:List (List Key×V)}(e:H a=some (.dT kvs)):TyOf K H (.ref a) (.type "dict")
 |ins {a C dx:Addr}{fs:List (Str×V)}(e:H a=some (.ins C dx fs)) (cl:Cls K C) (ha:W.findIn K (.ref C) "__class__"=some (some (.builtin "object.__class__")))
  (hn:W.specialIn K (.builtin "object.__class__") "__get__"=some (some<|.builtin "getset_descriptor.__get__")) (htk:W.takesIn K (.builtin "object.__class__")=some true)
  (hm:W.mroIn K C (.type "object")=some true):TyOf K H (.ref a) (.ref C)
end
end L2
namespace L2
open PySem PySem.Spec PyProof.Rows
structure Room(k:Nat)(A:Around):Prop where
 hd:A.handled=none
 dp:A.depth+3*k+5<recursionLimit
 un:A.units+16*k+200<cLine
 gd:A.guards=some []
def Room.mono(r:Room k A)(h:j<=k):Room j A:=⟨r.hd,by have:=r.dp;omega,by have:=r.un;omega,r.gd⟩
theorem Room.deeper(r:Room (k+1) A)(env):Room k (A.deeper env):=
 ⟨r.hd,by have:=r.dp;show A.depth+1+3*k+5<_;omega,by have:=r.un;show A.units+3+16*k+200<_;omega,r.gd⟩
theorem Room.depth(r:Room k A):A.depth<recursionLimit:=by have:=r.dp;omega
theorem Room.units(r:Room k A):A.units+64<cLine:=by have:=r.un;omega
def JA:TA:=λ_ H Q=>Q [] H
def OM(ta:TE)(tr:TA):TA:=λσ H Q=>ta σ H λx H1=>tr σ H1 λxs H2=>Q (x::xs) H2
section
variable{X:Cx}{e:Expr}{es:List Expr}{te:TE}{t:TA}{pos:Pos}
def XG:PA X [] JA:=λ_ _ _ _ H Q I h=>Calls.spliced_nil ⟨[],H,I,.nil,h⟩
def Zj(ha:PE X e te)(hr:PA X es t)(hs:starEach (e::es) X.env=(false,eval e X.env)::starEach es X.env:=by rfl):PA X (e::es) (OM te t):=by
 intro pos pins s σ H Q I h;rw[hs];refine Calls.spliced_cons<|thn (ha pins s σ H _ I h) λu s1 ⟨x,H1,I1,r1,q1⟩=>?_;exact thn (hr pos pins s1 σ H1 _ I1 q1) λus s2 ⟨xs,H2,I2,r2,q2⟩=>⟨x::xs,H2,I2,.cons r1 r2,q2⟩
def qQ(t:TA):TE:=λσ H Q=>t σ H λxs H1=>xs.length<=sizeLine/\∀p,H1 p=none->Q (.ref p) (upd H1 p<|.tup xs)
def qZ(t:TA):TE:=λσ H Q=>t σ H λxs H1=>xs.length<=sizeLine/\∀p,H1 p=none->Q (.ref p) (upd H1 p<|.lst xs)
def Ay(h:PA X es t):PE X (.Tuple es x1 pos) (qQ t):=by
 intro pins s σ H Q I hq;refine wpAny_Tuple_spliced<|thn (h pos pins s σ H _ I hq) λus s1 ⟨xs,H1,I1,r,z,q⟩=>⟨by rw[<-r.length];exact z, ?_⟩;have hf:=I1.hok.fresh<|zzN _;refine⟨.ref s1.heap.objs.size,upd H1 s1.heap.objs.size _,I1.laid (t':=s1.toks) (λb u e=>zxI _ e) (zzN _) ?_,rfl,q _ hf⟩;exact⟨z,us,r,⟨_,zxK _ rfl,rfl,_,rfl⟩⟩
def DX(h:PA X es t):PE X (.List es pos) (qZ t):=by
 intro pins s σ H Q I hq;refine wpAny_List_spliced<|thn (h pos pins s σ H _ I hq) λus s1 ⟨xs,H1,I1,r,z,q⟩=>⟨by rw[<-r.length];exact z, ?_⟩;have hf:=I1.hok.fresh<|zzN _;refine⟨.ref s1.heap.objs.size,upd H1 s1.heap.objs.size _,I1.laid (t':=s1.toks) (λb u e=>zxI _ e) (zzN _) ?_,rfl,q _ hf⟩;exact⟨z,us,0,r,zxK _ rfl⟩
end
abbrev Sp:=List V->Hp->VK->XK->Prop
abbrev Iw:=List Env->Hp->Shared->XK->Value->Shared->Prop
structure Env0(P:Program)(w:World)(K:zzA)(mg:Str->Option Value)(base:Heap)(A:Around)(outer:List Env)(s:Shared)(H:Hp):Prop where
 frames:A.frames=some outer
 mod:Mod K mg base
 bs:∀b o,base.get? b=some o->s.heap.get? b=some o/\H b=none
 bsz:base.objs.size<=s.heap.objs.size
 funs:s.heap.FunFrames base outer
 frf:∀b ∈ B7 outer,H b=none
 hok:QJ P w H s.heap
 bare:AllBare s.gens
def CE(outer:List Env)(P:Program)(w:World)(H:Hp)(s:Shared)(Q:VK)(u:Value)(s':Shared):Prop:=
 ∃v H',s'.os=s.os/\AllBare s'.gens/\Un (B7 outer) [] H H' s.heap s'.heap/\QJ P w H' s'.heap/\RelV v u/\Q v H'
def CR(CX:Iw)(outer:List Env)(P:Program)(w:World)(H:Hp)(s:Shared)(Q:VK)(E:XK)(r:Result)(s':Shared):Prop:=
 match r with
 | .ok (.ret u)=>CE outer P w H s Q u s'
 | .ok _=>False
 | .error e=>CX outer H s E e s'
structure FnOk(P:Program)(w:World)(K:zzA)(mg:Str->Option Value)(base:Heap)(CX:Iw)(k:Nat)(f:Addr)(fd:FuncData)(ps:List Str)(sp:Sp):Prop where
 len:∀vs H Q E,sp vs H Q E->vs.length=ps.length
 run:∀(A:Around) (outer:List Env) (s:Shared) (H:Hp) (args:Args) (us:List Value) (vs:List V) (Q:VK) (E:XK),Room k A->Env0 P w K mg base A outer s H->BindsTo s fd args (ps.zip us)->yd vs us->sp vs H Q E->
  codeAny (model P w) A (.call (.ref f) args) (CR CX outer P w H s Q E) s
def FnOk.imp{P w K mg base CX}{k:Nat}{f fd ps sp sp'}(F:FnOk P w K mg base CX k f fd ps sp)
 (h:∀vs H Q E,sp' vs H Q E->sp vs H Q E):FnOk P w K mg base CX k f fd ps sp':=
 ⟨λvs H Q E q=>F.len vs H Q E<|h _ _ _ _ q,λA outer s H args us vs Q E hr he hb hv hs=>F.run A outer s H args us vs Q E hr he hb hv<|h _ _ _ _ hs⟩
section
variable{X:Cx}{pins:List (Addr×Obj)}{σ:St}{H:Hp}{s s':Shared}
def Inv.env0(I:Inv X pins σ H s):Env0 X.prog X.w X.K X.mg X.base X.A X.stack s H:=
 ⟨I.ok.frames,I.ok.mod,I.bs,zzO I.ok.bsz I.sz,I.stack,I.stkFree,I.hok,I.bare⟩
def Inv.after(I:Inv X pins σ H s)(h:CE X.stack X.prog X.w H s Q u s'):EP X pins σ Q u s':=by
 obtain⟨v,H',os,bare,un,hok,r,q⟩:=h;obtain⟨hh,g,d,t,os'⟩:=s';obtain rfl:os'=s.os:=os;exact⟨v,H',I.call (h':=hh) (g':=g) (d':=d) (t':=t) un hok bare (λb z=>absurd z<|by simp),r,q⟩
end
def Jr(sp:Sp)(dvs:List V)(E:XK)(t:TA):TE:=λσ H Q=>t σ H λvs H1=>sp (vs++dvs) H1 Q E
def Binds(K:zzA)(fd:FuncData)(ps:List Str)(ds:List Value):Prop:=
 ∀(s:Shared) (us:List Value),K.In s.heap->(us++ds).length=ps.length->BindsTo s fd ⟨us,[]⟩ (ps.zip<|us++ds)
def Binds.all{K fd ps}(h:∀us:List Value,us.length=ps.length->bindArgs fd ⟨us,[]⟩=pure (ps.zip us)):Binds K fd ps []:=λs us _ hl=>by
 rw[zyE]at hl ⊢;exact .of_eq<|h us hl
def LM(CX:Iw)(X:Cx)(E:XK):Prop:=∀(pins:List (Addr×Obj)) (σ:St) (H:Hp) (s:Shared) (e:Value) (s':Shared),Inv X pins σ H s->CX X.stack H s E e s'->X.xe e s'
section
variable{X:Cx}{CX:Iw}{k:Nat}{f C:Addr}{fd:FuncData}{ps:List Str}{sp:Sp}{dvs:List V}{ds:List Value}{E:XK}{x m:Str}{p pos apos:Pos}{e o:Expr}{es:List Expr}{ta:TE}{t:TA}
def JW(F:FnOk X.prog X.w X.K X.mg X.base CX k f fd ps sp)(hr:Room k X.A)(hb:Binds X.K fd ps ds)(hd:yd dvs ds)(hx:LM CX X E)
 (I:Inv X pins σ H s) (r:yd vs us) (h:sp (vs++dvs) H Q E):wpAny (model X.prog X.w) X.A (call (.ref f) us) (EP X pins σ Q) X.xe s:=by
 have r2:=r.append hd;have hl:(us++ds).length=ps.length:=by rw[<-r2.length];exact F.len _ _ _ _ h
 refine wpAny_call<|codeAny_mono (F.run X.A X.stack s H ⟨us,[]⟩ _ _ Q E hr I.env0 (hb s us I.kIn hl) r2 h) λr s' hq=>?_;cases r with
 |error e=>exact hx pins σ H s e s' I hq
 |ok fl=>
  cases fl with
  |ret u=>exact I.after hq
  |next=>exact False.elim hq
  |brk=>exact False.elim hq
  |cont=>exact False.elim hq
def C1(F:FnOk X.prog X.w X.K X.mg X.base CX k f fd ps sp)(hr:Room k X.A)(hg:Gl X x)(hm:X.mg x=some (.ref f))(hk:W.keepIn X.K (.ref f)=true)(hb:Binds X.K fd ps ds)(hd:yd dvs ds)(hx:LM CX X E)
 (ha:PA X (e::es) t) (hdb:(x==("__debug__":Str))=false:=by decide) (he:starEach (e::es) X.env=(false,eval e X.env)::starEach es X.env:=by rfl) (hpl:(backTo pos<|starEach es X.env).any (·.1)=false:=by rfl):
 PE X (.Call (.Name x p) (e::es) [] pos) (Jr sp dvs E t):=by
 intro pins s σ H Q I h;refine wpAny_Call_Name_kw<|Ic I hg hm ?_ hdb;refine W.callWith_K I.ok.mod.kin hk (thn (ha pos pins s σ H _ I h) λus s1 ⟨vs,H1,I1,r,q⟩=>⟨I1.kIn, ?_⟩) he hpl;exact JW F hr hb hd hx I1 r q
end
section
variable{X:Cx}{CX:Iw}{k:Nat}{f C:Addr}{fd:FuncData}{ps ks:List Str}{sp:Sp}{E:XK}{x m:Str}{p pos apos kpos:Pos}{e o:Expr}{es:List Expr}{kws:List Keyword}{te ta:TE}{t tk:TA}{nm:Option Str}
variable{g:List Value->List Value->List Value}{gV:List V->List V->List V}
end
structure FnScope(N P:List Str)(sc:Scope):Prop where
 kind:sc.kind = .function
 co:sc.isCoroutine=false
 gen:sc.isGenerator=false
 nd:N.Nodup
 pre:N.take P.length=P
 par:∀x ∈ P,sc.names.lookup x=some .local\/sc.names.lookup x=some .cell
 nofree:∀y ∈ sc.names,y.2 ≠ .free
theorem KI{kindOf x}:∀{binds:List (Str×Value)}{m:Str->Option Value},(∀v,(x,v) ∉ binds)->bindL kindOf binds m x=m x
 | [],_,_=>rfl
 |(n,v)::r,m,h=>by
  unfold bindL;rw[KI λw hw=>h w<|zzD _ hw]
  split
  . have:x≠n:=by rintro rfl;exact h v zzF
    simp[this]
  . rfl
theorem Kb{kindOf x}:∀{binds:List (Str×Value)}{m:Str->Option Value},(∀v,(x,v) ∉ binds)->bindC kindOf binds m x=m x
 | [],_,_=>rfl
 |(n,v)::r,m,h=>by
  unfold bindC;rw[Kb λw hw=>h w<|zzD _ hw]
  split
  . rfl
  . have:x≠n:=by rintro rfl;exact h v zzF
    simp[this]
theorem KB{kindOf x v}:∀{P:List Str}{vs:List Value}{i:Nat}{m:Str->Option Value},P.Nodup->P[i]? = some x->vs[i]? = some v->kindOf x=some .local->
 bindL kindOf (P.zip vs) m x=some v
 | [],_,_,_,_,h,_,_=>by simp at h
 |_::_,[],_,_,_,_,h,_=>by simp at h
 |p::P,w::vs,0,m,nd,h1,h2,hk=>by
  simp at h1 h2;subst h1;subst h2;show bindL kindOf (_::P.zip vs) m p=_;unfold bindL;rw[KI λv hv=>(zzW.mp nd).1 (List.of_mem_zip hv).1,if_pos hk];simp
 |p::P,w::vs,i+1,m,nd,h1,h2,hk=>by
  unfold bindL;exact KB (zzW.mp nd).2 (by simpa using h1) (by simpa using h2) hk
theorem Kf{kindOf x v}:∀{P:List Str}{vs:List Value}{i:Nat}{m:Str->Option Value},P.Nodup->P[i]? = some x->vs[i]? = some v->kindOf x≠some .local->
 bindC kindOf (P.zip vs) m x=some v
 | [],_,_,_,_,h,_,_=>by simp at h
 |_::_,[],_,_,_,_,h,_=>by simp at h
 |p::P,w::vs,0,m,nd,h1,h2,hk=>by
  simp at h1 h2;subst h1;subst h2;show bindC kindOf (_::P.zip vs) m p=_;unfold bindC;rw[Kb λv hv=>(zzW.mp nd).1 (List.of_mem_zip hv).1,if_neg hk];simp
 |p::P,w::vs,i+1,m,nd,h1,h2,hk=>by
  unfold bindC;exact Kf (zzW.mp nd).2 (by simpa using h1) (by simpa using h2) hk
def start(N:List Str)(vs:List V):St:=vs.map some++List.replicate (N.length-vs.length) none
def Nw(CX:Iw)(P:Program)(w:World)(K:zzA)(mg:Str->Option Value)(base:Heap)(N:List Str)(qual:Str)(scope:Scope)(f:Addr)(cd:Value)(A:Around)(outer:List Env)(s:Shared)(H:Hp)(E:XK):Cx where
 prog:=P
 w:=w
 K:=K
 mg:=mg
 base:=base
 A:=A.deeper (envOfC qual scope s.heap.objs.size f cd)
 N:=N
 s₀:=s
 H₀:=H
 env:=envOfC qual scope s.heap.objs.size f cd
 outer:=outer
 stack:=envOfC qual scope s.heap.objs.size f cd::outer
 ex:=[]
 calm:=true
 fn:=λ_=>true
 pn:=[]
 xe:=λe s'=>wpAny (model P w) (A.deeper<|envOfC qual scope s.heap.objs.size f cd) (leaving (envOfC qual scope s.heap.objs.size f cd) e) (λ_ s''=>CX outer H s E e s'') (λe' s''=>CX outer H s E e' s'') s'
def Ml{sc:Scope}{n:Nat}{x}(h:sc.names.lookup x=some .cell):∃c,(cellsFrom n sc.names []).lookup x=some c:=by
 have q:=W.cellsFrom_some sc.names n []<|.inl h;exact Option.isSome_iff_exists.mp q
def BI{CX P w K mg base N ps qual scope f cd A outer s s1 H E us vs}
 (S:FnScope N ps scope) (hd:A.handled=none) (e0:Env0 P w K mg base A outer s H) (hl:vs.length=ps.length) (r:yd vs us)
 (x:InCallC s s.heap.objs.size (bindL (envOfC qual scope s.heap.objs.size f cd).kindOf (ps.zip us) λ_=>none) (cellsFrom (s.heap.objs.size+1) scope.names []) (bindC (envOfC qual scope s.heap.objs.size f cd).kindOf (ps.zip us) λ_=>none) s1):
 Inv (Nw CX P w K mg base N qual scope f cd A outer s H E) [] (start N vs) H s1:=by
 have hpl:ps.length<=N.length:=by have:=congrArg List.length S.pre;rw[zzS]at this;omega
 obtain⟨h1,tk,rfl,hk⟩:=x.done;have noA:∀b:Addr,b ∉ (Nw CX P w K mg base N qual scope f cd A outer s H E).ex:=λb z=>absurd (show b ∈ ([]:List Addr)from z) (by simp);refine⟨⟨e0.mod,S.kind,rfl,rfl,zzN _,λy z c h1 h2=>?_,λy hy=>?_,λy c _ h=>?_,λ_=>hd,Around.frames_deeper e0.frames,.inr ⟨rfl,rfl⟩,λb z=>absurd z<|noA b,e0.bs,e0.bsz,λb _ _=>noA b,λb z=>absurd z<|noA b,e0.funs,e0.frf⟩,
  rfl,e0.bare,Un.kept hk,⟨_,x.toInCall.ns,λi y v h1 h2 h3=>?_⟩,λy c h=>⟨_,x.cell y c h⟩,e0.hok.fresh<|zzN _,λy c h=>?_,λp hp=>absurd (show p ∈ ([]:List _)from hp) (by simp),e0.hok.kept hk, ?_⟩
 . exact name_of_addr x.apart (PySem.mem_of_lookup h1)<|PySem.mem_of_lookup h2
 . have hy:=hy
   rcases hy with hy|hy
   . exact Ml hy
   . exact absurd rfl<|S.nofree _<|PySem.mem_of_lookup hy
 . exact Nat.le_of_lt<|x.above y c<|PySem.mem_of_lookup h
 . have hi:i<vs.length:=by
    unfold start at h2
    by_cases hi:i<vs.length
    . exact hi
    . rw[zyR<|by simpa using hi]at h2;rw[List.getElem?_replicate]at h2
      split at h2<;>cases h2
   have ha:vs[i]? = some v:=by
    unfold start at h2;rw[zyP (by simpa using hi),zzI]at h2;cases e:vs[i]? with
    |none=>rw[e]at h2;cases h2
    |some a=>rw[e]at h2;cases h2;rfl
   obtain⟨u,hu,rv⟩:=r.get ha;have hp:ps[i]? = some y:=by
    rw[<-S.pre,List.getElem?_take_of_lt<|by omega];exact h1
   have ndP:ps.Nodup:=by rw[<-S.pre];exact S.nd.sublist<|List.take_sublist _ _
   refine⟨u,rv, ?_⟩
   rcases S.par y (zyA hp)with k|k
   . exact .inl ⟨k,KB ndP hp hu k⟩
   . obtain⟨c,e⟩:=Ml k;refine .inr ⟨.inl k,c,e, ?_⟩;have q:=x.cell y c e;rw[Kf ndP hp hu (by show scope.names.lookup y≠_;rw[k];decide)]at q;exact q
 . exact e0.hok.fresh<|Nat.le_of_lt<|x.above y c<|PySem.mem_of_lookup h
 . unfold start;show _=N.length;rw[zzJ,zzB,List.length_replicate];omega
def uM{CX P w K mg base}{k:Nat}{f name qual params body scope dV kV doc pm cdv ct oc an od}
 {osl N ps sp}(lk:K.lookup f=some ⟨oc,od,.func<|W.fnOf name qual params body scope dV kV doc pm an cdv ct,osl⟩) (hcd:W.codeIn K cdv qual=true) (S:FnScope N ps scope)
 (len:∀vs H Q E,sp vs H Q E->vs.length=ps.length)
 (hbody:∀(A:Around) (outer:List Env) (s:Shared) (H:Hp) (vs:List V) (Q:VK) (E:XK),Room k (A.deeper<|envOfC qual scope s.heap.objs.size f cdv)->sp vs H Q E->
  ∃t,Mv (Nw CX P w K mg base N qual scope f cdv A outer s H E) body t/\t {nx:=λ_ H'=>Q .non H',rt:=Q} (start N vs) H):
 FnOk P w K mg base CX (k+1) f (W.fnOf name qual params body scope dV kV doc pm an cdv ct) ps sp:=by
 refine⟨len,λA outer s H args us vs Q E hr e0 hb r hsp=>?_⟩;have hl:=len _ _ _ _ hsp;have KX:=e0.mod.kin.keeps λb o e=>(e0.bs b o e).1;have lim:=e0.mod.nolimit.keeps λb o e=>(e0.bs b o e).1;have hkind:∀y ∈ ps.zip us,scope.names.lookup y.1=some .local\/(scope.names.lookup y.1=some .cell/\((cellsFrom (s.heap.objs.size+1) scope.names []).lookup y.1).isSome=true):=λ⟨n,v⟩ hy=>by
  rcases S.par n (List.of_mem_zip hy).1 with q|q
  . exact .inl q
  . exact .inr ⟨q,W.cellsFrom_some _ _ _<|.inl q⟩
 refine codeAny_call_function hr.depth (KX _ _ lk) rfl S.co S.gen rfl (W.codeRec_of KX hcd)<|hb _ _ _ _ ?_;refine wpAny_newFunctionEnv_cells S.kind hkind λenv he s1 x=>?_;subst he;refine⟨lim.keeps x.toInCall.keep,codeAny_func ?_⟩;obtain⟨t,ht,hq⟩:=hbody A outer s H vs Q E (hr.deeper _) hsp;have I:Inv (Nw CX P w K mg base N qual scope f cdv A outer s H E) [] _ H s1:=BI S hr.hd e0 hl r x;refine zxO (ht [] s1 _ H _ I hq) (λfl s' hs=>?_) λe s' hs=>hs;have fin:∀{σ':St}{H':Hp}{v:V}{u:Value},Inv (Nw CX P w K mg base N qual scope f cdv A outer s H E) [] σ' H' s'->RelV v u->Q v H'->CE outer P w H s Q u s':=
  λ{σ' H' v u} J rv q=>⟨v,H',J.os,J.bare,J.base,J.hok,rv,q⟩
 cases fl with
 |ret u=>
  obtain⟨v,σ',H',J,rv,q⟩:=hs;exact fin J rv q
 |next=>
  obtain⟨σ',H',J,q⟩:=hs;exact fin (v:=V.non) J rfl q
 |brk=>
  obtain⟨_,_,_,q⟩:=hs;exact False.elim q
 |cont=>
  obtain⟨_,_,_,q⟩:=hs;exact False.elim q
end L2
namespace L2
open PySem PySem.Spec PyProof.Rows
section
variable{X:Cx}{x:Str}{p pos:Pos}{e:Expr}{es:List Expr}{t:TA}{id T:String}{r:List V->Hp->VK->Prop}
def pE(r:List V->Hp->VK->Prop)(t:TA):TE:=λσ H Q=>t σ H λvs H1=>r vs H1 Q
def Pj(hc:X5 X (.builtin id) r)(hg:Gl X x)(hm:X.mg x=none)(hv:bootBuiltins x=some (.builtin id))(ha:PA X (e::es) t)(hn:x≠"__name__":=by decide)(hdb:(x==("__debug__":Str))=false:=by decide)
 (he:starEach (e::es) X.env=(false,eval e X.env)::starEach es X.env:=by rfl) (hpl:(backTo pos<|starEach es X.env).any (·.1)=false:=by rfl):PE X (.Call (.Name x p) (e::es) [] pos) (pE r t):=by
 intro pins s σ H Q I h;refine wpAny_Call_Name_kw<|Z1 I hg hm hv ?_ hn hdb;exact PyProof.Rows.callWith_builtin1 (thn (ha pos pins s σ H _ I h) λus s1 ⟨vs,H1,I1,r1,q1⟩=>hc pins s1 σ H1 vs us Q I1 r1 q1) he hpl
def F_(hc:X5 X (.type T) r)(hg:Gl X x)(hm:X.mg x=none)(hv:bootBuiltins x=some (.type T))(ha:PA X (e::es) t)(hn:x≠"__name__":=by decide)(hdb:(x==("__debug__":Str))=false:=by decide)
 (he:starEach (e::es) X.env=(false,eval e X.env)::starEach es X.env:=by rfl) (hpl:(backTo pos<|starEach es X.env).any (·.1)=false:=by rfl):PE X (.Call (.Name x p) (e::es) [] pos) (pE r t):=by
 intro pins s σ H Q I h;refine wpAny_Call_Name_kw<|Z1 I hg hm hv ?_ hn hdb;exact PyProof.Rows.callWith_type1 (thn (ha pos pins s σ H _ I h) λus s1 ⟨vs,H1,I1,r1,q1⟩=>hc pins s1 σ H1 vs us Q I1 r1 q1) he hpl
end
end L2
namespace L2
open PySem PySem.Spec PyProof.Rows
section
variable{κ:Type}[DecidableEq κ]
def wZ(kvs:List (κ×V))(k:κ):Option V:=(kvs.find? λkv=>decide (kv.1=k)).map (·.2)
def putK(kvs:List (κ×V))(k:κ)(v:V):List (κ×V):=
 if(kvs.any λkv=>decide (kv.1=k))=true then kvs.map (λkv=>if kv.1=k then(kv.1,v)else kv)else kvs++[(k,v)]
def TH{p r}{k:κ}(e:p.1=k):wZ (p::r) k=some p.2:=by simp[wZ,List.find?_cons,e]
def P3{p r}{k:κ}(e:¬p.1=k):wZ (p::r) k=wZ r k:=by simp[wZ,List.find?_cons,e]
theorem Pq(k:κ):∀kvs:List (κ×V),(kvs.any λkv=>decide (kv.1=k))=(wZ kvs k).isSome
 | []=>rfl
 |p::r=>by
  rw[List.any_cons]
  by_cases e:p.1=k
  . simp only[TH e,zyO e,Bool.true_or,Option.isSome_some]
  . rw[P3 e,zyG e,Bool.false_or];exact Pq k r
def PZ.isSome_eq(r:PZ o u):o.isSome=u.isSome:=by
 cases o with
 |none=>cases u with
  |none=>rfl
  |some _=>exact(r).elim
 |some _=>cases u with
  |none=>exact(r).elim
  |some _=>rfl
def KV.val{kvs vs}(r:KV kvs vs)(k:κ):PZ (wZ kvs k) (valueAt vs k):=by
 unfold KV at r
 induction r with
 |nil=>exact True.intro
 | @cons p q ps qs h t ih=>
  obtain⟨h1,h2⟩:=h
  by_cases e:p.1=k
  . have e':q.1=k:=h1.symm.trans e;have b:valueAt (q::qs) k=some q.2:=by simp[valueAt,List.find?_cons,e']
    rw[TH e,b];exact h2
  . have e':¬q.1=k:=λz=>e<|h1.trans z;have b:valueAt (q::qs) k=valueAt qs k:=by simp[valueAt,List.find?_cons,e']
    rw[P3 e,b];exact ih
theorem KV.length(r:KV kvs vs):kvs.length=vs.length:=Paired.length r
end
def Ut(r:RelV (kV k) u):(xi P w).is k u=true:=by
 cases k with
 |inl i=>obtain⟨t,e⟩:=(r);subst e;exact NN P w i t
 |inr x=>obtain⟨t,e⟩:=(r);subst e;exact XI P w x t
def ua(e:kO v=some k)(r:RelV v u):(xi P w).is k u=true:=by
 cases v with
 |int i=>cases e;exact Ut (k:=.inl i) r
 |str x=>cases e;exact Ut (k:=.inr x) r
 |bl b=>cases e;rw[show u=Value.bool b from r];exact Ha b
 |_=>cases e
theorem G5:∀{ks:List Key}{vs:List V}{us:List Value},vs.map kO=ks.map some->yd vs us->ItemsAre (xi P w) ks us
 | [],[],_,_,r=>by cases r;exact .nil
 | [],_::_,_,e,_=>by simp at e
 |_::_,[],_,e,_=>by simp at e
 |k::ks,v::vs,_,e,r=>by
  rw[zyS,zyS]at e;injection e with e1 e2
  cases r with
  |cons h t=>exact .cons (ua e1 h) (G5 e2 t)
abbrev KT(H:Hp):List (List Key×V)->List (List Key×Addr×Value)->Prop:=Paired λp q=>p.1=q.1/\KC H q.2.1 p.1/\RelV p.2 q.2.2
def KT.val{H:Hp}{kvs:List (List Key×V)}{xs:List (List Key×Addr×Value)}(r:KT H kvs xs)(k:List Key):PZ (wZ kvs k) ((atKey xs k).map (·.2)):=by
 induction r with
 |nil=>exact True.intro
 | @cons p q ps qs h t ih=>
  obtain⟨h1,_,h2⟩:=h
  by_cases e:p.1=k
  . have e':q.1=k:=h1.symm.trans e;have b:atKey (q::qs) k=some q.2:=by simp[atKey,List.find?_cons,e']
    rw[TH e,b];exact h2
  . have e':¬q.1=k:=λz=>e<|h1.trans z;have b:atKey (q::qs) k=atKey qs k:=by simp[atKey,List.find?_cons,e']
    rw[P3 e,b];exact ih
def KT.repl(r:KT H kvs xs)(k)(ry:RelV y u):
 KT H (kvs.map λkv=>if kv.1=k then(kv.1,y)else kv) (xs.map<|putAt k u):=by
 induction r with
 |nil=>exact .nil
 | @cons p q ps qs h t ih=>
  rw[zyS,zyS];refine .cons ?_ ih;obtain⟨h1,h2,h3⟩:=h;unfold putAt
  by_cases e:p.1=k
  . rw[if_pos e,if_pos<|h1.symm.trans e];exact⟨h1,h2,ry⟩
  . rw[if_neg e,if_neg λz=>e<|h1.trans z];exact⟨h1,h2,h3⟩
def KT.put(r:KT H kvs xs)(k:List Key)(hb:KC H b k)(ry:RelV y u):
 KT H (putK kvs k y) (storedH xs k b u):=by
 have e:(kvs.any λkv=>decide (kv.1=k))=(atKey xs k).isSome:=by
  rw[Pq,(r.val k).isSome_eq,Option.isSome_map]
 unfold putK storedH;rw[e]
 by_cases q:(atKey xs k).isSome=true
 . rw[if_pos q,if_pos q];exact r.repl k ry
 . rw[if_neg q,if_neg q];exact Paired.snoc r ⟨rfl,hb,ry⟩
def KT.keeps(r:KT H kvs xs)(ht:∀b ys,H b=some (.tup ys)->H' b=some (.tup ys)):KT H' kvs xs:=
 Paired.mapP r λ_ _ z=>⟨z.1,z.2.1.mono λys=>ht _ ys,z.2.2⟩
section
variable{P:Program}{w:World}{H:Hp}{h:Heap}{a:Addr}
def Jp(ok:QJ P w H h)(e:Rd H a u):xR P w H h a u:=e.ok ok
def Fp(ok:QJ P w H h)(e:Rd H a (.dK kvs)):kvs.length<=sizeLine/\(a==sysModules)=false/\∃vs,KV kvs vs/\h.DictOf (xi P w) a vs:=
 show xR P w H h a _ from Jp ok e
def Pl(ok:QJ P w H h)(e:KC H a ks):(tupleKind<|xi P w).is h ks a:=by
 obtain⟨vs,e,ek⟩:=e;obtain⟨_,its,r,o,h1,h2,n,h3⟩:=(show xR P w H h a (.tup vs)from ok a _ e);exact⟨o,its.toArray,n,h1,h2,h3,by simpa using G5 ek r⟩
def Mi(ok:QJ P w H h)(e:Rd H a (.dT kvs)):kvs.length<=sizeLine/\(a==sysModules)=false/\
 ∃xs,KT H kvs xs/\h.DictOfH (tupleKind<|xi P w) a xs:=by
 obtain⟨z,y,xs,r,o,es,ep,h1,h2,h3,h4,h5⟩:=(Jp ok e);refine⟨z,y,xs,r,o,es,ep,h1,h2,h3,h4,λx hx=>?_,h5⟩;have all:∀{l:List _}{m:List _},KT H l m->∀x ∈ m,(tupleKind<|xi P w).is h x.1 x.2.1:=by
  intro l m q
  induction q with
  |nil=>intro x hx;exact nomatch hx
  | @cons p q ps qs hq t ih=>
   intro x hx
   rcases zzC.mp hx with e|hx
   . subst e;exact Pl ok (by rw[<-hq.1];exact hq.2.1)
   . exact ih x hx
 exact all r x hx
def Jl(ok:QJ P w H h)(e:H a=some (.dT kvs)):kvs.length<=sizeLine/\(a==sysModules)=false/\
 ∃xs,KT H kvs xs/\h.DictOfH (tupleKind<|xi P w) a xs:=Mi ok<|.inl e
end
def NO(H:Hp)(a:Addr)(y:V)(r:Option V):Prop:=
 (∃kvs k,Rd H a (.dK kvs)/\y=kV k/\r=wZ kvs k)\/∃kvs k b,Rd H a (.dT kvs)/\y = .ref b/\KC H b k/\r=wZ kvs k
def NO.t{H:Hp}{a b:Addr}{kvs:List (List Key×V)}{k:List Key}(e:H a=some (.dT kvs))(eb:KC H b k):NO H a (.ref b) (wZ kvs k):=.inr ⟨kvs,k,b,.inl e,rfl,eb,rfl⟩
section
variable{X:Cx}{pins:List (Addr×Obj)}{σ:St}{H:Hp}{s:Shared}{a:Addr}{y v:V}{u r:Value}{o:Option V}{A:Around}{E:Value->Shared->Prop}
def Inv.big(I:Inv X pins σ H s):sysModules<s.heap.objs.size:=by
 have h:=(I.mod.glob.keeps I.bk).lt;exact Nat.lt_trans (by decide) h
def Bd(hu:A.units+1<cLine)(I:Inv X pins σ H s)(g:NO H a y (some v))(ry:RelV y u)(h:∀w' s',Inv X pins σ H s'->RelV v w'->Q w' s'):
 wpAny (model X.prog X.w) A (getItem (.ref a) u) Q E s:=by
 rcases g with⟨kvs,k,e,ey,l⟩|⟨kvs,k,b,e,ey,eb,l⟩
 . subst ey;obtain⟨z,hd,vs,rel,dd⟩:=Fp I.hok e;obtain⟨w',hw,rw'⟩:=PZ.some_of (by rw[l];exact rel.val k);exact wpAny_getItem_of (Ut ry) dd.mapOf hw<|h w' _ (I.tok _) rw'
 . subst ey;cases(ry);obtain⟨z,hd,xs,rel,dd⟩:=Mi I.hok e;obtain⟨w',hw,rw'⟩:=PZ.some_of (by rw[l];exact rel.val k);obtain⟨p,hp,hp2⟩:=zzX.mp hw;refine wpAny_getItem_heap (tupleKind_room_in1 hu) (Pl I.hok eb) dd hp ?_;rw[hp2];exact h w' _ (I.tok _) rw'
def rO(hu:A.units+1<cLine)(I:Inv X pins σ H s)(g:NO H a y o)(ry:RelV y u)(h:∀s',Inv X pins σ H s'->Q (.bool o.isSome) s'):
 wpAny (model X.prog X.w) A (compareOp .In u<|.ref a) Q E s:=by
 rcases g with⟨kvs,k,e,ey,l⟩|⟨kvs,k,b,e,ey,eb,l⟩
 . subst ey;obtain⟨z,hd,vs,rel,dd⟩:=Fp I.hok e;refine wpAny_in_of (Ut ry) hd dd.mapOf ?_;rw[<-(rel.val k).isSome_eq,<-l];exact h _<|I.tok _
 . subst ey;cases(ry);obtain⟨z,hd,xs,rel,dd⟩:=Mi I.hok e;refine wpAny_in_heap (tupleKind_room_in1 hu) (Pl I.hok eb) hd dd ?_;have q:=(rel.val k).isSome_eq;rw[Option.isSome_map]at q;rw[<-q,<-l];exact h _<|I.tok _
def Ie(hu:A.units+1<cLine)(I:Inv X pins σ H s)(g:NO H a y o)(ry:RelV y u)(h:∀s',Inv X pins σ H s'->Q (.bool<|!o.isSome) s'):
 wpAny (model X.prog X.w) A (compareOp .NotIn u<|.ref a) Q E s:=by
 rcases g with⟨kvs,k,e,ey,l⟩|⟨kvs,k,b,e,ey,eb,l⟩
 . subst ey;obtain⟨z,hd,vs,rel,dd⟩:=Fp I.hok e;refine wpAny_notIn_of (Ut ry) hd dd.mapOf ?_;rw[<-(rel.val k).isSome_eq,<-l];exact h _<|I.tok _
 . subst ey;cases(ry);obtain⟨z,hd,xs,rel,dd⟩:=Mi I.hok e;refine wpAny_notIn_heap (tupleKind_room_in1 hu) (Pl I.hok eb) hd dd ?_;have q:=(rel.val k).isSome_eq;rw[Option.isSome_map]at q;rw[<-q,<-l];exact h _<|I.tok _
def Cu(I:Inv X pins σ H s)(mu:uO (H a))(hs:Heap.SameBut a s.heap h')(he:∃q,h'.get? a=some q)(new:xR X.prog X.w (upd H a ob) h' a ob):
 Inv X pins σ (upd H a ob) {s with heap:=h',toks:=t'}:=
 I.write mu (.inl rfl) (λb q hb z=>(hs.2 b hb).trans z) he new
end
def OG(h:Heap)(hb:sysModules<h.objs.size):xR P w H (h.push {cls:=.type "dict",data:=.dict #[]}) h.objs.size (.dT []):=
 ⟨Nat.zero_le _,beq_eq_false_iff_ne.mpr<|Ne.symm<|zzQ hb,[],.nil,_,#[],0,zxK _ rfl,⟨rfl,rfl,rfl⟩,rfl,rfl,zyJ⟩
def Dc:TE:=λ_ H Q=>∀p,H p=none->Q (.ref p) (upd H p<|.dT [])
section
variable{X:Cx}{pos:Pos}
def Of:PE X (.Dict [] [] pos) Dc:=λpins s σ H Q I h=>
 wpAny_Dict_empty ⟨.ref s.heap.objs.size,_,I.laid (t':=s.toks) (λ_ _ q=>zxI _ q) (zzN _)<|OG s.heap I.big,rfl,h _<|I.hok.fresh<|zzN _⟩
end
end L2
namespace HT
open PySem PyProof.Rows
section
variable{prog:Program}{w:World}{A:Around}{E:Value->Shared->Prop}{s:Shared}
def Cm(ht:IsTup s.heap t vs.toArray)(hb:IsTup s.heap b ws.toArray)(hv:vs≠[])
 (h1:ws=[]->Q (.ref t) s) (h2:ws≠[]->Q (.ref s.heap.objs.size) {s with heap:=s.heap.push {cls:=.type "tuple",data:=.seq (vs++ws).toArray}})
 (hsz:vs.length+ws.length<=sizeLine):wpAny (model prog w) A (binaryOp .Add (.ref t)<|.ref b) Q E s:=by
 obtain⟨⟨cls,dd,data,sl⟩,ho,hc,n,hd⟩:=id ht;obtain⟨⟨cls2,dd2,data2,sl2⟩,ho2,hc2,n2,hd2⟩:=id hb;simp only at hc hd hc2 hd2;subst hc hd hc2 hd2;have e:vs.toArray++ws.toArray=(vs++ws).toArray:=by simp
 by_cases hw:ws=[]
 . exact concat_meets ⟨_,ho,rfl⟩ ⟨_,ho2,rfl⟩ noFill_tuple_add seq_tuple_add PySem.F.slot_tuple_add PySem.F.entry_tuple_add (PySem.F.args_tuple_add_2 _ _)
    (tuple_addW1 t b vs.toArray ws.toArray n n2 dd dd2 sl sl2 (by simpa using hv)<|by simp[hw]) ⟨ho,ho2,h1 hw⟩
 . refine concat_meets ⟨_,ho,rfl⟩ ⟨_,ho2,rfl⟩ noFill_tuple_add seq_tuple_add PySem.F.slot_tuple_add PySem.F.entry_tuple_add (PySem.F.args_tuple_add_2 _ _)
    (tuple_addW2 t b vs.toArray ws.toArray n n2 dd dd2 sl sl2 (by simpa using hv) (by simpa using hw)<|by rw[zzH,zzH];exact hsz) ⟨ho,ho2, ?_⟩
   rw[e];exact h2 hw
def sIx(n d:Nat):Option Int->Nat
 |none=>d
 |some v=>if v<0 then(v+(n:Int)).toNat else min v.toNat n
def Nx(n d:Nat):sIx n d none=d:=rfl
def RZ(n d k:Nat):sIx n d (some (k:Int))=min k n:=by
 show(if(k:Int)<0 then((k:Int)+(n:Int)).toNat else min (k:Int).toNat n)=_;rw[if_neg (by omega),zyI]
def Ab(n d:Nat)(hd:d<=n)(o):sIx n d o<=n:=by
 cases o with
 |none=>exact hd
 |some v=>
  show(if v<0 then(v+_).toNat else min v.toNat n)<=n
  by_cases hv:v<0
  . rw[if_pos hv];omega
  . rw[if_neg hv];exact Nat.min_le_right _ _
def Fx(v)(n d:Nat):(if v<0 then max (v+(n:Int)) 0 else min v (n:Int))=((sIx n d (some v):Nat):Int):=by
 show _=(((if v<0 then(v+_).toNat else min v.toNat n):Nat):Int)
 by_cases hv:v<0
 . simp only[if_pos hv];omega
 . simp only[if_neg hv];omega
def Ed(lo hi)(n:Nat):Builtin.Slice.sliceAdjust lo hi 1 (n:Int)=(((sIx n 0 lo:Nat):Int),((sIx n n hi:Nat):Int)):=by
 have h1:¬((1:Int)<0):=by omega
 unfold Builtin.Slice.sliceAdjust;simp only[h1,if_false];refine Prod.ext ?_ ?_
 . cases lo with
   |none=>rfl
   |some v=>exact Fx v n 0
 . cases hi with
   |none=>rfl
   |some v=>exact Fx v n n
def M8(i j:Nat):Builtin.Slice.slicePlaces (i:Int) (j:Int) 1=j-i:=by
 unfold Builtin.Slice.slicePlaces;have h1:(1:Int) > 0:=by omega
 simp only[h1,if_true,Int.ediv_one]
 split<;>omega
def PH(p:IsPart v o)(h:Q o s):wpAny (model prog w) A (Builtin.Slice.slicePartIndex v) Q E s:=by
 cases p with
 |none=>exact slicePart_none h
 |int i t=>exact slicePart_int h
def Uc{sl vl vu lo hi}{n:Nat}{Q}(hs:s.heap.IsSliceOf sl vl vu .none)(pl:IsPart vl lo)(pu:IsPart vu hi)
 (h:Q (((sIx n 0 lo:Nat):Int),1,sIx n n hi-sIx n 0 lo) s):wpAny (model prog w) A (Builtin.Slice.sliceApplied (.ref sl)<|pure (n:Int)) Q E s:=by
 obtain⟨os,hos,hcs,hds⟩:=id hs;unfold Builtin.Slice.sliceApplied Builtin.Slice.sliceFields;refine zxG<|zxG<|wpAny_field hos hds rfl<|zxG<|wpAny_field hos hds rfl<|zxG<|wpAny_field hos hds rfl<|zxH ?_;refine zxG<|slicePart_none ?_;rw[if_neg<|by decide];refine zxG<|PH pl<|zxG<|PH pu<|zxG<|zxH ?_;show wpAny _ _ (match Builtin.Slice.sliceAdjust lo hi 1 _ with|(lo,hi)=>pure (lo,_,Builtin.Slice.slicePlaces lo hi 1)) _ _ s;rw[Ed lo hi n];show wpAny _ _ (pure _) _ _ s;rw[M8];exact zxH h
def Hx(xs:Array Value)(i k:Nat):((List.range k).filterMap λ(m:Nat)=>xs[((i:Int)+(m:Int)*1).toNat]?).toArray=((xs.toList.drop i).take k).toArray:=by
 have e:(λ(m:Nat)=>xs[((i:Int)+(m:Int)*1).toNat]?)=λm=>xs[i+m]? := by
  funext m;have:(i+(m:Int)*1).toNat=i+m:=by omega
  rw[this]
 rw[e];have:=pick_run xs i k;rw[List.filterMap_map]at this;have e2:((λx=>xs[x]?)∘λx=>i+x)=λm=>xs[i+m]? := rfl;rw[e2]at this;rw[this]
def Qf{t sl items vl vu lo hi Q}(ht:IsTup s.heap t items)(hs:s.heap.IsSliceOf sl vl vu .none)(pl:IsPart vl lo)(pu:IsPart vu hi)
 (hw:¬(sIx items.size 0 lo=0/\sIx items.size items.size hi=items.size))
 (h:Q (.ref s.heap.objs.size) {s with heap:=s.heap.push {cls:=.type "tuple",data:=.seq ((items.toList.drop<|sIx items.size 0 lo).take<|sIx items.size items.size hi-sIx items.size 0 lo).toArray}})
 (hsz:items.size<=sizeLine):wpAny (model prog w) A (getItem (.ref t)<|.ref sl) Q E s:=by
 have htake:sizeOk (.seq ((items.toList.drop<|sIx items.size 0 lo).take<|sIx items.size items.size hi-sIx items.size 0 lo).toArray):=by
  show((items.toList.drop _).take _).toArray.size<=sizeLine;rw[zzH,zzS,List.length_drop,zyT];omega
 have hj:sIx items.size items.size hi<=items.size:=Ab _ _ (zzN _) hi;obtain⟨os,hos,hcs,hds⟩:=id hs;have hTs:s.TypeIs (.ref sl) "slice":=⟨os,hos,hcs⟩;unfold getItem
 try with_reducible refine zxM ?_
 first|refine zxG (zxH ?_)|skip
 refine zxG<|wpAny_sequenceKey ht.typeIs (by decide) ?_;refine zxG<|wpAny_callSpecial?_slot ht.typeIs PyProof.Rows.slot_tuple_getitem
  (wpAny_call_entry PyProof.Rows.slot_tuple_getitem ht.typeIs entry_tuple_getitem ?_<|args_tuple_getitem _ _)
 show wpAny _ _ (Builtin.Tuple.tupleItemsOf (.ref t) >>= _) _ _ s;refine zxG<|tupleItemsOf_ ht ?_;refine zxG<|wpAny_typeOf hTs ?_;rw[if_pos<|by decide];refine zxG<|Uc hs pl pu ?_;have hno:¬((((sIx items.size 0 lo:Nat):Int)==0&&(1:Int)==1&&(sIx items.size items.size hi-sIx items.size 0 lo)==items.size)=true):=by
  intro q;rw[zyC,zyC]at q;have q1:=eq_of_beq q.1.1;have q2:=eq_of_beq q.2;exact hw ⟨by omega,by omega⟩
 show wpAny _ _ (if _=true then _ else _) _ _ s;rw[if_neg hno,Hx]
 first
  |exact zxG (zxL (zxH ⟨_,rfl,zxH h⟩) htake)
  |exact zxG _
  |exact zxG _
  |exact zxG _
end
end HT
namespace L2
open PySem PySem.Spec PyProof.Rows
abbrev TO:=St->Hp->(Option Int->Hp->Prop)->Prop
def PO(X:Cx)(e:Option Expr)(t:TO):Prop:=
 ∀(pins:List (Addr×Obj)) (s:Shared) (σ:St) (H:Hp) (Q:Option Int->Hp->Prop),Inv X pins σ H s->t σ H Q->
  wpAny (model X.prog X.w) X.A (evalPart e X.env) (λu s'=>∃o H',Inv X pins σ H' s'/\IsPart u o/\Q o H') X.xe s
def Cj:TO:=λ_ H Q=>Q none H
def t_(t:TE):TO:=λσ H Q=>t σ H λx H1=>∃i,x = .int i/\Q (some i) H1
def intsAre_of:∀{us:List Value},yd (ns.map V.int) us->IntsAre us ns:=by
 induction ns with
 |nil=>intro us r;rw[List.map_nil]at r;cases r;exact .nil
 |cons n ns ih=>
  intro us r;rw[zyS]at r;cases r with
  |cons r1 r2=>
   obtain⟨t,e⟩:=r1;subst e;exact .cons n t<|ih r2
section
variable{X:Cx}{e:Expr}{te:TE}{lo hi:Option Expr}{tl th:TO}{pos p2:Pos}
def CW:PO X none Cj:=by
 intro pins s σ H Q I h;rw[evalPart_none];exact zxH ⟨none,H,I,.none,h⟩
def Ir(h:PE X e te):PO X (some e) (t_ te):=by
 intro pins s σ H Q I hw;rw[evalPart_some];refine thn (h pins s σ H _ I hw) λu s1 ⟨x,H1,I1,r1,q1⟩=>?_;obtain⟨i,rfl,q⟩:=q1;obtain⟨t,rfl⟩:=r1;exact⟨some i,H1,I1,.int i t,q⟩
def D5(X:Cx)(r:V->Option Int->Option Int->Hp->VK->Prop):Prop:=
 ∀(pins:List (Addr×Obj)) (s:Shared) (σ:St) (H:Hp) (x:V) (v vl vu:Value) (lo hi:Option Int) (sl:Addr) (Q:VK),Inv X pins σ H s->RelV x v->s.heap.IsSliceOf sl vl vu .none->IsPart vl lo->IsPart vu hi->r x lo hi H Q->
  ∃T id,typeLookup (.type T) "__getitem__"=pure (some<|.builtin id)/\s.TypeIs v T/\wpAny (model X.prog X.w) X.A (getItem v<|.ref sl) (EP X pins σ Q) X.xe s
def oX(r:V->Option Int->Option Int->Hp->VK->Prop)(te:TE)(tl th:TO):TE:=λσ H Q=>te σ H λx H1=>tl σ H1 λl H2=>th σ H2 λu H3=>r x l u H3 Q
def Nz(hr:D5 X r)(he:PE X e te)(hl:PO X lo tl)(hu:PO X hi th):PE X (.Subscript e (.Slice lo hi none p2) pos) (oX r te tl th):=by
 intro pins s σ H Q I h;refine Subscript_<|thn (he pins s σ H _ I h) λv s1 ⟨x,H1,I1,r1,q1⟩=>?_;refine wpAny_Slice<|thn (hl pins s1 σ H1 _ I1 q1) λvl s2 ⟨l,H2,I2,pl,q2⟩=>thn (hu pins s2 σ H2 _ I2 q2) λvu s3 ⟨u,H3,I3,pu,q3⟩=>?_;rw[evalPart_none];refine zxH ?_;have I4:Inv X pins σ H3 {s3 with heap:=s3.heap.push {cls:=.type "slice",data:=.fields #[vl,vu,.none]}}:=I3.kept (t':=s3.toks) λb ob q=>zxI _ q;obtain⟨T,id,hT,ht,hg⟩:=hr pins {s3 with heap:=s3.heap.push {cls:=.type "slice",data:=.fields #[vl,vu,.none]}} σ H3 x v vl vu l u s3.heap.objs.size Q I4 r1 (Heap.IsSliceOf.new ..) pl pu q3;exact tail_any ht hT hg (by with_unfolding_all rfl)
def BA(xs:List V)(lo hi:Option Int):List V:=(xs.drop<|HT.sIx xs.length 0 lo).take<|HT.sIx xs.length xs.length hi-HT.sIx xs.length 0 lo
def UR(xs)(lo hi):(BA xs lo hi).length<=xs.length:=by
 unfold BA;rw[zzS,List.length_drop];omega
def r_(K:zzA):V->Option Int->Option Int->Hp->VK->Prop:=λx lo hi H Q=>∃a xs,x = .ref a/\Q8 K H a xs/\
 ¬(HT.sIx xs.length 0 lo=0/\HT.sIx xs.length xs.length hi=xs.length)/\∀p,H p=none->Q (.ref p) (upd H p<|.tup<|BA xs lo hi)
def Dw:D5 X (r_ X.K):=by
 intro pins s σ H x v vl vu lo hi sl Q I rx hs pl pu h;obtain⟨a,xs,rfl,hx,hw,q⟩:=h;cases rx;obtain⟨its,r,ht,hz⟩:=I.tuple hx;have hlen:its.toArray.size=xs.length:=by rw[zzH];exact r.length.symm
 refine⟨"tuple",_,PyProof.Rows.slot_tuple_getitem.lookup,ht.typeIs, ?_⟩;refine HT.Qf ht hs pl pu (by rw[hlen];exact hw) ?_ (by rw[hlen];exact hz);rw[hlen];refine⟨.ref s.heap.objs.size,_,I.laid (t':=s.toks) (λb ob q=>zxI _ q) (zzN _) ?_,rfl,q _<|I.hok.fresh<|zzN _⟩;exact⟨zzO (UR xs lo hi) hz,_,(r.drop _).take _,IsTup.new _ _⟩
def sr(K:zzA):R2:=λx y H Q=>∃a b xs ys,x = .ref a/\y = .ref b/\Q8 K H a xs/\Q8 K H b ys/\xs≠[]/\xs.length+ys.length<=sizeLine/\
 (ys=[]->Q (.ref a) H)/\(ys≠[]->∀p,H p=none->Q (.ref p) (upd H p<|.tup<|xs++ys))
def yd.nil_iff(r:yd xs us):us=[] ↔ xs=[]:=by
 cases r with
 |nil=>simp
 |cons _ _=>simp
def C6:Rr X (binaryOp .Add) (sr X.K):=by
 intro pins s σ H x y v u Q I rx ry h;obtain⟨a,b,xs,ys,rfl,rfl,ha,hb,hx,hz,q1,q2⟩:=h;cases rx;cases ry;obtain⟨its,r1,p1,_⟩:=I.tuple ha;obtain⟨its2,r2,p2,_⟩:=I.tuple hb;refine HT.Cm p1 p2 (λz=>hx<|r1.nil_iff.mp z) (λz=>⟨.ref a,H,I,rfl,q1<|r2.nil_iff.mp z⟩) (λz=>?_) (by rw[<-r1.length,<-r2.length];exact hz);refine⟨.ref s.heap.objs.size,_,I.laid (t':=s.toks) (λb ob q=>zxI _ q) (zzN _) ?_,rfl,q2 (λw=>z<|r2.nil_iff.mpr w) _<|I.hok.fresh<|zzN _⟩;exact⟨by rw[zzJ];exact hz,_,r1.append r2,IsTup.new _ _⟩
end
end L2
namespace L2
open PySem PySem.Spec PyProof.Rows
def ixN(n:Nat)(i:Int):Option Nat:=if 0<=i then(if i<n then some i.toNat else none)else if -(n:Int)<=i then some (i+n).toNat else none
def atI{α:Type}(xs:List α)(i:Int):Option α:=(ixN xs.length i).bind λj=>xs[j]?
def FR(h:ixN n i=some j):seqIndex? i n=some j/\j<n /\ -(n:Int)<=i/\i<n:=by
 unfold ixN at h
 by_cases h0:0<=i
 . rw[if_pos h0]at h
   by_cases h1:i<n
   . rw[if_pos h1]at h;have e:=zzZ h;exact⟨by rw[seqIndex_of h0 h1,e],by omega,by omega,h1⟩
   . rw[if_neg h1]at h;cases h
 . rw[if_neg h0]at h
   by_cases h1 : -n<=i
   . rw[if_pos h1]at h;have e:=zzZ h;exact⟨by rw[seqIndex_neg (by omega) h1,e],by omega,h1,by omega⟩
   . rw[if_neg h1]at h;cases h
def LX(h:atI xs i=some v):∃j,seqIndex? i xs.length=some j/\xs[j]? = some v/\j<xs.length /\ -(xs.length:Int)<=i/\i<xs.length:=by
 unfold atI at h;cases e:ixN xs.length i with
 |none=>rw[e]at h;cases h
 |some j=>
  rw[e]at h;obtain⟨h1,h2,h3,h4⟩:=FR e;exact⟨j,h1,h,h2,h3,h4⟩
def xk{α:Type}{xs}{j:Nat}{v:α}(h:xs[j]? = some v):atI xs (j:Int)=some v:=by
 have hj:=(zzG.mp h).1;have e:ixN xs.length (j:Int)=some j:=by
  unfold ixN;rw[if_pos (by omega),if_pos<|by omega];simp
 unfold atI;rw[e];exact h
def yZ(b:Expr):Prop:=∀o i,subscripted b false o i=operate [o,i] (getItem o i)
def um(X:Cx)(r:R2):Prop:=
 ∀(value slice:Expr) (pins:List (Addr×Obj)) (s:Shared) (σ:St) (H:Hp) (x y:V) (v u:Value) (Q:VK),Inv X pins σ H s->RelV x v->RelV y u->r x y H Q->
  subscripted slice false v u=operate [v,u] (getItem v u)->wpAny (model X.prog X.w) X.A (subscriptTail value slice v u) (EP X pins σ Q) X.xe s
def sO(X:Cx)(id:String)(r:V->List V->Hp->VK->Prop):Prop:=
 ∀(pins:List (Addr×Obj)) (s:Shared) (σ:St) (H:Hp) (x:V) (xs:List V) (v:Value) (us:List Value) (Q:VK),Inv X pins σ H s->RelV x v->yd xs us->r x xs H Q->
  wpAny (model X.prog X.w) X.A (call (.builtin id) (v::us)) (EP X pins σ Q) X.xe s
section
variable{X:Cx}{a b:Expr}{ta tb:TE}{pos:Pos}
def vW(hr:um X r)(ha:PE X a ta)(hb:PE X b tb)(hs:yZ b):PE X (.Subscript a b pos) (t6 r ta tb):=by
 intro pins s σ H Q I h;exact Subscript_<|DB ha hb I h λv u s2 x y H2 I2 rx ry q=>hr a b pins s2 σ H2 x y v u Q I2 rx ry q<|hs _ _
def rR(K:zzA):R2:=λx y H Q=>∃p xs i v,x = .ref p/\y = .int i/\Xr K H p xs/\atI xs i=some v/\Q v H
def rh(K:zzA):R2:=λx y H Q=>∃p xs i v,x = .ref p/\y = .int i/\Q8 K H p xs/\atI xs i=some v/\Q v H
def rE:R2:=λx y H Q=>∃z i c,x = .str z/\y = .int i/\z.length<=sizeLine/\atI z.cps.toList i=some c/\Q (.str ⟨#[c]⟩) H
def ZM:um X (rR X.K):=by
 intro value slice pins s σ H x y v u Q I rx ry h hs;obtain⟨p,xs,i,z,rfl,rfl,hq,he,q⟩:=h;cases rx;obtain⟨t,rfl⟩:=ry;obtain⟨its,r,pl,hz⟩:=I.list hq;obtain⟨j,h1,h2,h3,h4,h5⟩:=LX he;obtain⟨w,ew,rw'⟩:=r.get h2;have hl:=r.length;have hn:=Vz;have fin:EP X pins σ Q w s:=⟨z,H,I,rw',q⟩
 by_cases h0:0<=i
 . have hj:i.toNat=j:=by
    rw[seqIndex_of h0 h5]at h1;exact zzZ h1
   exact item_listR pl.isList h0 (by omega) (by rw[hj];simpa using ew) fin hs
 . have hj:(i+(its.toArray.size:Int)).toNat=j:=by
    rw[seqIndex_neg (by omega) h4]at h1;rw[zzH,<-hl];exact zzZ h1
   exact subscriptTail_builtinR pl.isList.typeIs slot_list_getitem.lookup
    (wpAny_getItem_list_neg pl.isList (by omega) (by rw[zzH]<;>omega) (by omega) (by rw[hj];simpa using ew) ⟨rfl,fin⟩) hs
def Z3:um X (rh X.K):=by
 intro value slice pins s σ H x y v u Q I rx ry h hs;obtain⟨p,xs,i,z,rfl,rfl,hq,he,q⟩:=h;cases rx;obtain⟨t,rfl⟩:=ry;obtain⟨its,r,pl,hz⟩:=I.tuple hq;obtain⟨j,h1,h2,h3,h4,h5⟩:=LX he;obtain⟨w,ew,rw'⟩:=r.get h2;have hl:=r.length;have hn:=Vz;have fin:EP X pins σ Q w s:=⟨z,H,I,rw',q⟩;exact subscriptTail_builtinR pl.typeIs slot_tuple_getitem.lookup
  (getItem_tuple pl (by omega) (by omega) (by rw[zzH,<-hl];exact h1) (by simpa using ew) ⟨rfl,fin⟩) hs
def A8:um X rE:=by
 intro value slice pins s σ H x y v u Q I rx ry h hs;obtain⟨z,i,c,rfl,rfl,hz,he,q⟩:=h;obtain⟨t,rfl⟩:=rx;obtain⟨t',rfl⟩:=ry;obtain⟨j,h1,h2,h3,h4,h5⟩:=LX he;have hl:z.cps.toList.length=z.length:=by simp[Str.length]
 rw[hl]at h1 h4 h5;have hn:=Vz;exact tail_any (typeIs_str s z t) slot_str_getitem.lookup (getItem_str (by
  have e1:decide (i < -(2 ^ 63:Int))=false:=zyG (by omega);have e2:decide (i ≥ 2 ^ 63)=false:=zyG (by omega);rw[e1,e2,Bool.or_false]) (by rw[h1];simpa using h2) ⟨.str ⟨#[c]⟩,H,I.tok _,⟨_,rfl⟩,q⟩) hs
def ML(its:List Value)(n j:Nat)(u):Obj.mapSeq (·.setIfInBounds j u) {cls:=.type "list",data:=.seq its.toArray n}={cls:=.type "list",data:=.seq (its.set j u).toArray n}:=by
 simp[Obj.mapSeq]
theorem Inv.lst(I:Inv X pins σ H s)(h:H p=some (.lst xs)):
 ∃(its:List Value) (n:Nat),yd xs its/\s.heap.get? p=some {cls:=.type "list",data:=.seq its.toArray n}/\xs.length<=sizeLine:=by
 obtain⟨z,its,n,r,e⟩:=I.hok p _ h;exact⟨its,n,r,e,z⟩
def Inv.lstUpd{pins σ H s p xs ys}{its its':List Value}{n n':Nat}{f}(I:Inv X pins σ H s)(h:H p=some (.lst xs))
 (ho:s.heap.get? p=some {cls:=.type "list",data:=.seq its.toArray n}) (hf:f {cls:=.type "list",data:=.seq its.toArray n}={cls:=.type "list",data:=.seq its'.toArray n'}) (r:yd ys its') (hz:ys.length<=sizeLine) (t:Nat):
 Inv X pins σ (upd H p<|.lst ys) {s with heap:=s.heap.update p f,toks:=t}:=by
 have e:(s.heap.update p f).get? p=some {cls:=.type "list",data:=.seq its'.toArray n'}:=by
  rw[Heap.get?_update_self f ho (by rw[hf]<;>rfl),hf]
 refine I.write (by rw[h];trivial) (.inl rfl) (λb u hb q=>(Heap.get?_update_other _ _<|Ne.symm hb).trans q) ⟨_,e⟩ ?_;exact⟨hz,its',n',r,e⟩
def uK:V->V->V->Hp->(Hp->Prop)->Prop:=λo i v H Q=>∃p xs k j,o = .ref p/\i = .int k/\H p=some (.lst xs)/\ixN xs.length k=some j/\Q (upd H p<|.lst<|xs.set j v)
def set_list:tN X uK:=by
 intro pins s σ H o i v ov iv u Q I ro ri rv h;obtain⟨p,xs,k,j,rfl,rfl,hp,hj,q⟩:=h;cases ro;obtain⟨t,rfl⟩:=ri;obtain⟨its,n,r,ho,hz⟩:=I.lst hp;obtain⟨h1,h2,h3,h4⟩:=FR hj;have hl:=r.length;have hn:=Vz;have I':Inv X pins σ _ {s with heap:=s.heap.update p _}:=
  I.lstUpd hp ho (ML its n j u) (r.set rv j) (by rw[zzU];exact hz) s.toks
 by_cases h0:0<=k
 . have hk:k.toNat=j:=by
    rw[seqIndex_of h0 h4]at h1;exact zzZ h1
   exact W.ki_setAt ho h0 (by omega) (by rw[zzH,<-hl];exact h4) (by rw[hk];exact⟨_,I',q⟩)
 . have hk:(k+(its.toArray.size:Int)).toNat=j:=by
    rw[seqIndex_neg (by omega) h3]at h1;rw[zzH,<-hl];exact zzZ h1
   exact W.ki_setBack ho (by omega) (by rw[zzH,<-hl];exact h3) (by omega) (by rw[hk];exact⟨_,I',q⟩)
def Ly(lo hi)(n:Nat):(sliceBounds lo hi none n).1=((HT.sIx n 0 lo:Nat):Int)/\(sliceBounds lo hi none n).2.1=((HT.sIx n n hi:Nat):Int)/\(sliceBounds lo hi none n).2.2=1:=by
 refine⟨?_, ?_,rfl⟩
 . cases lo with
   |none=>simp[sliceBounds,HT.sIx]
   |some i=>
    simp only[sliceBounds,HT.sIx,Option.getD_none,show 1 > 0 by decide,if_true]
    by_cases h:i<0
    . simp only[h,if_true]<;>omega
    . simp only[h,if_false]<;>omega
 . cases hi with
   |none=>simp[sliceBounds,HT.sIx]
   |some i=>
    simp only[sliceBounds,HT.sIx,Option.getD_none,show 1 > 0 by decide,if_true]
    by_cases h:i<0
    . simp only[h,if_true]<;>omega
    . simp only[h,if_false]<;>omega
def Gr(its:List Value)(lo hi):slicePick its.toArray lo hi none=((its.drop<|HT.sIx its.length 0 lo).take<|HT.sIx its.length its.length hi-HT.sIx its.length 0 lo).toArray:=by
 obtain⟨h1,h2,h3⟩:=Ly lo hi its.toArray.size;unfold slicePick;rw[h1,h2,h3];simp only[sliceRange_one,pick_run,zzH]<;>rfl
def sW(K:zzA):V->Option Int->Option Int->Hp->VK->Prop:=λx lo hi H Q=>∃a xs,x = .ref a/\Xr K H a xs/\∀p,H p=none->Q (.ref p) (upd H p<|.lst<|BA xs lo hi)
def Cv:D5 X (sW X.K):=by
 intro pins s σ H x v vl vu lo hi sl Q I rx hs pl pu h;obtain⟨a,xs,rfl,hx,q⟩:=h;cases rx;obtain⟨its,r,ht,hz⟩:=I.list hx;have hlen:=r.length;refine⟨"list",_,slot_list_getitem.lookup,ht.isList.typeIs, ?_⟩;refine wpAny_getItem_list_slice ht.isList hs pl pu .none (by simp) ?_ (by rw[zzH]<;>omega);rw[Gr,<-hlen];refine⟨.ref s.heap.objs.size,_,I.laid (t':=s.toks) (λb ob q=>zxI _ q) (zzN _) ?_,rfl,q _<|I.hok.fresh<|zzN _⟩;exact⟨zzO (UR xs lo hi) hz,_,0,(r.drop _).take _,zxK _ rfl⟩
def Y3:X5 X (.builtin "len") (λxs H Q=>∃p ys,xs=[.ref p]/\(Xr X.K H p ys\/Q8 X.K H p ys)/\Q (.int ys.length) H):=by
 intro pins s σ H xs us Q I r h;obtain⟨p,ys,rfl,hq,q⟩:=h;obtain⟨u,rfl,rx⟩:=vals1 r;cases rx;have hn:=Vz
 rcases hq with hq|hq
 . obtain⟨its,r',pl,hz⟩:=I.list hq;have hlen:=r'.length;exact Calls.call_len_list pl.isList (by simp only[zzH]<;>omega) ⟨.int ys.length,H,I.tok _,⟨s.toks+1,by rw[zzH,hlen]⟩,q⟩
 . obtain⟨its,r',pl,hz⟩:=I.tuple hq;have hlen:=r'.length;exact len_tuple pl (by simp only[zzH]<;>omega) ⟨.int ys.length,H,I.tok _,⟨s.toks+1,by rw[zzH,hlen]⟩,q⟩
def Ld:X5 X (.builtin "len") (λxs H Q=>∃z,xs=[.str z]/\z.length<=sizeLine/\Q (.int z.length) H):=by
 intro pins s σ H xs us Q I r h;obtain⟨z,rfl,hz,q⟩:=h;obtain⟨u,rfl,t,rfl⟩:=vals1 r;have hn:=Vz;exact len_str (by omega) ⟨.int z.length,H,I.tok _,⟨_,rfl⟩,q⟩
def VV:X5 X (.type "list") (λxs H Q=>∃p ys,xs=[.ref p]/\(Xr X.K H p ys\/Q8 X.K H p ys)/\∀l,H l=none->Q (.ref l) (upd H l<|.lst ys)):=by
 intro pins s σ H xs us Q I r h;obtain⟨p,ys,rfl,hq,q⟩:=h;obtain⟨u,rfl,rx⟩:=vals1 r;cases rx;have fin:∀its,yd ys its->ys.length<=sizeLine->∀h' c',_->
  h'.get? s.heap.objs.size=some {cls:=.type "list",dict:=none,data:=.seq its.toArray c',slots:=#[]}->EP X pins σ Q _ {s with heap:=h'}:=λits r' hz h' c' kp e=>
  ⟨.ref s.heap.objs.size,_,I.laid (t':=s.toks) kp (zzN _) (show xR X.prog X.w _ h' _ (.lst ys)from⟨hz,its,c',r',e⟩),rfl,q _<|I.hok.fresh<|zzN _⟩
 rcases hq with hq|hq
 . obtain⟨its,r',pl,hz⟩:=I.list hq;have hlen:=r'.length;obtain⟨o,ho,hc,n,hd⟩:=pl.isList;exact call_list_seq p (.inl rfl) ho hc hd (λh' c' kp e=>fin its r' hz h' c' kp e) (by simp only[zzH]<;>omega)
 . obtain⟨its,r',pl,hz⟩:=I.tuple hq;have hlen:=r'.length;obtain⟨o,ho,hc,n,hd⟩:=pl;exact call_list_seq p (.inr rfl) ho hc hd (λh' c' kp e=>fin its r' hz h' c' kp e) (by simp only[zzH]<;>omega)
def WS:X5 X (.type "tuple") (λxs H Q=>∃p ys,xs=[.ref p]/\((Xr X.K H p ys/\∀l,H l=none->Q (.ref l) (upd H l<|.tup ys))\/(Q8 X.K H p ys/\Q (.ref p) H))):=by
 intro pins s σ H xs us Q I r h;obtain⟨p,ys,rfl,h⟩:=h;obtain⟨u,rfl,rx⟩:=vals1 r;cases rx
 rcases h with⟨hq,q⟩|⟨hq,q⟩
 . obtain⟨its,r',pl,hz⟩:=I.list hq;have hlen:=r'.length;refine call_tuple_list pl.isList (λh' kp=>?_) (by simp only[zzH]<;>omega);have I1:=I.kept (t':=s.toks) kp;have I2:=
    I1.laid (t':=s.toks) (λb o e=>zxI _ e) (zzN _) (show xR X.prog X.w _ _ _ (.tup ys)from⟨hz,its,r',IsTup.new _ _⟩)
   exact⟨.ref h'.objs.size,_,I2,rfl,q _<|I1.hok.fresh<|zzN _⟩
 . obtain⟨its,r',pl,hz⟩:=I.tuple hq;exact call_tuple_same pl ⟨.ref p,H,I,rfl,q⟩
def sV(K:zzA)(T:String)(x:V)(H:Hp):Prop:=match x with
 | .str _=>T="str"
 | .int _=>T="int"
 | .ref p=>(T="list"/\∃xs,Xr K H p xs)\/(T="tuple"/\∃o,K.lookup p=some o/\o.cls = .type "tuple"/\o.dict=none) \/
  (T="dict"/\((∃kvs,H p=some (.dK kvs))\/∃kvs,H p=some (.dT kvs)))\/(T="set"/\∃S n,H p=some (.set S n))
 |_=>False
def OA(I:Inv X pins σ H s)(r:RelV x v)(ty:sV X.K T x H):
 s.TypeIs v T/\∀a,v = .ref a->∃ob,s.heap.get? a=some ob/\ob.dict=none:=by
 cases x with
 |str z=>
  obtain⟨t,rfl⟩:=r;cases(ty);exact⟨typeIs_str s z t,λ_ e=>nomatch e⟩
 |int i=>
  obtain⟨t,rfl⟩:=r;cases(ty);exact⟨typeIs_int s i t,λ_ e=>nomatch e⟩
 |ref p=>
  cases r
  rcases ty with⟨rfl,xs,hq⟩|⟨rfl,o,hk,hc,hd⟩|⟨rfl,hk⟩|⟨rfl,S,n,hk⟩
  . obtain⟨its,_,pl,_⟩:=I.list hq;refine⟨pl.isList.typeIs,λa e=>?_⟩;cases e;obtain⟨o,n,e,c,hd,_⟩:=pl;exact⟨o,e,hd⟩
  . refine⟨⟨o,I.kIn p o hk,hc⟩,λa e=>?_⟩;cases e;exact⟨o,I.kIn _ o hk,hd⟩
  . have z:∃o,s.heap.get? p=some o/\o.ExactDict:=by
     rcases hk with⟨kvs,hk⟩|⟨kvs,hk⟩
     . obtain⟨_,_,_,_,o,_,_,e,ex,_⟩:=I.hok p _ hk;exact⟨o,e,ex⟩
     . obtain⟨_,_,_,_,o,_,_,e,ex,_⟩:=I.hok p _ hk;exact⟨o,e,ex⟩
    obtain⟨o,e,ex⟩:=z;refine⟨⟨o,e,ex.1⟩,λa e2=>?_⟩;cases e2;exact⟨o,e,ex.2.1⟩
  . obtain⟨o,_,_,_,e,ex,_⟩:=I.hok p _ hk;refine⟨⟨o,e,ex.1⟩,λa e2=>?_⟩;cases e2;exact⟨o,e,ex.2.1⟩
 |_=>exact False.elim ty
def uH(K:zzA)(T:String)(r:V->List V->Hp->VK->Prop)(to:TE):TE:=λσ H Q=>to σ H λx H1=>sV K T x H1/\r x [] H1 Q
def qE(K:zzA)(T:String)(r:V->List V->Hp->VK->Prop)(to:TE)(t:TA):TE:=λσ H Q=>to σ H λx H1=>sV K T x H1/\t σ H1 λxs H2=>r x xs H2 Q
variable{o e:Expr}{es:List Expr}{to:TE}{t:TA}{name:Str}{apos cpos:Pos}{T id:String}{r:V->List V->Hp->VK->Prop}
def M0(pa:PlainAttrs T)(slot:Slot T name id)(hty:typeOf (.builtin id)=pure (.type "method_descriptor"))(hm:sO X id r)(ho:PE X o to)
 (hbase:attributeBase o name X.env (eval o X.env)=eval o X.env:=by rfl) (hline:(apos.endLine==cpos.line)=true:=by rfl):PE X (.Call (.Attribute o name apos) [] [] cpos) (uH X.K T r to):=by
 intro pins s σ H Q I h;refine wpAny_Call_method0_late hbase hline<|thn (ho pins s σ H _ I h) λv s1 ⟨x,H1,I1,r1,ty,q1⟩=>?_;obtain⟨h1,h2⟩:=OA I1 r1 ty;exact⟨T,id,pa,slot,hty,h1,h2,Calls.callWith_builtin rfl<|PySem.evalArgs_none<|hm pins s1 σ H1 x [] v [] Q I1 r1 .nil q1⟩
def E4(pa:PlainAttrs T)(slot:Slot T name id)(hty:typeOf (.builtin id)=pure (.type "method_descriptor"))(hm:sO X id r)(ho:PE X o to)(ha:PA X (e::es) t)
 (hbase:attributeBase o name X.env (eval o X.env)=eval o X.env:=by rfl)
 (hfew:((backTo cpos<|starEach (e::es) X.env).all (λx=>!x.1)&&(backToKw cpos<|keywordEach [] X.env).all (λx=>x.1.isSome)
  && decide ((e::es).length+([]:List Keyword).length+(if([]:List Keyword).isEmpty then 0 else 1)<30))=true:=by rfl)
 (hline:(apos.endLine==cpos.line)=true:=by rfl) (hs:starEach (e::es) X.env=(false,eval e X.env)::starEach es X.env:=by rfl) (hplain:(backTo cpos<|starEach es X.env).any (·.1)=false:=by rfl):
 PE X (.Call (.Attribute o name apos) (e::es) [] cpos) (qE X.K T r to t):=by
 intro pins s σ H Q I h;refine wpAny_Call_method_late hbase hfew hline rfl<|thn (ho pins s σ H _ I h) λv s1 ⟨x,H1,I1,r1,ty,q1⟩=>?_;obtain⟨h1,h2⟩:=OA I1 r1 ty;refine⟨T,id,pa,slot,hty,h1,h2, ?_⟩;have hA:=ha cpos pins s1 σ H1 _ I1 q1;rw[hs]at hA ⊢;refine Calls.callWith_builtin (by show(false||(backTo cpos _).any (·.1))=false;rw[hplain]<;>rfl)<|Calls.evalArgs_plain ?_;exact thn hA λus s2 ⟨vs,H2,I2,r2,q2⟩=>hm pins s2 σ H2 x vs v us Q I2 r1 r2 q2
end
end L2
namespace L2
open PySem PySem.Spec PyProof.Rows
def D8(X:Cx)(id:String)(r:V->List V->Hp->VK->Prop):Prop:=
 ∀(pins:List (Addr×Obj)) (s:Shared) (σ:St) (H:Hp) (x:V) (xs:List V) (v:Value) (us:List Value) (Q:VK),Inv X pins σ H s->RelV x v->yd xs us->r x xs H Q->
  wpAny (model X.prog X.w) X.A (call (.builtin id) (v::us)) (EP X pins σ Q) X.xe s
def yd.one:∀{x:V}{us:List Value},yd [x] us->∃u,us=[u]/\RelV x u
 |_,_,.cons r .nil=>⟨_,rfl,r⟩
def yd.two:∀{x y:V}{us:List Value},yd [x,y] us->∃u v,us=[u,v]/\RelV x u/\RelV y v
 |_,_,_,.cons r (.cons q .nil)=>⟨_,_,rfl,r,q⟩
def yd.zero:∀{us:List Value},yd [] us->us=[]
 |_,.nil=>rfl
theorem yd.eraseIdx:∀{xs:List V}{us:List Value}(i:Nat),yd xs us->yd (xs.eraseIdx i) (us.eraseIdx i)
 |_,_,_,.nil=>.nil
 |_,_,0,.cons _ t=>t
 |_,_,i+1,.cons r t=>.cons r<|yd.eraseIdx i t
theorem yd.rep(h:yd xs us):∀k:Nat,yd (List.replicate k xs).flatten (List.replicate k us).flatten
 |0=>.nil
 |k+1=>by
  rw[List.replicate_succ,List.replicate_succ,List.flatten_cons,List.flatten_cons];exact yd.append h<|yd.rep h k
theorem Kk:∀(l:List α) (i:Nat),(l.eraseIdx i).length<=l.length
 | [],_=>zzN _
 |_::_,0=>zyX _
 |_::r,i+1=>Nat.succ_le_succ<|Kk r i
theorem foldl_rep(its):∀(k:Nat) (acc:List Value),
 List.foldl (λx1 x2=>x1++x2) acc.toArray (List.replicate k its.toArray)=(acc++(List.replicate k its).flatten).toArray
 |0,acc=>by simp
 |k+1,acc=>by
  have e:acc.toArray++its.toArray=(acc++its).toArray:=by simp
  have e2:(acc++its)++(List.replicate k its).flatten=acc++(List.replicate (k+1) its).flatten:=by
   rw[List.replicate_succ,List.flatten_cons,zxD]
  rw[<-e2,<-foldl_rep its k _,<-e,List.replicate_succ,List.foldl_cons]
section
variable{X:Cx}{pins:List (Addr×Obj)}{σ:St}{H:Hp}{s:Shared}{l b:Addr}{xs ys zs:List V}
def Inv.lset{its its':List Value}{n:Nat}{f}{t':Nat}(I:Inv X pins σ H s)(hH:H l=some (.lst xs))
 (e:s.heap.get? l=some {cls:=.type "list",data:=.seq its.toArray n}) (hf:f its.toArray=its'.toArray) (hv:yd ys its') (hz:ys.length<=sizeLine):
 Inv X pins σ (upd H l<|.lst ys) {s with heap:=s.heap.update l<|Obj.mapSeq f,toks:=t'}:=by
 have q:=PySem.IsL.update e f;rw[hf]at q;refine I.write (by rw[hH];exact trivial) (.inl rfl) (λb' u hb hu=>(Heap.get?_update_other s.heap _<|Ne.symm hb).trans hu) ⟨_,q⟩ ?_;exact⟨hz,its',_,hv,q⟩
def Inv.lnew(I:Inv X pins σ H s)(hv:yd ys its)(hz:ys.length<=sizeLine):
 Inv X pins σ (upd H s.heap.objs.size<|.lst ys) {s with heap:=s.heap.push {cls:=.type "list",data:=.seq its.toArray},toks:=t'}:=
 I.laid (λ_ _ q=>zxI _ q) (zzN _) ⟨hz,its,0,hv,zxK _ rfl⟩
theorem Inv.fresh(I:Inv X pins σ H s):H s.heap.objs.size=none:=I.hok.fresh<|zzN _
def Inv.lstM(I:Inv X pins σ H s)(hH:H l=some (.lst xs)):xs.length<=sizeLine/\∃(its:List Value) (n:Nat),yd xs its/\xs.length=its.length/\s.heap.get? l=some {cls:=.type "list",data:=.seq its.toArray n}:=by
 obtain⟨z,its,n,r,e⟩:=I.hok l _ hH;exact⟨z,its,n,r,r.length,e⟩
def NP(h:n<=sizeLine):Builtin.List.listTooLong n=false:=by
 unfold Builtin.List.listTooLong;exact zyG (by omega)
end
section
variable{X:Cx}
def LC:V->List V->Hp->VK->Prop:=λx vs H Q=>∃l xs y,x = .ref l/\vs=[y]/\H l=some (.lst xs)/\xs.length<sizeLine/\Q .non (upd H l<|.lst<|xs++[y])
def Q6:D8 X "list.append" LC:=by
 intro pins s σ H x vs v us Q I rx rv h;obtain⟨l,xs,y,rfl,rfl,hH,hz,q⟩:=h;cases rx;obtain⟨u,rfl,ru⟩:=rv.one;obtain⟨z,its,n,r,hl,e⟩:=I.lstM hH;refine call_meets F.slot_list_append ⟨_,e,rfl⟩ F.entry_list_append (F.args_list_append_2 _ _) (PySem.list_append l its.toArray n u<|by rw[zzH];omega) ⟨e, ?_⟩;refine⟨.non,_,I.lset (its':=its++[u]) hH e (by simp) (r.append<|.cons ru .nil) ?_,rfl,q⟩;rw[zzJ,List.length_singleton];omega
def FF:V->List V->Hp->VK->Prop:=λx vs H Q=>∃l b xs zs,x = .ref l/\vs=[.ref b]/\H l=some (.lst xs)/\H b=some (.lst zs)/\xs.length+zs.length<=sizeLine/\Q .non (upd H l<|.lst<|xs++zs)
def BE:D8 X "list.extend" FF:=by
 intro pins s σ H x vs v us Q I rx rv h;obtain⟨l,b,xs,zs,rfl,rfl,hH,hB,hz,q⟩:=h;cases rx;obtain⟨u,rfl,ru⟩:=rv.one;cases ru;obtain⟨z,its,n,r,hl,e⟩:=I.lstM hH;obtain⟨z2,its2,n2,r2,hl2,e2⟩:=I.lstM hB;have hsz:its.toArray.size+its2.toArray.size<=sizeLine:=by rw[zzH,zzH];omega
 have hlong:¬(!its.toArray.isEmpty&&Builtin.List.listTooLong (its.toArray.size+its2.toArray.size))=true:=by
  rw[NP hsz,Bool.and_false];exact zyW
 refine call_meets F.slot_list_extend ⟨_,e,rfl⟩ F.entry_list_extend (F.args_list_extend_2 _ _)
  (AutoSeq1.list_extend_list_list_0 l its.toArray n b its2.toArray n2 hlong (by rw[zzH];omega)<|by omega) ⟨e,e2, ?_⟩
 refine⟨.non,_,I.lset (its':=its++its2) hH e (by simp) (r.append r2) ?_,rfl,q⟩;rw[zzJ];omega
def ON:V->List V->Hp->VK->Prop:=λx vs H Q=>∃l xs i k y,x = .ref l/\vs=[.int i]/\H l=some (.lst xs) /\ -(2 ^ 63)<=i/\i<2 ^ 63/\seqIndex? i xs.length=some k/\xs[k]? = some y/\Q y (upd H l<|.lst<|xs.eraseIdx k)
def HC:D8 X "list.pop" ON:=by
 intro pins s σ H x vs v us Q I rx rv h;obtain⟨l,xs,i,k,y,rfl,rfl,hH,h1,h2,hk,hy,q⟩:=h;cases rx;obtain⟨u,rfl,ru⟩:=rv.one;obtain⟨t,rfl⟩:=ru;obtain⟨z,its,n,r,hl,e⟩:=I.lstM hH;obtain⟨w,hw,rw'⟩:=r.get hy;refine call_meets F.slot_list_pop ⟨_,e,rfl⟩ F.entry_list_pop (F.args_list_pop_2 _ _)
  (MeetsSeq.list_pop_at l its.toArray n i t k w (fitsIndex_both h1 h2) (by rw[zzH,<-hl];exact hk) (by rw[<-Array.getElem?_toList];exact hw)<|by rw[zzH];omega) ⟨e, ?_⟩
 refine⟨y,_,I.lset (its':=its.eraseIdx k) hH e ?_ (r.eraseIdx k) ?_,rw',q⟩
 . show _=_;rw[List.eraseIdxIfInBounds_toArray]
 . have:=Kk xs k;omega
def SZ:V->List V->Hp->VK->Prop:=λx vs H Q=>∃l xs,x = .ref l/\vs=[]/\H l=some (.lst xs)/\Q .non (upd H l<|.lst [])
def Ts:D8 X "list.clear" SZ:=by
 intro pins s σ H x vs v us Q I rx rv h;obtain⟨l,xs,rfl,rfl,hH,q⟩:=h;cases rx;have hus:=rv.zero;subst hus;obtain⟨z,its,n,r,hl,e⟩:=I.lstM hH;refine call_meets F.slot_list_clear ⟨_,e,rfl⟩ F.entry_list_clear (F.args_list_clear_1 _) (AutoSeq1.list_clear_list_0 l its.toArray n<|by rw[zzH];omega) ⟨e, ?_⟩;exact⟨.non,_,I.lset (its':=[]) hH e rfl .nil<|Nat.zero_le _,rfl,q⟩
def len_rep(xs:List α)(k:Nat):(List.replicate k xs).flatten.length=k*xs.length:=by
 induction k with
 |zero=>simp
 |succ k ih=>rw[List.replicate_succ,List.flatten_cons,zzJ,ih,Nat.succ_mul,Nat.add_comm]
end
end L2
namespace Att
open PySem PySem.W PySem.Calls PyProof.Rows
def Rq:∀(ns:List Int) (vs:List Value),WellAll P h vs (ns.map WData.int)->IntsAre vs ns:=by
 intro ns
 induction ns with
 |nil=>
  intro vs w;rw[List.map_nil]at w;cases w;exact .nil
 |cons n ns ih=>
  intro vs w;rw[zyS]at w;cases w with
  |cons a b=>
   cases a;exact .cons _ _<|ih _ b
def FY{l:OpenLaw}{n:Nat}(hn:l.most=some n){P h args vals}
 (hpre:l.row.toRowW.claim.pre args=true) (hwl:WellAll P h vals args):
 ∃a vs ns,vals=[Value.ref a]/\args=[WData.list<|ns.map WData.int]/\h.get? a=some {cls:=.type "list",data:=.seq vs.toArray}/\IntsAre vs ns/\ns.length<=n:=by
 have hsh:=(pre_splitW hpre).1;have hc:l.pre.holds [] {args:=args}=true:=(pre_splitW hpre).2;obtain⟨d,r,rfl,h1,h2⟩:=hasAllW_cons hsh;obtain rfl:=hasAllW_nil h2;obtain⟨xs,rfl,h3⟩:=hasW_list h1;obtain⟨ns,rfl⟩:=items_int h3;have hlen:ns.length<=n:=by
  unfold OpenLaw.pre at hc;have h4:(WTm.not<|.lt (.lit<|.int (n:Int))<|.len<|.arg 0).holds [] {args:=[.list<|ns.map .int]}=true:=by
   have h4:=(holds_andW hc).1;rw[hn]at h4;exact h4
  have h5:=condW_of h4<|w_not<|w_lt w_lit<|w_len_list<|w_arg rfl;rw[zzB]at h5;refine Nat.le_of_not_lt λq=>?_;have q':n<(ns.length:Int):=by omega
  first
   |(rw[zyO q']at h5;exact absurd h5 (by decide))
   |(simp at h5;omega)
 cases hwl with
 |cons w1 w2=>
  cases w2;cases w1 with
  |list ho hall=>exact⟨_,_,ns,rfl,rfl,ho,Rq ns _ hall,hlen⟩
def BQ(l:OpenLaw)(args):l.row.toRowW.claim.post args (.bool true) args=true:=
 postW_of
  (show WShape.has [] _ .bool=true by first|rfl|decide|simp[WShape.has,WShape.arms,WShape.armsAll])
  (w_eq_bool (w_res rfl) w_lit) rfl
def Me{l:OpenLaw}{n:Nat}{q loose XP YP d}
 (hn:l.most=some n) (hdf:d.params.defaults=[])
 (call:∀(w:World) (s₀ s₁:Shared) (mg mb:Str->Option Value) (fa:Addr) (o:Obj) (pm cd doc:Value) (a:Addr) (vs:List Value) (ns:List Int),
  Ground q loose [] XP w s₀ mg mb s₁.heap->YP w s₁.heap->
  s₁.heap.get? fa=some o->o.data = .func (docDef d.name d.params d.body d.scope pm cd doc)->s₁.heap.CodeRec cd d.name->mg d.name=some (.ref fa)->
  s₁.heap.get? a=some {cls:=.type "list",data:=.seq vs.toArray}->IntsAre vs ns->ns.length<=n->s₁.gens = #[]->
  codeAny (model l.prog w) callerA (.call (.ref fa) ⟨[.ref a],[]⟩) (λr s'=>r = .ok (.ret<|.bool true)/\OldK s₁.heap s'.heap/\s'.os=s₁.os/\AllBare s'.gens) s₁):
 WalkO q loose XP YP l.row.toRowW d [] (λf vs=>PySem.call f vs):=by
 intro w s₀ s₁ mg mb G Y fa o pm cd doc dV kV ho hd hcd hD hmg hg args vals as hpre hlay hrd hwl hlo;obtain rfl:dV = .none:=Dflts.none hD hdf;obtain rfl:kV = .none:=Dflts.noKw hD;obtain⟨a,vs,ns,rfl,rfl,hobj,hints,hlen⟩:=FY hn hpre hwl;refine enter_call<|codeAny_mono (call w s₀ s₁ mg mb fa o pm cd doc a vs ns G Y ho (fd_plain hd) hcd hmg hobj hints hlen hg) λr s' hq=>?_;obtain⟨rfl,h2,h3,h4⟩:=hq;exact⟨.inl ⟨.bool true,.bool true,[],rfl,λ_=>rfl,.bool true,BQ l _,λ_=>⟨List.Pairwise.nil,λ_ hm=>(nomatch hm)⟩⟩,h2,h3,h4⟩
end Att
namespace L2
open PySem PySem.Spec PyProof.Rows
theorem Yl:∀{vs:List Value}{ns:List Int},IntsAre vs ns->yd (ns.map V.int) vs
 |_,_,.nil=>.nil
 |_,_,.cons n t h=>.cons ⟨t,rfl⟩<|Yl h
def Dr(H:Hp):Prop:=∀b,H b=none\/∃o xs,H b=some (.frz o<|.lst xs)
def HU{P w K mg mb CX}{k:Nat}{fa a fd x sp s₁ vs ns}
 (KX:K.In s₁.heap) (hns:s₁.heap.Ns mainGlobals mg) (hb:s₁.heap.Ns builtinsNs mb) (hbb:∀x:Str,x≠"__name__"->mb x=bootBuiltins x) (hlim:s₁.heap.NoLimit) (hg:s₁.gens = #[])
 (ha:s₁.heap.get? a=some {cls:=.type "list",data:=.seq vs.toArray}) (hi:IntsAre vs ns) (hl:ns.length<=sizeLine) (hr:Room k callerA)
 (F:∀base:Heap,K.In base->base.Ns mainGlobals mg->FnOk P w K mg base CX k fa fd [x] sp) (hbind:∀(s:Shared) (u:Value),BindsTo s fd ⟨[u],[]⟩ [(x,u)])
 (hsp:∀H:Hp,Dr H->Oc K H a (ns.map V.int)->sp [.ref a] H (λv _=>v = .bl true) λ_ _ _=>False)
 (hCX:∀H e s',CX [] H s₁ (λ_ _ _=>False) e s'->False):
 codeAny (model P w) callerA (.call (.ref fa) ⟨[.ref a],[]⟩) (λr s'=>r = .ok (.ret<|.bool true)/\OldK s₁.heap s'.heap/\s'.os=s₁.os/\AllBare s'.gens) s₁:=by
 have rv:=Yl hi;have lenV:=hi.length;have core:∀H:Hp,Dr H->Oc K H a (ns.map V.int)->QJ P w H s₁.heap->(∀b,H b≠none->b=a)->(H a≠none->K.lookup a=none)->
  codeAny (model P w) callerA (.call (.ref fa) ⟨[.ref a],[]⟩) (λr s'=>r = .ok (.ret<|.bool true)/\OldK s₁.heap s'.heap/\s'.os=s₁.os/\AllBare s'.gens) s₁:=by
  intro H hO hS hok hA hK;have base_of:∀{b:Addr}{o:Obj},s₁.heap.get? b=some o->H b=none->(Bn s₁.heap H).get? b=some o:=λe n=>S9 e n;have noA:∀{b:Addr}{o:Obj}{es:Array DictEntry}{ep:Nat},s₁.heap.get? b=some o->o.data = .dict es ep->H b=none:=λ{b o es ep} e d=>by
   cases q:H b with
   |none=>rfl
   |some u=>
    have e':b=a:=hA b (by rw[q];simp);subst e';rw[ha]at e;cases e;have d':Data.seq vs.toArray _=Data.dict es ep:=d;cases d'
  have nsK:∀{b:Addr}{m:Str->Option Value},s₁.heap.Ns b m->(Bn s₁.heap H).Ns b m:=λ{b m} ⟨o,es,ep,e,d,r⟩=>⟨o,es,ep,base_of e<|noA e d,d,r⟩;have hKb:=λb o e=>base_of (KX b o e) (by
   cases q:H b with
   |none=>rfl
   |some u=>
    have e':b=a:=hA b (by rw[q];simp);subst e';rw[hK<|by rw[q];simp]at e;cases e)
  have hM:Mod K mg _:=⟨hKb,nsK hns,⟨mb,nsK hb,hbb⟩,let⟨mc,h1,h2⟩:=hlim;⟨mc,nsK h1,h2⟩⟩;have e0:Env0 P w K mg _ callerA [] s₁ H:=⟨rfl,hM,λb o e=>Cs e,Nat.le_of_eq<|Bz _ _,trivial,λb hb=>absurd (show b ∈ ([]:List Addr)from hb) (by simp),hok,.of_eq hg⟩;refine codeAny_mono ((F _ hKb<|nsK hns).run callerA [] s₁ H ⟨_,[]⟩ [.ref a] [.ref a] _ _ hr e0 (hbind s₁<|.ref a) (.cons rfl .nil)<|hsp H hO hS) λr s' h=>?_;cases r with
  |error e=>exact(hCX H e s' h).elim
  |ok fl=>
   cases fl with
   |next=>exact False.elim h
   |brk=>exact False.elim h
   |cont=>exact False.elim h
   |ret u=>
    obtain⟨v,H',os,bare,un,hok',r',q⟩:=h;have q':v = .bl true:=q;subst q';obtain rfl:u=Value.bool true:=r';refine⟨rfl,OldK.of_keep λb o e=>?_,os,bare⟩;cases q:H b with
    |none=>exact un.keep b o e q (by intro z;exact absurd (show b ∈ ([]:List Addr)from z)<|by simp) (by simp)
    |some u=>
     rcases hO b with z|⟨ob,xs,z⟩
     . rw[q]at z;cases z
     . have z2:=un.frzs b ob _ z;obtain⟨e1,_⟩:=hok b _ z;obtain⟨e2,_⟩:=hok' b _ z2;rw[e]at e1;cases e1;exact e2
 cases hk:K.lookup a with
 |some o=>
  have e:=KX a o hk;rw[ha]at e;cases e;refine core (λ_=>none) (λ_=>.inl rfl) (.inr ⟨vs.toArray,_,hk,by rw[zzH,lenV];exact hl,by simpa using rv⟩) (λb u z=>by have z':none=some u:=z;cases z') (λb z=>absurd rfl z) λz=>absurd rfl z
 |none=>
  refine core (λb=>if b=a then some _ else none) (λb=>?_) (.inl<|.inr ⟨{cls:=.type "list",data:=.seq vs.toArray},if_pos rfl⟩) (λb u z=>?_) (λb z=>?_) λ_=>hk
  . by_cases hb:b=a
    . exact .inr ⟨_,_,if_pos hb⟩
    . exact .inl<|if_neg hb
  . by_cases hb:b=a
    . have z':=(if_pos hb).symm.trans z;cases z';subst hb;exact⟨ha,by rw[zzB];exact hl,vs,_,rv,ha⟩
    . have z':=(if_neg hb).symm.trans z;cases z'
  . by_cases hb:b=a
    . exact hb
    . exact absurd (if_neg hb) z
end L2
namespace L2
open PySem PySem.Spec PyProof.Rows
def walk_of{l:PySem.W.OpenLaw}{n k:Nat}{q loose XP YP d}{K:Params->zzA}{CX:World->Iw}{sp:World->Sp}{x}
 (hn:l.most=some n) (hn2:n<=sizeLine) (hdf:d.params.defaults=[]) (hr:Room k callerA)
 (hY:∀(w:World) (h:Heap),YP w h->(K w.params).In h)
 (F:∀(w:World) (mg:Str->Option Value) (fa:Addr) (h:Heap),(K w.params).In h->h.Ns mainGlobals mg->mg d.name=some (.ref fa)->
  ∃fd:FuncData,(∀(s:Shared) (u:Value),BindsTo s fd ⟨[u],[]⟩ [(x,u)])/\
   ∀base:Heap,(K w.params).In base->base.Ns mainGlobals mg->FnOk l.prog w (K w.params) mg base (CX w) k fa fd [x] (sp w))
 (hsp:∀(w:World) (H:Hp) (a:Addr) (ns:List Int),ns.length<=n->Dr H->Oc (K w.params) H a (ns.map V.int)->sp w [.ref a] H (λv _=>v = .bl true) λ_ _ _=>False)
 (hCX:∀(w:World) (H:Hp) (s:Shared) (e:Value) (s':Shared),CX w [] H s (λ_ _ _=>False) e s'->False):
 PySem.W.WalkO q loose XP YP l.row.toRowW d [] (λf vs=>PySem.call f vs):=by
 refine Att.Me hn hdf λw s₀ s₁ mg mb fa o pm cd doc a vs ns G Y ho hd hcd hmg hobj hints hlen hg=>?_;have KX:=hY w _ Y;obtain⟨fd,hb,hF⟩:=F w mg fa _ KX G.T.g hmg;exact HU KX G.T.g G.T.b G.T.builtins G.T.nolimit hg hobj hints (zzO hlen hn2) hr hF hb (λH hO hS=>hsp w H a ns hlen hO hS) λH e s'=>hCX w H s₁ e s'
end L2
namespace L2
open PySem PySem.Spec PyProof.Rows
def RY(s:Stmt):Arguments:=match s with
 | .FunctionDef _ a _ _ _ _ _ _ _ _=>a
 |_=>{posonlyargs:=[],args:=[],vararg:=none,kwonlyargs:=[],kw_defaults:=[],kwarg:=none,defaults:=[]}
def Y1(s:Stmt):List Stmt:=match s with
 | .FunctionDef _ _ b _ _ _ _ _ _ _=>b
 |_=>[]
def zu(s:Stmt):Scope:=match s with
 | .FunctionDef _ _ _ _ _ _ sc _ _ _=>sc
 |_=>{kind:=.function,names:=[],isGenerator:=false,isCoroutine:=false}
abbrev B3:Iw:=λ_ _ _ _ _ _=>False
abbrev E0:XK:=λ_ _ _=>False
def tu:LM B3 X E0:=λ_ _ _ _ _ _ _ h=>h.elim
structure Fun(K:zzA)(x qual:Str)(st:Stmt)(f:Addr)(fd:FuncData):Prop where
 ex:∃(oc:Value) (od:Option Addr) (kV doc pm:Value) (an:Option Addr) (cdv ct:Value) (osl:Array (Option Value)),
  fd=W.fnOf x qual (RY st) (Y1 st) (zu st) .none kV doc pm an cdv ct/\K.lookup f=some ⟨oc,od,.func fd,osl⟩/\W.codeIn K cdv qual=true
 kp:W.keepIn K (.ref f)=true
section
variable{P:Program}{w:World}{K:zzA}{mg:Str->Option Value}{base:Heap}
def Fun.ok{x qual st f fd N ps}{k:Nat}{sp}(F:Fun K x qual st f fd)(S:FnScope N ps (zu st))(len:∀vs H Q E,sp vs H Q E->vs.length=ps.length)
 (hbody:∀(cdv:Value) (A:Around) (outer:List Env) (s:Shared) (H:Hp) (vs:List V) (Q:VK) (E:XK),Room k (A.deeper<|envOfC qual (zu st) s.heap.objs.size f cdv)->sp vs H Q E->
  ∃t,Mv (Nw B3 P w K mg base N qual (zu st) f cdv A outer s H E).nox (Y1 st) t/\t {nx:=λ_ H'=>Q .non H',rt:=Q} (start N vs) H):FnOk P w K mg base B3 (k+1) f fd ps sp:=by
 obtain⟨oc,od,kV,doc,pm,an,cdv,ct,osl,rfl,lk,hcd⟩:=F.ex;refine uM lk hcd S len λA outer s H vs Q E hr hsp=>?_;obtain⟨t,h,q⟩:=hbody cdv A outer s H vs Q E hr hsp;exact⟨t,h.nox,q⟩
def Fun.binds{x qual st f fd ps}(F:Fun K x qual st f fd)
 (h:∀(kV doc pm:Value) (an:Option Addr) (cdv ct:Value) (us:List Value),us.length=ps.length->bindArgs (W.fnOf x qual (RY st) (Y1 st) (zu st) .none kV doc pm an cdv ct) ⟨us,[]⟩=pure (ps.zip us)):Binds K fd ps []:=by
 obtain⟨oc,od,kV,doc,pm,an,cdv,ct,osl,rfl,lk,hcd⟩:=F.ex;exact .all<|h kV doc pm an cdv ct
end
def IX(hr:Room k A):A.units+1<cLine:=Nat.lt_of_le_of_lt (Nat.add_le_add_left (by decide:1<=64) _) hr.units
def wL(h:n<=1000):n<sizeLine:=Nat.lt_of_le_of_lt h (by decide)
section
variable{X:Cx}
def pv(i:Nat)(hN:X.N[i]? = some x:=by rfl)(hv:sS X.env.scope x:=by first|exact Or.inl rfl|exact Or.inr (Or.inl rfl)|exact Or.inr (Or.inr rfl))(hd:(x==("__debug__":Str))=false:=by decide)
 (hcd:(x==("__classdict__":Str))=false:=by decide):PE X (.Name x pos) (Yi i):=S8 hN hv hd hcd
end
end L2
end
section
namespace G53
open PySem PySem.W PyProof.Rows L2
def top(i:Nat):Stmt:=PySem.Challenge.pw_stretchdeeds_k53_least_algebras.main.body.getD i<|.Pass ⟨0,0,0,0⟩
abbrev wu:Stmt:=top 4
abbrev wo:Stmt:=top 5
abbrev vP:Stmt:=top 6
abbrev Zh:Stmt:=top 7
abbrev Zo:Stmt:=top 8
abbrev wU:Stmt:=top 9
abbrev ZS:Stmt:=top 11
abbrev Yq:Stmt:=top 13
abbrev Y4:Stmt:=top 14
abbrev yO:Stmt:=top 15
abbrev yP:Stmt:=top 16
abbrev vS:Stmt:=top 18
abbrev Xx:Stmt:=top 19
abbrev Zk:Stmt:=top 20
abbrev ZI:Stmt:=top 21
abbrev vT:Stmt:=top 22
abbrev YD:Stmt:=top 23
abbrev Zf:Stmt:=top 24
abbrev YY:Stmt:=top 25
abbrev ZE:Stmt:=top 26
abbrev YM:Stmt:=top 27
abbrev ZW:Stmt:=top 28
abbrev Zd:Stmt:=top 29
abbrev YA:Stmt:=top 30
abbrev Z0:Stmt:=top 31
abbrev ZH:Stmt:=top 32
abbrev vM:Stmt:=top 33
abbrev YV:Stmt:=top 34
abbrev Zl:Stmt:=top 35
abbrev wq:Stmt:=top 36
abbrev Wm:Stmt:=top 37
abbrev vR:Stmt:=top 44
abbrev ZL:Stmt:=top 45
abbrev ZZ:Stmt:=top 46
abbrev YI:Stmt:=top 38
abbrev YB:Stmt:=top 39
abbrev ZY:Stmt:=top 40
abbrev YW:Stmt:=top 41
abbrev wR:Stmt:=top 42
abbrev Zg:Stmt:=top 43
abbrev Wh:Stmt:=top 47
abbrev ZQ:Stmt:=top 48
abbrev Wp:Stmt:=top 49
abbrev vL:Stmt:=top 50
abbrev Fv:Stmt:=top 51
abbrev hpg:=PySem.Challenge.pw_stretchdeeds_k53_least_algebras
abbrev hva:Value:=.str "stretchdeeds.errors" 187
abbrev hvb:Value:=.str "stretchdeeds.algebras" 232
abbrev hvc:Value:=.str "stretchdeeds.alikes" 299
abbrev hvd:Value:=.str "stretchdeeds.leasts" 307
abbrev hve:Value:=.str "law_stretchdeeds_k53_least_algebras" 333
abbrev hem:List Value:=[(.type "ValueError"), (.type "Exception"), (.type "BaseException"), (.type "object")]
abbrev kF(n q:Str)(s:Stmt)(pm hcd:Value):Obj:=⟨.type "function",none,.func<|fnOf n q (RY s) (Y1 s) (zu s) .none .none .none pm none hcd .none,#[]⟩
abbrev kD(es:List DictEntry)(n:Nat):Obj:=⟨.type "dict",none,.dict es.toArray n,#[]⟩
abbrev kE(P:Params)(x:Str)(t:Nat)(v:Value):DictEntry:=⟨PyData.keyHash P x,.str x t,v⟩
abbrev kR(P:Params)(x:Str)(t:Nat)(a:Addr):DictEntry:=kE P x t<|.ref a
abbrev hfl(c:Value)(l:List Value):Obj:=⟨c,none,.fields l.toArray,#[]⟩
abbrev hco(n q:Str)(t u:Nat)(l k g:Int)(b:Bool)(a:Nat)(r s v:Value):Obj:=hfl (.type "code") [.str n t,.str q<|t+1,.str "/claim/cut.py" (t+2),.int l 0,.int k 0,.int 0 0,.int 0 0,.int g 0,.ref a,.bool b,.int 181 0,.ref<|a+1,.none,r,s,v,.int u 0,.int l 0,.str "/claim/cut.py" (u+1)]
abbrev hc7(n q:Str)(t u:Nat)(l k:Int)(a:Nat):=hco n q t u l k 3 true a (.ref<|a+2) (.ref<|a+3)<|.ref<|a+4
abbrev hc5(n q:Str)(t:Nat)(l k:Int)(a:Nat):=hco n q t (t+3) l k 3 true a .none .none<|.ref<|a+2
noncomputable abbrev hen(P:Params):List DictEntry:=[kE P "__doc__" 166 .none,kE P "__package__" 167 .none,kE P "__loader__" 168<|.builtin "__main__.__loader__#opaque",kE P "__spec__" 169 .none,kR P "__annotations__" 170 6,kR P "__builtins__" 171 4,kE P "__file__" 173<|.str "/claim/cut.py" 172,kE P "__cached__" 174 .none,kR P "StretchError" 206 24,kR P "NotLetBy" 231 44,kR P "nothing_fails" 243 53,kR P "parting_fails" 255 60,kR P "doing_fails" 271 67,kR P "deeds_fail" 282 74,kR P "what_fails" 290 81,kR P "check_let_by" 298 88,kR P "all_steps" 306 93,kR P "numbered" 314 98,kR P "signs_of" 320 103,kR P "class_numbers" 326 108,kR P "least_algebra" 332 113,kR P "_law_cell_at" 342 120,kR P "_law_whole" 349 127,kR P "_law_stream" 360 134,kR P "_law_names" 366 139,kR P "_law_divisor" 374 146,kR P "_law_sums" 380 151,kR P "_law_rising" 386 156,kR P "_law_kept" 392 161,kR P "_law_joins" 398 166,kR P "_law_rows" 404 171,kR P "_law_plain" 410 176,kR P "_law_beside" 416 181,kR P "_law_made" 430 188,kR P "_law_order" 441 195,kR P "_law_signs" 447 200,kR P "_law_algebra" 453 205,kR P "_law_bent" 459 210,kR P "_law_digits" 470 217,kR P "_law_by_digits" 476 222,kR P "_law_any" 485 229,kR P "_law_good" 493 236,kR P "_law_step" 504 243,kR P "_law_steps" 510 248,kR P "_law_held" 516 253,kR P "_law_numbered" 522 258,kR P "_law_levels" 528 263,kR P "_law_parting" 540 270,kR P "_law_doing" 558 277,kR P "_law_fails" 574 284,kR P "_law_few" 580 289,kR P "_law_drawn" 587 296,kR P "_law_due" 593 301,kR P "_law_told_so" 601 308,kR P "law" 614 315]
def K(P:Params):Frag:=
 (nat_lit 3,kD (kE P "__name__" 165 hve::hen P) 56)::
 (nat_lit 52,hc7 "nothing_fails" "nothing_fails" 234 241 10 1 47)::
 (nat_lit 53,kF "nothing_fails" "nothing_fails" wu hvb<|.ref 52)::
 (nat_lit 59,hc7 "parting_fails" "parting_fails" 244 253 17 1 54)::
 (nat_lit 60,kF "parting_fails" "parting_fails" wo hvb<|.ref 59)::
 (nat_lit 66,hc7 "doing_fails" "doing_fails" 256 269 26 3 61)::
 (nat_lit 67,kF "doing_fails" "doing_fails" vP hvb<|.ref 66)::
 (nat_lit 73,hc7 "deeds_fail" "deeds_fail" 272 280 37 1 68)::
 (nat_lit 74,kF "deeds_fail" "deeds_fail" Zh hvb<|.ref 73)::
 (nat_lit 80,hc7 "what_fails" "what_fails" 283 288 46 1 75)::
 (nat_lit 81,kF "what_fails" "what_fails" Zo hvb<|.ref 80)::
 (nat_lit 87,hc7 "check_let_by" "check_let_by" 291 296 53 1 82)::
 (nat_lit 88,kF "check_let_by" "check_let_by" wU hvb<|.ref 87)::
 (nat_lit 92,hc5 "all_steps" "all_steps" 301 58 1 89)::
 (nat_lit 93,kF "all_steps" "all_steps" ZS hvc<|.ref 92)::
 (nat_lit 97,hc5 "numbered" "numbered" 309 66 1 94)::
 (nat_lit 98,kF "numbered" "numbered" Yq hvd<|.ref 97)::
 (nat_lit 102,hc5 "signs_of" "signs_of" 315 71 2 99)::
 (nat_lit 103,kF "signs_of" "signs_of" Y4 hvd<|.ref 102)::
 (nat_lit 107,hc5 "class_numbers" "class_numbers" 321 73 1 104)::
 (nat_lit 108,kF "class_numbers" "class_numbers" yO hvd<|.ref 107)::
 (nat_lit 112,hc5 "least_algebra" "least_algebra" 327 82 1 109)::
 (nat_lit 113,kF "least_algebra" "least_algebra" yP hvd<|.ref 112)::
 (nat_lit 119,hc7 "_law_cell_at" "_law_cell_at" 335 340 91 2 114)::
 (nat_lit 120,kF "_law_cell_at" "_law_cell_at" vS hve<|.ref 119)::
 (nat_lit 126,hc7 "_law_whole" "_law_whole" 343 347 95 1 121)::
 (nat_lit 127,kF "_law_whole" "_law_whole" Xx hve<|.ref 126)::
 (nat_lit 133,hc7 "_law_stream" "_law_stream" 350 358 97 2 128)::
 (nat_lit 134,kF "_law_stream" "_law_stream" Zk hve<|.ref 133)::
 (nat_lit 138,hc5 "_law_names" "_law_names" 361 104 2 135)::
 (nat_lit 139,kF "_law_names" "_law_names" ZI hve<|.ref 138)::
 (nat_lit 145,hc7 "_law_divisor" "_law_divisor" 367 372 113 2 140)::
 (nat_lit 146,kF "_law_divisor" "_law_divisor" vT hve<|.ref 145)::
 (nat_lit 150,hc5 "_law_sums" "_law_sums" 375 117 3 147)::
 (nat_lit 151,kF "_law_sums" "_law_sums" YD hve<|.ref 150)::
 (nat_lit 155,hc5 "_law_rising" "_law_rising" 381 123 3 152)::
 (nat_lit 156,kF "_law_rising" "_law_rising" Zf hve<|.ref 155)::
 (nat_lit 160,hc5 "_law_kept" "_law_kept" 387 127 3 157)::
 (nat_lit 161,kF "_law_kept" "_law_kept" YY hve<|.ref 160)::
 (nat_lit 165,hc5 "_law_joins" "_law_joins" 393 130 2 162)::
 (nat_lit 166,kF "_law_joins" "_law_joins" ZE hve<|.ref 165)::
 (nat_lit 170,hc5 "_law_rows" "_law_rows" 399 141 4 167)::
 (nat_lit 171,kF "_law_rows" "_law_rows" YM hve<|.ref 170)::
 (nat_lit 175,hc5 "_law_plain" "_law_plain" 405 149 5 172)::
 (nat_lit 176,kF "_law_plain" "_law_plain" ZW hve<|.ref 175)::
 (nat_lit 180,hc5 "_law_beside" "_law_beside" 411 152 3 177)::
 (nat_lit 181,kF "_law_beside" "_law_beside" Zd hve<|.ref 180)::
 (nat_lit 187,hc7 "_law_made" "_law_made" 417 428 171 3 182)::
 (nat_lit 188,kF "_law_made" "_law_made" YA hve<|.ref 187)::
 (nat_lit 194,hc7 "_law_order" "_law_order" 431 439 184 2 189)::
 (nat_lit 195,kF "_law_order" "_law_order" Z0 hve<|.ref 194)::
 (nat_lit 199,hc5 "_law_signs" "_law_signs" 442 190 3 196)::
 (nat_lit 200,kF "_law_signs" "_law_signs" ZH hve<|.ref 199)::
 (nat_lit 204,hc5 "_law_algebra" "_law_algebra" 448 195 2 201)::
 (nat_lit 205,kF "_law_algebra" "_law_algebra" vM hve<|.ref 204)::
 (nat_lit 209,hc5 "_law_bent" "_law_bent" 454 213 2 206)::
 (nat_lit 210,kF "_law_bent" "_law_bent" YV hve<|.ref 209)::
 (nat_lit 216,hc7 "_law_digits" "_law_digits" 460 468 227 3 211)::
 (nat_lit 217,kF "_law_digits" "_law_digits" Zl hve<|.ref 216)::
 (nat_lit 221,hc5 "_law_by_digits" "_law_by_digits" 471 233 2 218)::
 (nat_lit 222,kF "_law_by_digits" "_law_by_digits" wq hve<|.ref 221)::
 (nat_lit 228,hc7 "_law_any" "_law_any" 477 483 242 1 223)::
 (nat_lit 229,kF "_law_any" "_law_any" Wm hve<|.ref 228)::
 (nat_lit 235,hc7 "_law_good" "_law_good" 486 491 248 1 230)::
 (nat_lit 236,kF "_law_good" "_law_good" YI hve<|.ref 235)::
 (nat_lit 242,hc7 "_law_step" "_law_step" 494 502 253 3 237)::
 (nat_lit 243,kF "_law_step" "_law_step" YB hve<|.ref 242)::
 (nat_lit 247,hc5 "_law_steps" "_law_steps" 505 262 1 244)::
 (nat_lit 248,kF "_law_steps" "_law_steps" ZY hve<|.ref 247)::
 (nat_lit 252,hc5 "_law_held" "_law_held" 511 269 2 249)::
 (nat_lit 253,kF "_law_held" "_law_held" YW hve<|.ref 252)::
 (nat_lit 257,hc5 "_law_numbered" "_law_numbered" 517 271 1 254)::
 (nat_lit 258,kF "_law_numbered" "_law_numbered" wR hve<|.ref 257)::
 (nat_lit 262,hc5 "_law_levels" "_law_levels" 523 277 1 259)::
 (nat_lit 263,kF "_law_levels" "_law_levels" Zg hve<|.ref 262)::
 (nat_lit 269,hc7 "_law_parting" "_law_parting" 529 538 287 3 264)::
 (nat_lit 270,kF "_law_parting" "_law_parting" vR hve<|.ref 269)::
 (nat_lit 276,hc7 "_law_doing" "_law_doing" 541 556 297 5 271)::
 (nat_lit 277,kF "_law_doing" "_law_doing" ZL hve<|.ref 276)::
 (nat_lit 283,hc7 "_law_fails" "_law_fails" 559 572 306 1 278)::
 (nat_lit 284,kF "_law_fails" "_law_fails" ZZ hve<|.ref 283)::
 (nat_lit 288,hc5 "_law_few" "_law_few" 575 315 2 285)::
 (nat_lit 289,kF "_law_few" "_law_few" Wh hve<|.ref 288)::
 (nat_lit 295,hc7 "_law_drawn" "_law_drawn" 581 585 322 1 290)::
 (nat_lit 296,kF "_law_drawn" "_law_drawn" ZQ hve<|.ref 295)::
 (nat_lit 300,hc5 "_law_due" "_law_due" 588 324 1 297)::
 (nat_lit 301,kF "_law_due" "_law_due" Wp hve<|.ref 300)::
 (nat_lit 307,hc7 "_law_told_so" "_law_told_so" 594 599 336 2 302)::
 (nat_lit 308,kF "_law_told_so" "_law_told_so" vL hve<|.ref 307)::
 (nat_lit 314,hc7 "law" "law" 602 612 338 1 309)::
 (nat_lit 315,kF "law" "law" Fv hve<|.ref 314)::
 []
def kA:List Addr:=[3,52,53,59,60,66,67,73,74,80,81,87,88,92,93,97,98,102,103,107,108,112,113,119,120,126,127,133,134,138,139,145,146,150,151,155,156,160,161,165,166,170,171,175,176,180,181,187,188,194,195,199,200,204,205,209,210,216,217,221,222,228,229,235,236,242,243,247,248,252,253,257,258,262,263,269,270,276,277,283,284,288,289,295,296,300,301,307,308,314,315]
def qv:Program:={hpg with main:={hpg.main with body:=[1,2,4,5,6,7,8,9,11,13,14,15,16,18,19,20,21,22,23,24,25,26,27,28,29,30,31,32,33,34,35,36,37,38,39,40,41,42,43,44,45,46,47,48,49,50,51].map top}}
theorem kAe(P:Params):kA=(K P).map (·.1):=by kernel_rfl
set_option maxRecDepth 100000
theorem ws:PySem.Challenge.rw_stretchdeeds_k53_least_algebras.wellSaid=true:=by kernel_rfl
abbrev Xt(s:Shared):Bool:=xlAt qv [] s&&recOk (RowW.records<|OpenRow.toRowW PySem.Challenge.rw_stretchdeeds_k53_least_algebras.row) s
abbrev hk:Hook:=kHook K kA kAe
def htp(l:List Value):Obj:=⟨.type "tuple",none,.seq l.toArray 0,#[]⟩
def htx:Nat->List Str->List Value
 |_,[]=>[]
 |t,x::l=>.str x t::htx (t+1) l
noncomputable def hfO(a t:Nat)(r:Str)(v:Value)(s:Stmt):List Obj:=match s with
 | .FunctionDef n p b _ _ _ c _ _ o=>
  let q:=r++n;let S:Obj:=⟨.none,none,.func {name:=n,qualname:=q,params:=p,body:=.stmts b,scope:=c,globals:=0,closure:=[],defaults:=.none,kwdefaults:=.none},#[]⟩
  match localNames p c (.stmts b) with
  |some (x,_)=>[htp [],hfl .none [],htp<|htx (t+3) x,htp [],S,hc7 n q t (t+3+x.length) o.line p.args.length a,kF n q s v<|.ref<|a+5]
  |none=>[htp [],hfl .none [],S,hc5 n q t o.line p.args.length a,kF n q s v<|.ref<|a+3]
 |_=>[]
noncomputable def htk(s:Stmt):Nat:=match s with
 | .FunctionDef _ p b _ _ _ c _ _ _=>match localNames p c (.stmts b) with
  |some (x,_)=>6+x.length
  |none=>6
 |_=>0
noncomputable def hms(P:Params)(c:Str)(v:Value):Nat->Nat->List Stmt->List Obj×List DictEntry×List Value×Nat
 |_,t,[]=>([],[],[],t)
 |a,t,s::r=>match s with
  | .FunctionDef n _ _ _ _ _ _ _ _ o=>let f:=hfO a t (c++".") v s;let l:=a+f.length;let u:=t+htk s;let z:=hms P c v l u r;(f++z.1,kR P n (u-1) (l-1)::z.2.1,.int o.line 0:: .int 4 0:: .ref (l-2)::z.2.2.1,z.2.2.2)
  |_=>hms P c v a t r
def hfm(a b:Addr)(v:Value):Obj:=⟨.type "frame",none,.plain,#[some<|.ref a,some<|.ref 3,some<|.ref b,none,some v,none,some<|.ref 0]⟩
def hbf(x:String)(v:Value):Obj:=hfl (.type "builtin_function_or_method") [.builtin x,v]
def hgd(x:Str)(t:Nat)(c:Addr)(g s:Value):Obj:=hfl (.type "getset_descriptor") [.str x t,.ref c,g,s]
noncomputable def hcO(P:Params)(a t:Nat)(v:Value)(bv mr sb:List Value)(nw:String)(d:Nat)(s:Stmt):List Obj:=match s with
 | .ClassDef n _ _ b _ _ _ _ _ sa o=>
  let m:=hms P n v (a+7) (t+12) b;let e:=a+7+m.1.length;let k:=m.2.2.2+sa.length;let z:=k+1;let C:=e+2
  let x:=kE P "__module__" (t+7) v;let f:=kE P "__firstlineno__" (t+11)<|.int o.line<|t+10;let y:=kR P "__static_attributes__" k e
  let W:=λt:Nat=>hgd "__weakref__" t C (.builtin "ExceptionGroup.__weakref__") .none
  let D:List DictEntry×List Obj:=match d with
   |0=>([],[])
   |1=>([kR P "__weakref__" (z+1)<|C+1],[W z])
   |_=>([kR P "__dict__" (z+1)<|C+1,kR P "__weakref__" (z+3)<|C+2],[hgd "__dict__" z C (.builtin "function.__dict__")<|.builtin "function.__dict__#set",W<|z+2])
  [htp bv,hbf "type.__prepare__" (.type "type"),kD (x::kE P "__qualname__" (t+9) (.str n<|t+8)::f::m.2.1++[y])<|4+m.2.1.length,htp [],hfl .none m.2.2.1,hco n n (t+2) (t+5) o.line 0 0 false (a+3) .none .none .none,hfm (a+5) (a+2) v]++m.1++[htp<|htx m.2.2.2 sa,kD (x::f::m.2.1++y::D.1++[kE P "__doc__" (z+2*d) .none])<|2+d,⟨.type "type",none,.cls {name:=n,bases:=if bv.isEmpty then [.type "object"] else bv,mro:=.ref C::mr,ns:=e+1,qualname:=n,hasDict:=true,slotNames:=[],subclasses:=sb},#[if bv.isEmpty then none else some<|.ref a,none,some<|.str n t,some<|.str n<|t+8,some<|.builtin nw,some<|.bool true]⟩]++D.2++[hfl (.type "super") [.ref C,.ref C,.ref C],hbf "object.__init_subclass__" (.ref C)]
 |_=>[]
def hcs:List (Int×Addr):=[(2,20),(4,33),(10,52),(17,59),(26,66),(37,73),(46,80),(53,87),(58,92),(66,97),(71,102),(73,107),(82,112),(91,119),(95,126),(97,133),(104,138),(113,145),(117,150),(123,155),(127,160),(130,165),(141,170),(149,175),(152,180),(171,187),(184,194),(190,199),(195,204),(213,209),(227,216),(233,221),(242,228),(248,235),(253,242),(262,247),(269,252),(271,257),(277,262),(287,269),(297,276),(306,283),(315,288),(322,295),(324,300),(336,307),(338,314)]
noncomputable def hhp(P:Params)(v:Value)(g c:Nat)(l:List Obj):Heap:=⟨⟨boot_o_0 P::boot_o_1 P::boot_o_2 P::kD (kE P "__name__" 165 v::(hen P).take g) (g+1)::boot_o_4 P::boot_o_5 P::boot_o_6 P::boot_o_7 P::boot_o_8 P::boot_o_9 P::boot_o_10 P::htp []::hfl .none ((hcs.take c).flatMap λp=>[.int p.1 0,.int 0 0,.ref p.2])::hco "<module>" "<module>" 182 185 1 0 0 false 11 .none .none .none::hfm 13 3 (.str "__main__" 164)::l⟩,(boot_heap P).life⟩
abbrev hbd:=behindTheImports hpg
abbrev hev:Env:={scope:=hpg.main.scope,locals:=mainNs,globals:=mainNs,cells:=[],code:=.ref 13,frame:=some 14}
abbrev hcd:Code:=.body hbd hev
noncomputable abbrev hSh(t:Nat)(h:Heap)(o:OsState):Shared:=⟨h,⟨[]⟩,boot_drawn,t,o⟩
def hl0(P:Params):List Obj:=hcO P 15 189 hva [(.type "ValueError")] hem [(.ref 44)] "ValueError.__new__" 1 (top 1)++hcO P 28 207 hva [(.ref 24)] ((.ref 24)::hem) [] "ValueError.__new__" 0 (top 2)++hfO 47 234 "" hvb (top 4)++hfO 54 244 "" hvb (top 5)++hfO 61 256 "" hvb (top 6)++hfO 68 272 "" hvb (top 7)++hfO 75 283 "" hvb (top 8)++hfO 82 291 "" hvb (top 9)++hfO 89 301 "" hvc (top 11)++hfO 94 309 "" hvd (top 13)++hfO 99 315 "" hvd (top 14)++hfO 104 321 "" hvd (top 15)++hfO 109 327 "" hvd (top 16)++hfO 114 335 "" hve (top 18)++hfO 121 343 "" hve (top 19)++hfO 128 350 "" hve (top 20)++hfO 135 361 "" hve (top 21)++hfO 140 367 "" hve (top 22)++hfO 147 375 "" hve (top 23)
def hl1(P:Params):List Obj:=hl0 P++hfO 152 381 "" hve (top 24)++hfO 157 387 "" hve (top 25)++hfO 162 393 "" hve (top 26)++hfO 167 399 "" hve (top 27)++hfO 172 405 "" hve (top 28)++hfO 177 411 "" hve (top 29)++hfO 182 417 "" hve (top 30)++hfO 189 431 "" hve (top 31)++hfO 196 442 "" hve (top 32)++hfO 201 448 "" hve (top 33)++hfO 206 454 "" hve (top 34)++hfO 211 460 "" hve (top 35)++hfO 218 471 "" hve (top 36)++hfO 223 477 "" hve (top 37)++hfO 230 486 "" hve (top 38)++hfO 237 494 "" hve (top 39)++hfO 244 505 "" hve (top 40)++hfO 249 511 "" hve (top 41)++hfO 254 517 "" hve (top 42)++hfO 259 523 "" hve (top 43)++hfO 264 529 "" hve (top 44)++hfO 271 541 "" hve (top 45)++hfO 278 559 "" hve (top 46)++hfO 285 575 "" hve (top 47)++hfO 290 581 "" hve (top 48)++hfO 297 588 "" hve (top 49)++hfO 302 594 "" hve (top 50)++hfO 309 602 "" hve (top 51)
theorem hr0(w:World)(o:OsState):topGo treeTable hpg w 11 (some<|.ref 6) 12 (hSh boot_toks (boot_heap w.params) o) (topStub hpg)=some (hSh 187 (hhp w.params (.str "__main__" 164) 8 0 []) o,⟨denote treeTable hcd,hcd,⟨0,0,0,0⟩,[topFrame ⟨0,0,0,0⟩]⟩):=by kernel_rfl
theorem hr1(w:World)(o:OsState):segRun treeTable hpg w 11 (some<|.ref 6) 1 1 (hSh 187 (hhp w.params (.str "__main__" 164) 8 0 []) o) (blockOf hbd hev hcd ⟨0,0,0,0⟩ [topFrame ⟨0,0,0,0⟩])=some (.next,hSh 187 (hhp w.params (.str "__main__" 164) 8 0 []) o,hcd,⟨0,0,0,0⟩):=by kernel_rfl
theorem hs0(w:World)(o:OsState):segRun treeTable hpg w 11 (some<|.ref 6) 1 978 (hSh 187 (hhp w.params (.str "__main__" 164) 8 0 []) o) (piecesOf (hbd.take 24) hev hcd ⟨0,0,0,0⟩ [topFrame ⟨0,0,0,0⟩])=some (.next,hSh 381 (hhp w.params hve 27 19<|hl0 w.params) o,hcd,⟨117,0,122,25⟩):=by kernel_rfl
abbrev hb0:=hbd.drop 24
theorem hs1(w:World)(o:OsState):topRun treeTable hpg w 11 (some<|.ref 6) 821 (hSh 381 (hhp w.params hve 27 19<|hl0 w.params) o) (restOf hb0 hev hcd ⟨117,0,122,25⟩ [topFrame ⟨0,0,0,0⟩])=some (hSh 615 (hhp w.params hve 55 47<|hl1 w.params) o):=by kernel_rfl
theorem hpa{w:World}{n N t t':Nat}{h h':Heap}{o:OsState}{r:Shared}{b:List Stmt}(m:Nat){p p':Pos}(x:segRun treeTable hpg w 11 (some<|.ref 6) 1 n (hSh t h o) (piecesOf (b.take m) hev hcd p [topFrame ⟨0,0,0,0⟩])=some (.next,hSh t' h' o,hcd,p'))(y:topRun treeTable hpg w 11 (some<|.ref 6) N (hSh t' h' o) (restOf (b.drop m) hev hcd p' [topFrame ⟨0,0,0,0⟩])=some r):topRun treeTable hpg w 11 (some<|.ref 6) (n+N) (hSh t h o) (restOf b hev hcd p [topFrame ⟨0,0,0,0⟩])=some r:=by
 have z:=piece_app x y;rwa[List.take_append_drop] at z
theorem hhr(w:World)(o:OsState):topRun treeTable hpg w 11 (some<|.ref 6) (12+(1+(978+821))) (hSh boot_toks (boot_heap w.params) o) (topStub hpg)=some (hSh 615 (hhp w.params hve 55 47<|hl1 w.params) o):=go_top (hr0 w o)<|piece_block (hr1 w o)<|hpa _ (hs0 w o)<|hs1 w o
def hhf(P:Params):Heap:=hhp P hve 55 47<|hl1 P
theorem hhq(w:World):(λo=>((staticsOk (importedModules hpg.main.body) (boot_heap w.params) (hhf w.params)&&namesBound hpg (hhf w.params)&&gensDone (hSh 615 (hhf w.params) o)&&laidKept (boot_heap w.params) (hhf w.params)),openSeen qv [] (importedModules hpg.main.body) Xt true<|hSh 615 (hhf w.params) o,hk.obs<|hSh 615 (hhf w.params) o))=λ_=>(true,openGood qv [],hk.val w):=by kernel_rfl
theorem hl:LeftO PySem.Challenge.pw_stretchdeeds_k53_least_algebras qv [] Xt hk.obs hk.val 6000:=LeftO.of_pieces (H₀:=boot_heap) (H₁:=hhf) (boot_open (by kernel_rfl) rfl λ_=>by kernel_rfl) (λ_=>by kernel_rfl) hhr rfl hhq
end G53
end
section
namespace PF
open PySem PySem.Spec PyProof.Rows L2
abbrev St:=L2.St
structure KD where
 d:Addr->List (Key×V)->Prop
 c:Str->Addr
instance:CoeFun KD (λ_=>Addr->List (Key×V)->Prop):=⟨KD.d⟩
inductive D where
 |non|bl (b:Bool)|int (i:Int)|str (x:Str)|tup (ds:List D)|lst (ds:List D)|dct (kvs:List (Key×D))|cl (c:Str)|ob (c:Str) (ns:List Str) (ds:List D)|dt (ks:List (List Key)) (ds:List D)|er (c an:Str) (d:D)
def XB(a C dx:Addr):Heap->Prop:=λh=>∃o,h.get? a=some o/\o.cls = .ref C/\o.dict=some dx/\∃vs,o.data = .fields vs
mutual
inductive Rp(K:zzA)(kd:KD)(O:Addr->Prop)(H:Hp):V->D->Prop
 |non:Rp K kd O H .non .non
 |bl (b:Bool):Rp K kd O H (.bl b) (.bl b)
 |int (i:Int):Rp K kd O H (.int i) (.int i)
 |str (x:Str):Rp K kd O H (.str x) (.str x)
 |tup {a:Addr}{vs:List V}{ds:List D}:¬O a->H a=some (.tup vs)->RpL K kd O H vs ds->Rp K kd O H (.ref a) (.tup ds)
 |lst {a:Addr}{vs:List V}{ds:List D}:¬O a->Rd H a (.lst vs)->RpL K kd O H vs ds->Rp K kd O H (.ref a) (.lst ds)
 |lstK {a:Addr}{its:Array Value}{n:Nat}{vs:List V}{ds:List D}:K.lookup a=some {cls:=.type "list",data:=.seq its n}->its.size<=sizeLine->yd vs its.toList->RpL K kd O H vs ds->Rp K kd O H (.ref a) (.lst ds)
 |dct {a:Addr}{kvs:List (Key×V)}{ds:List (Key×D)}:¬O a->Rd H a (.dK kvs)->RpM K kd O H kvs ds->Rp K kd O H (.ref a) (.dct ds)
 |dctK {a:Addr}{kvs:List (Key×V)}{ds:List (Key×D)}:kd a kvs->RpM K kd O H kvs ds->Rp K kd O H (.ref a) (.dct ds)
 |cl (c:Str):Rp K kd O H (.ref (kd.c c)) (.cl c)
 |ob {a dx:Addr}{c:Str}{ns:List Str}{vs:List V}{ds:List D}:¬O a->H a=some (.ins (kd.c c) dx (ns.zip vs))->ns.length=vs.length->RpL K kd O H vs ds->Rp K kd O H (.ref a) (.ob c ns ds)
 |dt {a:Addr}{ks:List (List Key)}{vs:List V}{ds:List D}:¬O a->H a=some (.dT (ks.zip vs))->ks.length=vs.length->RpL K kd O H vs ds->Rp K kd O H (.ref a) (.dt ks ds)
 |er {a dx:Addr}{c an:Str}{v:V}{d:D}:¬O a->¬O dx->H a=some (.ext (XB a (kd.c c) dx))->H dx=some (.xd [(an,v)])->Rp K kd O H v d->Rp K kd O H (.ref a) (.er c an d)
inductive RpL(K:zzA)(kd:KD)(O:Addr->Prop)(H:Hp):List V->List D->Prop
 |nil:RpL K kd O H [] []
 |cons {v:V}{d:D}{vs:List V}{ds:List D}:Rp K kd O H v d->RpL K kd O H vs ds->RpL K kd O H (v::vs) (d::ds)
inductive RpM(K:zzA)(kd:KD)(O:Addr->Prop)(H:Hp):List (Key×V)->List (Key×D)->Prop
 |nil:RpM K kd O H [] []
 |cons {k:Key}{v:V}{d:D}{vs:List (Key×V)}{ds:List (Key×D)}:Rp K kd O H v d->RpM K kd O H vs ds->RpM K kd O H ((k,v)::vs) ((k,d)::ds)
end
structure Grow(W:Addr->Prop)(H:Hp)(W':Addr->Prop)(H':Hp):Prop where
 keep:∀b o,H b=some o->¬W b->H' b=some o
 own:∀b,W' b->W b\/H b=none
def Grow.refl:Grow W H W H:=⟨λ_ _ h _=>h,λ_ h=>.inl h⟩
def Grow.trans(a:Grow W H W1 H1)(b:Grow W1 H1 W2 H2):Grow W H W2 H2 where
 keep:=λx o h n=>b.keep x o (a.keep x o h n) λq=>(a.own x q).elim n λz=>by rw[z]at h;cases h
 own:=λx q=>by
  rcases b.own x q with h|h
  . exact a.own x h
  . cases e:H x with
    |none=>exact .inr rfl
    |some o=>
     refine .inl<|Classical.byContradiction λn=>?_;rw[a.keep x o e n]at h;cases h
def Grow.less(h:∀a,W' a->W a):Grow W H W' H:=⟨λ_ _ q _=>q,λb q=>.inl<|h b q⟩
abbrev QK(F W:Addr->Prop):Addr->Prop:=λa=>F a\/W a
section
variable{K:zzA}{kd:KD}{F W W':Addr->Prop}{H H':Hp}
def VN(g:Grow W H W' H')(n:¬W a)(h:Rd H a u):Rd H' a u:=by
 rcases h with h|⟨o,h⟩
 . exact .inl<|g.keep _ _ h n
 . exact .inr ⟨o,g.keep _ _ h n⟩
def OZ(h:Rd H a u):H a≠none:=by
 rcases h with h|⟨o,h⟩<;>(rw[h];simp)
def Zp(g:Grow W H W' H')(n:¬QK F W a)(h:Rd H a u):¬QK F W' a:=λq=>
 q.elim (λz=>n<|.inl z) λz=>(g.own a z).elim (λy=>n<|.inr y) λy=>OZ h y
def Rp.grow(g:Grow W H W' H')(h:Rp K kd (QK F W) H v d):Rp K kd (QK F W') H' v d:=
 Rp.rec .non .bl .int .str (λn h _ r=>.tup (Zp g n<|.inl h) (g.keep _ _ h λz=>n<|.inr z) r) (λn h _ r=>.lst (Zp g n h) (VN g (λz=>n<|.inr z) h) r) (λa e f _ r=>.lstK a e f r) (λn h _ r=>.dct (Zp g n h) (VN g (λz=>n<|.inr z) h) r) (λh _ r=>.dctK h r) .cl (λn h l _ r=>.ob (Zp g n<|.inl h) (g.keep _ _ h λz=>n<|.inr z) l r) (λn h l _ r=>.dt (Zp g n<|.inl h) (g.keep _ _ h λz=>n<|.inr z) l r) (λn m h k _ r=>.er (Zp g n<|.inl h) (Zp g m<|.inl k) (g.keep _ _ h λz=>n<|.inr z) (g.keep _ _ k λz=>m<|.inr z) r) .nil (λ_ _ h r=>.cons h r) .nil (λ_ _ h r=>.cons h r) h
def RpL.ind{O}{P:List V->List D->Prop}(h0:P [] [])(h1:∀{v d vs ds},Rp K kd O H v d->RpL K kd O H vs ds->P vs ds->P (v::vs) (d::ds)){vs}{ds}(h:RpL K kd O H vs ds):P vs ds:=
 RpL.rec (motive_1:=λ_ _ _=>True) (motive_3:=λ_ _ _=>True) ⟨⟩ (λ_=>⟨⟩) (λ_=>⟨⟩) (λ_=>⟨⟩) (λ_ _ _ _=>⟨⟩) (λ_ _ _ _=>⟨⟩) (λ_ _ _ _ _=>⟨⟩) (λ_ _ _ _=>⟨⟩) (λ_ _ _=>⟨⟩) (λ_=>⟨⟩) (λ_ _ _ _ _=>⟨⟩) (λ_ _ _ _ _=>⟨⟩) (λ_ _ _ _ _ _=>⟨⟩) h0 (λa r _ ih=>h1 a r ih) ⟨⟩ (λ_ _ _ _=>⟨⟩) h
def RpM.ind{O}{P:List (Key×V)->List (Key×D)->Prop}(h0:P [] [])(h1:∀{k v d vs ds},Rp K kd O H v d->RpM K kd O H vs ds->P vs ds->P ((k,v)::vs) ((k,d)::ds)){vs}{ds}(h:RpM K kd O H vs ds):P vs ds:=
 RpM.rec (motive_1:=λ_ _ _=>True) (motive_2:=λ_ _ _=>True) ⟨⟩ (λ_=>⟨⟩) (λ_=>⟨⟩) (λ_=>⟨⟩) (λ_ _ _ _=>⟨⟩) (λ_ _ _ _=>⟨⟩) (λ_ _ _ _ _=>⟨⟩) (λ_ _ _ _=>⟨⟩) (λ_ _ _=>⟨⟩) (λ_=>⟨⟩) (λ_ _ _ _ _=>⟨⟩) (λ_ _ _ _ _=>⟨⟩) (λ_ _ _ _ _ _=>⟨⟩) ⟨⟩ (λ_ _ _ _=>⟨⟩) h0 (λa r _ ih=>h1 a r ih) h
theorem RpL.grow(g:Grow W H W' H'){vs:List V}{ds}(h:RpL K kd (QK F W) H vs ds):RpL K kd (QK F W') H' vs ds:=RpL.ind .nil (λa _ r=>.cons (Rp.grow g a) r) h
def Rp.less(g:∀a,O' a->O a)(h:Rp K kd O H v d):Rp K kd O' H v d:=
 Rp.rec .non .bl .int .str (λn h _ r=>.tup (λz=>n<|g _ z) h r) (λn h _ r=>.lst (λz=>n<|g _ z) h r) (λa e f _ r=>.lstK a e f r) (λn h _ r=>.dct (λz=>n<|g _ z) h r) (λh _ r=>.dctK h r) .cl (λn h l _ r=>.ob (λz=>n<|g _ z) h l r) (λn h l _ r=>.dt (λz=>n<|g _ z) h l r) (λn m h k _ r=>.er (λz=>n<|g _ z) (λz=>m<|g _ z) h k r) .nil (λ_ _ h r=>.cons h r) .nil (λ_ _ h r=>.cons h r) h
theorem RpL.less{O O':Addr->Prop}(g:∀a,O' a->O a){vs}{ds}(h:RpL K kd O H vs ds):RpL K kd O' H vs ds:=RpL.ind .nil (λa _ r=>.cons (Rp.less g a) r) h
theorem RpM.less{O O':Addr->Prop}(g:∀a,O' a->O a){vs}{ds}(h:RpM K kd O H vs ds):RpM K kd O' H vs ds:=RpM.ind .nil (λa _ r=>.cons (Rp.less g a) r) h
theorem RpL.length{O:Addr->Prop}{vs}{ds}(h:RpL K kd O H vs ds):vs.length=ds.length:=RpL.ind (P:=λvs ds=>vs.length=ds.length) rfl (λ_ _ r=>congrArg (· + 1) r) h
theorem RpM.length{O:Addr->Prop}{vs}{ds}(h:RpM K kd O H vs ds):vs.length=ds.length:=RpM.ind (P:=λvs ds=>vs.length=ds.length) rfl (λ_ _ r=>congrArg (· + 1) r) h
def RpL.get{O}{vs:List V}{ds}{i:Nat}{d}(h:RpL K kd O H vs ds)(e:ds[i]? = some d):∃v,vs[i]? = some v/\Rp K kd O H v d:=
 RpL.ind (P:=λvs ds=>∀i,ds[i]? = some d->∃v,vs[i]? = some v/\Rp K kd O H v d) (λi e=>by rw[List.getElem?_nil]at e;cases e) (λa _ ih i e=>by
  cases i with
  |zero=>cases e;exact⟨_,rfl,a⟩
  |succ i=>exact ih i e) h i e
def RpL.append{O:Addr->Prop}{vs ws}{ds es}(h:RpL K kd O H vs ds)(r:RpL K kd O H ws es):RpL K kd O H (vs++ws) (ds++es):=RpL.ind (P:=λvs ds=>RpL K kd O H (vs++ws)<|ds++es) r (λa _ t=>.cons a t) h
theorem RpL.take{O:Addr->Prop}{vs}{ds}(n:Nat)(h:RpL K kd O H vs ds):RpL K kd O H (vs.take n) (ds.take n):=
 RpL.ind (P:=λvs ds=>∀n,RpL K kd O H (vs.take n)<|ds.take n) (λn=>by rw[List.take_nil,List.take_nil];exact .nil) (λa _ ih n=>by
  cases n with
  |zero=>exact .nil
  |succ n=>exact .cons a (ih n)) h n
theorem RpL.drop{O:Addr->Prop}{vs}{ds}(n:Nat)(h:RpL K kd O H vs ds):RpL K kd O H (vs.drop n) (ds.drop n):=
 RpL.ind (P:=λvs ds=>∀n,RpL K kd O H (vs.drop n)<|ds.drop n) (λn=>by rw[List.drop_nil,List.drop_nil];exact .nil) (λa b ih n=>by
  cases n with
  |zero=>exact .cons a b
  |succ n=>exact ih n) h n
theorem RpL.rep(h:RpL K kd O H vs ds):∀k:Nat,RpL K kd O H (List.replicate k vs).flatten (List.replicate k ds).flatten
 |0=>.nil
 |k+1=>by
  rw[List.replicate_succ,List.replicate_succ,List.flatten_cons,List.flatten_cons];exact h.append<|RpL.rep h k
end
inductive Vw(K:zzA)(kd:KD)(O:Addr->Prop)(H:Hp):V->D->Prop
 |non:Vw K kd O H .non .non
 |bl (b:Bool):Vw K kd O H (.bl b) (.bl b)
 |int (i:Int):Vw K kd O H (.int i) (.int i)
 |str (x:Str):Vw K kd O H (.str x) (.str x)
 |tup {a:Addr}{vs:List V}{ds:List D}:Rp K kd O H (.ref a) (.tup ds)->Q8 K H a vs->RpL K kd O H vs ds->Vw K kd O H (.ref a) (.tup ds)
 |lst {a:Addr}{vs:List V}{ds:List D}:Oc K H a vs->RpL K kd O H vs ds->Vw K kd O H (.ref a) (.lst ds)
 |dct {a:Addr}{kvs:List (Key×V)}{ds:List (Key×D)}:(Rd H a (.dK kvs)\/kd a kvs)->RpM K kd O H kvs ds->Vw K kd O H (.ref a) (.dct ds)
 |cl (c:Str):Vw K kd O H (.ref (kd.c c)) (.cl c)
 |ob {a dx:Addr}{c:Str}{ns:List Str}{vs:List V}{ds:List D}:H a=some (.ins (kd.c c) dx (ns.zip vs))->ns.length=vs.length->RpL K kd O H vs ds->Vw K kd O H (.ref a) (.ob c ns ds)
 |dt {a:Addr}{ks:List (List Key)}{vs:List V}{ds:List D}:H a=some (.dT (ks.zip vs))->ks.length=vs.length->RpL K kd O H vs ds->Vw K kd O H (.ref a) (.dt ks ds)
 |er {a dx:Addr}{c an:Str}{v:V}{d:D}:H a=some (.ext (XB a (kd.c c) dx))->H dx=some (.xd [(an,v)])->Rp K kd O H v d->Vw K kd O H (.ref a) (.er c an d)
def Rp.vw{K}{kd}{O}{H}{v}{d}(h:Rp K kd O H v d):Vw K kd O H v d:=by
 cases h with
 |non=>exact .non
 |bl b=>exact .bl b
 |int i=>exact .int i
 |str x=>exact .str x
 |tup n h r=>exact .tup (.tup n h r) (.inl<|.inl h) r
 |lst n h r=>exact .lst (.inl h) r
 |lstK a e f r=>exact .lst (.inr ⟨_,_,a,e,f⟩) r
 |dct n h r=>exact .dct (.inl h) r
 |dctK h r=>exact .dct (.inr h) r
 |cl c=>exact .cl c
 |ob n h l r=>exact .ob h l r
 |dt n h l r=>exact .dt h l r
 |er n m h k r=>exact .er h k r
def _root_.L2.Oc.sq{K}{H}{a}{xs}(h:Oc K H a xs):Xr K H a xs:=by
 rcases h with h|⟨its,n,k,z,r⟩
 . exact .inl h
 . exact .inr ⟨_,its,n,k,rfl,rfl,rfl,z,r⟩
def MO(I:Inv X pins σ H s)(h:Oc X.K H a xs):
 xs.length<=sizeLine/\∃(its:List Value) (n:Nat),yd xs its/\s.heap.get? a=some {cls:=.type "list",data:=.seq its.toArray n}:=by
 rcases h with h|⟨its,n,k,z,r⟩
 . exact h.ok I.hok
 . refine⟨by rw[r.length];simpa using z,its.toList,n,r,by simpa using I.kIn _ _ k⟩
def Rp.cl_eq{K}{kd}{O}{H}{C}{c}(h:Rp K kd O H (.ref C) (.cl c)):C=kd.c c:=by
 cases h;rfl
def zR:D->Bool
 | .non=>true | .bl _=>true | .int _=>true | .str _=>true|_=>false
def Rp.flat{K}{kd}{O O'}{H H'}{v}{d}(h:Rp K kd O H v d)(e:zR d=true):Rp K kd O' H' v d:=by
 cases h with
 |non=>exact .non
 |bl b=>exact .bl b
 |int i=>exact .int i
 |str x=>exact .str x
 |_=>cases e
inductive Kind where
 |ls|tp|dc (ks:List Key)|ob (c:Str) (ns:List Str)|dt (ks:List (List Key))
inductive O where
 |lf (st:Bool) (d:D)|nd (k:Kind) (os:List O)
abbrev Nc(st:Bool)(d:D):O:=.lf (zR d||st) d
mutual
inductive Ro(L:Bool->V->D->Prop)(N:Addr->Prop)(H:Hp):V->O->List Addr->Prop
 |lf {st:Bool}{v:V}{d:D}:L st v d->Ro L N H v (.lf st d) []
 |ls {a:Addr}{vs:List V}{os:List O}{fp:List Addr}:H a=some (.lst vs)->RoL L N H vs os fp->Ro L N H (.ref a) (.nd .ls os) (a::fp)
 |dc {a:Addr}{ks:List Key}{vs:List V}{os:List O}{fp:List Addr}:H a=some (.dK (ks.zip vs))->ks.length=vs.length->RoL L N H vs os fp->Ro L N H (.ref a) (.nd (.dc ks) os) (a::fp)
 |ob {a dx C:Addr}{c:Str}{ns:List Str}{vs:List V}{os:List O}{fp:List Addr}:L true (.ref C) (.cl c)->H a=some (.ins C dx (ns.zip vs))->ns.length=vs.length->RoL L N H vs os fp->Ro L N H (.ref a) (.nd (.ob c ns) os) (a::fp)
 |dt {a:Addr}{ks:List (List Key)}{vs:List V}{os:List O}{fp:List Addr}:H a=some (.dT (ks.zip vs))->ks.length=vs.length->RoL L N H vs os fp->Ro L N H (.ref a) (.nd (.dt ks) os) (a::fp)
 |tp {a:Addr}{vs:List V}{os:List O}{fp:List Addr}:N a->H a=some (.tup vs)->RoL L N H vs os fp->Ro L N H (.ref a) (.nd .tp os) fp
inductive RoL(L:Bool->V->D->Prop)(N:Addr->Prop)(H:Hp):List V->List O->List Addr->Prop
 |nil:RoL L N H [] [] []
 |cons {v:V}{o:O}{vs:List V}{os:List O}{fp fq:List Addr}:Ro L N H v o fp->RoL L N H vs os fq->RoL L N H (v::vs) (o::os) (fp++fq)
end
mutual
def O.toD:O->D
 | .lf _ d=>d
 | .nd .ls os=>.lst<|O.toDs os
 | .nd .tp os=>.tup<|O.toDs os
 | .nd (.dc ks) os=>.dct<|ks.zip<|O.toDs os
 | .nd (.ob c ns) os=>.ob c ns<|O.toDs os
 | .nd (.dt ks) os=>.dt ks<|O.toDs os
def O.toDs:List O->List D
 | []=>[]
 |o::r=>o.toD::O.toDs r
end
mutual
def O.str:O->Bool
 | .lf st _=>st
 | .nd _ os=>O.strs os
def O.strs:List O->Bool
 | []=>true
 |o::r=>o.str&&O.strs r
end
section
variable{L L':Bool->V->D->Prop}{N N':Addr->Prop}{H H':Hp}{K:zzA}{kd:KD}{Ob:Addr->Prop}
def Ro.mono(hL:∀st v d,L st v d->L' st v d)(hN:∀a vs,N a->H a=some (.tup vs)->N' a/\H' a=some (.tup vs))(k:∀a ∈ fp,∀u,H a=some u->H' a=some u)(h:Ro L N H v o fp):Ro L' N' H' v o fp:=
 Ro.rec (motive_2:=λvs os fp _=>(∀a ∈ fp,∀u,H a=some u->H' a=some u)->RoL L' N' H' vs os fp)
  (λh _=>.lf<|hL _ _ _ h) (λh _ r k=>.ls (k _ zzF _ h)<|r λa m=>k a<|zzD _ m) (λh l _ r k=>.dc (k _ zzF _ h) l<|r λa m=>k a<|zzD _ m) (λc h l _ r k=>.ob (hL _ _ _ c) (k _ zzF _ h) l<|r λa m=>k a<|zzD _ m) (λh l _ r k=>.dt (k _ zzF _ h) l<|r λa m=>k a<|zzD _ m) (λn h _ r k=>.tp (hN _ _ n h).1 (hN _ _ n h).2<|r k)
  (λ_=>.nil) (λ_ _ h r k=>.cons (h λa m=>k a<|zzP _ m)<|r λa m=>k a<|zzL _ m) h k
def RoL.ind{P:List V->List O->List Addr->Prop}(h0:P [] [] [])(h1:∀{v o vs os fp fq},Ro L N H v o fp->RoL L N H vs os fq->P vs os fq->P (v::vs) (o::os) (fp++fq)){vs}{os}{fp}(h:RoL L N H vs os fp):P vs os fp:=
 RoL.rec (motive_1:=λ_ _ _ _=>True) (λ_=>⟨⟩) (λ_ _ _=>⟨⟩) (λ_ _ _ _=>⟨⟩) (λ_ _ _ _ _=>⟨⟩) (λ_ _ _ _=>⟨⟩) (λ_ _ _ _=>⟨⟩) h0 (λa r _ ih=>h1 a r ih) h
theorem RoL.mono(hL:∀st v d,L st v d->L' st v d)(hN:∀a vs,N a->H a=some (.tup vs)->N' a/\H' a=some (.tup vs)){vs:List V}{os}{fp}(k:∀a ∈ fp,∀u,H a=some u->H' a=some u)(h:RoL L N H vs os fp):RoL L' N' H' vs os fp:=
 RoL.ind (P:=λvs os fp=>(∀a ∈ fp,∀u,H a=some u->H' a=some u)->RoL L' N' H' vs os fp) (λ_=>.nil) (λh _ r k=>.cons (Ro.mono hL hN (λa m=>k a<|zzP _ m) h)<|r λa m=>k a<|zzL _ m) h k
theorem RN:∀{ks:List Key}{vs:List V}{ds:List D},RpL K kd Ob H vs ds->ks.length=vs.length->RpM K kd Ob H (ks.zip vs) (ks.zip ds)
 | [],_,_,_,_=>.nil
 |_::_,_,_,.nil,e=>by simp at e
 |_::_,_,_,.cons h r,e=>.cons h (RN r<|by simpa using e)
def Ro.rp(b)(hL:∀st v d,(b=true->st=true)->L st v d->Rp K kd Ob H v d)(hN:∀a,N a->¬Ob a){v}{o}{fp}(s:b=true->o.str=true)(k:∀a ∈ fp,¬Ob a)(h:Ro L N H v o fp):Rp K kd Ob H v o.toD:=
 Ro.rec (motive_2:=λvs os fp _=>(b=true->O.strs os=true)->(∀a ∈ fp,¬Ob a)->RpL K kd Ob H vs (O.toDs os))
  (λh s _=>hL _ _ _ s h) (λh _ r s k=>.lst (k _ zzF) (.inl h)<|r s λa m=>k a<|zzD _ m) (λh l _ r s k=>.dct (k _ zzF) (.inl h)<|RN (r s λa m=>k a<|zzD _ m) l) (λc h l _ r s k=>by
   have e:=(hL _ _ _ (λ_=>rfl) c).cl_eq;subst e;exact .ob (k _ zzF) h l<|r s λa m=>k a<|zzD _ m) (λh l _ r s k=>.dt (k _ zzF) h l<|r s λa m=>k a<|zzD _ m) (λn h _ r s k=>.tup (hN _ n) h<|r s k)
  (λ_ _=>.nil) (λ_ _ h r s k=>.cons (h (λz=>((zyC _ _).mp<|s z).1) λa m=>k a<|zzP _ m)<|r (λz=>((zyC _ _).mp<|s z).2) λa m=>k a<|zzL _ m) h s k
theorem RoL.rp(b:Bool)(hL:∀st v d,(b=true->st=true)->L st v d->Rp K kd Ob H v d)(hN:∀a,N a->¬Ob a){vs}{os}{fp}(s:b=true->O.strs os=true)(k:∀a ∈ fp,¬Ob a)(h:RoL L N H vs os fp):RpL K kd Ob H vs (O.toDs os):=
 RoL.ind (P:=λvs os fp=>(b=true->O.strs os=true)->(∀a ∈ fp,¬Ob a)->RpL K kd Ob H vs (O.toDs os)) (λ_ _=>.nil) (λh _ r s k=>.cons (Ro.rp b hL hN (λz=>((zyC _ _).mp<|s z).1) (λa m=>k a<|zzP _ m) h)<|r (λz=>((zyC _ _).mp<|s z).2) λa m=>k a<|zzL _ m) h s k
theorem RoL.length{vs:List V}{os}{fp}(h:RoL L N H vs os fp):vs.length=os.length:=RoL.ind (P:=λvs os _=>vs.length=os.length) rfl (λ_ _ r=>congrArg (· + 1) r) h
theorem X4:∀os:List O,(O.toDs os).length=os.length
 | []=>rfl
 |_::r=>congrArg (· + 1)<|X4 r
def RoL.append{vs ws:List V}{os ps}{f g}(h:RoL L N H vs os f)(r:RoL L N H ws ps g):RoL L N H (vs++ws) (os++ps) (f++g):=RoL.ind (P:=λvs os f=>RoL L N H (vs++ws) (os++ps)<|f++g) r (λh _ t=>by rw[zxD];exact .cons h t) h
def RoL.one(h:Ro L N H v o f):RoL L N H [v] [o] f:=by
 have:=RoL.cons h<|RoL.nil;rw[zyE]at this;exact this
def RoL.at_:∀{vs:List V}{os:List O}{fp:List Addr},RoL L N H vs os fp->os[k]? = some o->∃v f fo g,vs[k]? = some v/\fp=f++(fo++g)/\Ro L N H v o fo/\RoL L N H (vs.take k) (os.take k) f/\RoL L N H (vs.drop<|k+1) (os.drop<|k+1) g:=by
 induction k with
 |zero=>
  intro vs os fp h e;cases h with
  |nil=>cases e
  |cons h r=>
   rw[List.getElem?_cons_zero]at e;cases e;exact⟨_,[],_,_,rfl,rfl,h,.nil,r⟩
 |succ k ih=>
  intro vs os fp h e;cases h with
  |nil=>cases e
  |cons h r=>
   rw[List.getElem?_cons_succ]at e;obtain⟨v,f,fo,g,e1,e2,h1,h2,h3⟩:=ih r e;subst e2;exact⟨v,_,fo,g,by rw[List.getElem?_cons_succ];exact e1,(zxD _ _ _).symm,h1,.cons h h2,h3⟩
def UE(l:List α)(k:Nat):l.eraseIdx k=l.take k++l.drop (k+1):=List.eraseIdx_eq_take_drop_succ l k
end
abbrev AS:=List<|Option O
abbrev Ad:=Nat->List Addr
def Gw(T:List Addr)(ad:Ad):Addr->Prop:=λa=>a ∈ T\/∃i,a ∈ ad i
abbrev Lv(F B G:Addr->Prop)(st:Bool):Addr->Prop:=QK (λa=>(st=true/\F a)\/B a) G
abbrev Lf(K:zzA)(kd:KD)(F B G:Addr->Prop)(H:Hp):Bool->V->D->Prop:=λst v d=>Rp K kd (Lv F B G st) H v d
abbrev Nf(F B G:Addr->Prop):Addr->Prop:=λa=>¬Lv F B G true a
abbrev xY(K:zzA)(kd:KD)(F B G:Addr->Prop)(H:Hp):V->O->List Addr->Prop:=Ro (Lf K kd F B G H) (Nf F B G) H
abbrev vG(K:zzA)(kd:KD)(F B G:Addr->Prop)(H:Hp):List V->List O->List Addr->Prop:=RoL (Lf K kd F B G H) (Nf F B G) H
def T8(K:zzA)(kd:KD)(F B G:Addr->Prop)(H:Hp):Option O->Option (Option V)->List Addr->Prop
 |none,_,fp=>fp=[]
 |some o,s,fp=>∃v,s=some (some v)/\xY K kd F B G H v o fp
structure Rel(K:zzA)(kd:KD)(F B:Addr->Prop)(T:List Addr)(ad:Ad)(as:AS)(σ:St)(H:Hp):Prop where
 len:as.length=σ.length
 out:∀i,as.length<=i->ad i=[]
 nd:∀i,(ad i).Nodup
 inj:∀i j a,a ∈ ad i->a ∈ ad j->i=j
 tnd:T.Nodup
 dis:∀i a,a ∈ ad i->a ∉ T
 ftr:∀a,F a->H a≠none
 btr:∀a,B a->H a≠none/\¬F a/\¬Gw T ad a
 gtr:∀a,Gw T ad a->H a≠none/\¬F a
 sl:∀i s,as[i]? = some s->T8 K kd F B (Gw T ad) H s σ[i]? (ad i)
inductive RV where
 |ow (o:O)|bo (i:Nat)
def x_(K:zzA)(kd:KD)(F B:Addr->Prop)(T:List Addr)(ad:Ad)(σ:St)(H:Hp)(v:V):RV->Prop
 | .ow o=>xY K kd F B (Gw T ad) H v o T
 | .bo i=>T=[]/\σ[i]? = some (some v)
def O.frz(o:O):O:=.lf o.str o.toD
def RV.frz:RV->RV
 | .ow o=>.ow o.frz
 | .bo i=>.bo i
def O.isLf:O->Bool
 | .lf _ _=>true
 |_=>false
def O.kl:O->Option Bool
 | .lf st _=>some st
 | .nd _ os=>if os.all O.isLf=true then some (O.strs os)else none
def RV.view(as:AS):RV->Option (D×Option Bool)
 | .ow o=>some (o.toD,some o.str)
 | .bo i=>match as[i]? with
  |some (some o)=>some (o.toD,o.kl)
  |_=>none
def Pu(F B G:Addr->Prop):Option Bool->Addr->Prop
 |some st=>Lv F B G st
 |none=>λ_=>False
section
variable{K:zzA}{kd:KD}{F B F' B':Addr->Prop}{G G':Addr->Prop}{T T':List Addr}{ad ad1:Ad}{as as1:AS}{σ:St}{H H1 H':Hp}{v:V}{r:RV}{o:O}{fp:List Addr}{vs:List V}{os:List O}
theorem xY.grow(g:Grow G H G' H')(k:∀a ∈ fp,∀u,H a=some u->H' a=some u)(h:xY K kd F B G H v o fp):xY K kd F B G' H' v o fp:=
 Ro.mono (λst v d r=>Rp.grow g r) (λa vs n e=>⟨λz=>z.elim (λy=>n<|.inl y) λy=>(g.own a y).elim (λw=>n<|.inr w) λw=>(by rw[w]at e;cases e),g.keep a _ e λw=>n<|.inr w⟩) k h
theorem vG.grow(g:Grow G H G' H')(k:∀a ∈ fp,∀u,H a=some u->H' a=some u)(h:vG K kd F B G H vs os fp):vG K kd F B G' H' vs os fp:=
 RoL.mono (λst v d r=>Rp.grow g r) (λa vs n e=>⟨λz=>z.elim (λy=>n<|.inl y) λy=>(g.own a y).elim (λw=>n<|.inr w) λw=>(by rw[w]at e;cases e),g.keep a _ e λw=>n<|.inr w⟩) k h
def xY.lv(g:∀st a,Lv F' B' G' st a->Lv F B G st a)(h:xY K kd F B G H v o fp):xY K kd F' B' G' H v o fp:=
 Ro.mono (λst v d r=>r.less<|g st) (λa vs n e=>⟨λz=>n<|g true a z,e⟩) (λ_ _ _ e=>e) h
def vG.lv(g:∀st a,Lv F' B' G' st a->Lv F B G st a)(h:vG K kd F B G H vs os fp):vG K kd F' B' G' H vs os fp:=
 RoL.mono (λst v d r=>r.less<|g st) (λa vs n e=>⟨λz=>n<|g true a z,e⟩) (λ_ _ _ e=>e) h
def xY.less(g:∀a,G' a->G a)(h:xY K kd F B G H v o fp):xY K kd F B G' H v o fp:=xY.lv (λ_ a z=>z.elim .inl λy=>.inr<|g a y) h
def Gw.drop:∀a,Gw [] ad a->Gw T ad a:=λ_ h=>h.elim (λz=>nomatch z) .inr
def Rel.trk(R:Rel K kd F B T ad as σ H)(st):∀a,Lv F B (Gw T ad) st a->H a≠none:=λa h=>by
 rcases h with(h|h)|h
 . exact R.ftr a h.2
 . exact(R.btr a h).1
 . exact(R.gtr a h).1
def Rel.tr(R:Rel K kd F B T ad as σ H)(lv):∀a,Pu F B (Gw T ad) lv a->H a≠none:=λa h=>by
 cases lv with
 |none=>exact h.elim
 |some st=>exact R.trk st a h
theorem T8.lv(g:∀st a,Lv F' B' G' st a->Lv F B G st a)(h:T8 K kd F B G H s x fp):T8 K kd F' B' G' H s x fp:=by
 cases s with
 |none=>exact h
 |some o=>obtain⟨v,e,r⟩:=h;exact⟨v,e,xY.lv g r⟩
def T8.less(g:∀a,G' a->G a)(h:T8 K kd F B G H s x fp):T8 K kd F B G' H s x fp:=h.lv λ_ a z=>z.elim .inl λy=>.inr<|g a y
theorem T8.grow(g:Grow G H G' H')(k:∀a ∈ fp,∀u,H a=some u->H' a=some u)(h:T8 K kd F B G H s x fp):T8 K kd F B G' H' s x fp:=by
 cases s with
 |none=>exact h
 |some o=>obtain⟨v,e,r⟩:=h;exact⟨v,e,xY.grow g k r⟩
theorem Rel.drop(R:Rel K kd F B T ad as σ H):Rel K kd F B [] ad as σ H where
 len:=R.len
 out:=R.out
 nd:=R.nd
 inj:=R.inj
 tnd:=zyJ
 dis:=λ_ _ _ z=>nomatch z
 ftr:=R.ftr
 btr:=λa h=>let⟨h1,h2,h3⟩:=R.btr a h;⟨h1,h2,λz=>h3<|Gw.drop a z⟩
 gtr:=λa h=>R.gtr a (Gw.drop a h)
 sl:=λi s e=>(R.sl i s e).less Gw.drop
def MA(R:Rel K kd F B T ad as σ H)(h:xY K kd F B (Gw T ad) H v o T):Rp K kd (Lv F B (Gw [] ad) o.str) H v o.toD:=
 Ro.rp o.str (λst v d hs r=>r.less λa z=>z.elim (λy=>.inl<|y.elim (λx=>.inl ⟨hs x.1,x.2⟩) .inr) λy=>.inr<|Gw.drop a y)
  (λa n z=>n<|z.elim (λy=>.inl<|y.elim (λx=>.inl ⟨rfl,x.2⟩) .inr) λy=>.inr<|Gw.drop a y) id
  (λa m z=>by
   rcases z with(z|z)|z|⟨i,z⟩
   . exact(R.gtr a<|.inl m).2 z.2
   . exact(R.btr a z).2.2<|.inl m
   . cases z
   . exact R.dis i a z m) h
def x_.drop(R:Rel K kd F B T ad as σ H)(h:x_ K kd F B T ad σ H v r):x_ K kd F B [] ad σ H v r.frz:=by
 cases r with
 |ow o=>exact .lf (MA R h)
 |bo i=>exact⟨rfl,h.2⟩
theorem x_.grow(g:Grow (Gw [] ad) H (Gw [] ad1) H1)(h:x_ K kd F B [] ad σ H v r):x_ K kd F B [] ad1 σ H1 v r:=by
 cases r with
 |ow o=>exact xY.grow g (λ_ m=>nomatch m) h
 |bo i=>exact h
def OQ(h:vG K kd F B G H vs os fp):os.all O.isLf=true->fp=[]:=
 RoL.ind (P:=λ_ os fp=>os.all O.isLf=true->fp=[]) (λ_=>rfl) (λh _ ih e=>by
  rw[List.all_cons,zyC]at e;rw[ih e.2,zyE];cases h with
  |lf=>rfl
  |ls=>cases e.1
  |dc=>cases e.1
  |ob=>cases e.1
  |dt=>cases e.1
  |tp=>cases e.1) h
def P9{st}{b}(hs:b=true->st=true):∀a,Lv F B G b a->Lv F B G st a:=λa z=>z.elim (λy=>.inl<|y.elim (λx=>.inl ⟨hs x.1,x.2⟩) .inr) .inr
def Q5(h:vG K kd F B G H vs os fp)(e:os.all O.isLf=true):RpL K kd (Lv F B G<|O.strs os) H vs (O.toDs os):=by
 have:=OQ h e;subst this;exact RoL.rp (O.strs os) (λst v d hs r=>r.less<|P9 hs) (λa n z=>n<|P9 (λ_=>rfl) a z) id (by intro a m;cases m) h
def Wq(h:vG K kd F B G H vs os fp):RpL K kd (λ_=>False) H vs (O.toDs os):=RoL.rp false (λst v d _ r=>r.less λ_ z=>z.elim) (λ_ _ z=>z) (λz=>Bool.noConfusion z) (λ_ _ z=>z) h
def LR(h:xY K kd F B G H v o fp):Rp K kd (λ_=>False) H v o.toD:=Ro.rp false (λst v d _ r=>r.less λ_ z=>z.elim) (λ_ _ z=>z) (λz=>Bool.noConfusion z) (λ_ _ z=>z) h
def Lm(h:xY K kd F B G H v o []):Rp K kd (Lv F B G o.str) H v o.toD:=
 Ro.rp o.str (λst v d hs r=>r.less<|P9 hs) (λa n z=>n<|P9 (λ_=>rfl) a z) id (by intro a m;cases m) h
theorem xY.vw(h:xY K kd F B G H v o fp):Vw K kd (Pu F B G o.kl) H v o.toD:=by
 cases h with
 |lf h=>exact h.vw
 |ls hH r=>
  rename_i a vs' os' fp';show Vw K kd (Pu F B G (if os'.all O.isLf=true then some _ else none)) H _ _
  by_cases e:os'.all O.isLf=true
  . rw[if_pos e];exact .lst (.inl<|.inl hH)<|Q5 r e
  . rw[if_neg e];exact .lst (.inl<|.inl hH) (Wq r)
 |dc hH l r=>
  rename_i a ks vs' os' fp';show Vw K kd (Pu F B G (if os'.all O.isLf=true then some _ else none)) H _ _
  by_cases e:os'.all O.isLf=true
  . rw[if_pos e];exact .dct (.inl<|.inl hH)<|RN (Q5 r e) l
  . rw[if_neg e];exact .dct (.inl<|.inl hH) (RN (Wq r) l)
 |ob hc hH l r=>
  rename_i a dx C c ns vs' os' fp';have ec:=hc.cl_eq;subst ec;show Vw K kd (Pu F B G (if os'.all O.isLf=true then some _ else none)) H _ _
  by_cases e:os'.all O.isLf=true
  . rw[if_pos e];exact .ob hH l<|Q5 r e
  . rw[if_neg e];exact .ob hH l (Wq r)
 |dt hH l r=>
  rename_i a ks vs' os' fp';show Vw K kd (Pu F B G (if os'.all O.isLf=true then some _ else none)) H _ _
  by_cases e:os'.all O.isLf=true
  . rw[if_pos e];exact .dt hH l<|Q5 r e
  . rw[if_neg e];exact .dt hH l (Wq r)
 |tp n hH r=>
  rename_i a vs' os';show Vw K kd (Pu F B G (if os'.all O.isLf=true then some _ else none)) H _ _
  by_cases e:os'.all O.isLf=true
  . rw[if_pos e];have rl:=Q5 r e;exact .tup (.tup (λz=>n<|P9 (λ_=>rfl) _ z) hH rl) (.inl<|.inl hH) rl
  . rw[if_neg e];exact .tup (.tup (λz=>z) hH<|Wq r) (.inl<|.inl hH)<|Wq r
theorem x_.vw(R:Rel K kd F B [] ad as σ H)(h:x_ K kd F B [] ad σ H v r)(e:r.view as=some (d,lv)):Vw K kd (Pu F B (Gw [] ad) lv) H v d:=by
 cases r with
 |ow o=>
  cases e;exact(Lm h).vw
 |bo i=>
  have e:(match as[i]? with|some (some o)=>some (o.toD,o.kl)|_=>none)=some (d,lv):=e;cases k:as[i]? with
  |none=>rw[k]at e;cases e
  |some s=>
   cases s with
   |none=>rw[k]at e;cases e
   |some o=>
    rw[k]at e;cases e;obtain⟨w,hw,ro⟩:=R.sl i _ k;rw[h.2]at hw;cases hw;exact ro.vw
def Rel.add(R:Rel K kd F B T ad as σ H)(hn:N.Nodup)(hl:∀a ∈ N,H a=none)(k:∀b u,H b=some u->H' b=some u)(h1:∀a ∈ N,H' a≠none):Rel K kd F B (N++T) ad as σ H'/\Grow (Gw T ad) H (Gw (N++T) ad) H':=by
 have g:Grow (Gw T ad) H (Gw (N++T) ad) H':=⟨λb u h _=>k b u h,λb h=>by
  rcases h with h|h
  . rcases zzM.mp h with h|h
    . exact .inr<|hl b h
    . exact .inl<|.inl h
  . exact .inl<|.inr h⟩
 have kn:∀a,H a≠none->H' a≠none:=λa z=>by
  cases e:H a with
  |none=>exact absurd e z
  |some u=>rw[k a u e];simp
 refine⟨⟨R.len,R.out,R.nd,R.inj, ?_,λi a m z=>?_,λa z=>kn a<|R.ftr a z,λa z=>?_,λa z=>?_,λi s e=>(R.sl i s e).grow g λa _ u h=>k a u h⟩,g⟩
 . refine zxF.mpr ⟨hn,R.tnd,λa m b m' e=>?_⟩;subst e;exact(R.gtr a<|.inl m').1<|hl a m
 . rcases zzM.mp z with z|z
   . exact(R.gtr a<|.inr ⟨i,m⟩).1<|hl a z
   . exact R.dis i a m z
 . obtain⟨b1,b2,b3⟩:=R.btr a z;refine⟨kn a b1,b2,λy=>?_⟩
   rcases y with y|y
   . rcases zzM.mp y with y|y
     . exact b1<|hl a y
     . exact b3<|.inl y
   . exact b3<|.inr y
 . rcases z with z|z
   . rcases zzM.mp z with z|z
     . exact⟨h1 a z,λf=>R.ftr a f<|hl a z⟩
     . exact⟨kn a (R.gtr a<|.inl z).1,(R.gtr a<|.inl z).2⟩
   . exact⟨kn a (R.gtr a<|.inr z).1,(R.gtr a<|.inr z).2⟩
def Rel.more(R:Rel K kd F B T ad as σ H)(k:∀b u,H b=some u->H' b=some u):Rel K kd F B T ad as σ H'/\Grow (Gw T ad) H (Gw T ad) H':=
 R.add zyJ (λ_ m=>nomatch m) k (λ_ m=>nomatch m)
def Rel.news(R:Rel K kd F B [] ad as σ H)(hn:T'.Nodup)(hl:∀a ∈ T',H a=none)(k:∀b u,H b=some u->H' b=some u)(h1:∀a ∈ T',H' a≠none):Rel K kd F B T' ad as σ H'/\Grow (Gw [] ad) H (Gw T' ad) H':=by
 have:=R.add hn hl k h1;rw[zyE]at this;exact this
end
inductive R0 where
 |im (d:D)|fl (ds:List D)|fd (kvs:List (Key×D))
def RQ(K:zzA)(kd:KD)(O:Addr->Prop)(H:Hp)(Q:VK):R0->Prop
 | .im d=>∀v H',(∀b o,H b=some o->H' b=some o)->Rp K kd O H' v d->Q v H'
 | .fl ds=>∀l vs H',H l=none->(∀b o,H b=some o->H' b=some o)->H' l=some (.lst vs)->RpL K kd (QK O (· = l)) H' vs ds->Q (.ref l) H'
 | .fd ds=>∀l vs H',H l=none->(∀b o,H b=some o->H' b=some o)->H' l=some (.dK vs)->RpM K kd (QK O (· = l)) H' vs ds->Q (.ref l) H'
def wrap(lv:Option Bool):R0->Option RV
 | .im d=>if(zR d||lv.isSome)=true then some (.ow<|Nc (lv.getD false) d)else none
 | .fl ds=>if(ds.all zR||lv.isSome)=true then some (.ow<|.nd .ls<|ds.map<|Nc<|lv.getD false)else none
 | .fd kvs=>if((kvs.map (·.2)).all zR||lv.isSome)=true then some (.ow (.nd (.dc (kvs.map (·.1))) ((kvs.map (·.2)).map<|Nc<|lv.getD false)))else none
def bS_(h:o.bind f=some b):∃a,o=some a/\f a=some b:=by
 cases o with
 |none=>cases h
 |some a=>exact⟨a,rfl,h⟩
def ite_some'[Decidable c](h:(if c then a else none)=some b):c/\a=some b:=by
 by_cases hc:c
 . rw[if_pos hc]at h;exact⟨hc,h⟩
 . rw[if_neg hc]at h;cases h
def zM[Decidable c](h:(if c then some a else none)=some b):c/\a=b:=by
 by_cases hc:c
 . rw[if_pos hc]at h;cases h;exact⟨hc,rfl⟩
 . rw[if_neg hc]at h;cases h
section
variable{K:zzA}{kd:KD}{F B:Addr->Prop}{G:Addr->Prop}{ad:Ad}{as:AS}{σ:St}{H H':Hp}{v:V}{r:R0}{rv:RV}{Q:VK}{lv:Option Bool}
def IJ(h:zR d=true\/lv.isSome=true)(hO:∀st,lv=some st->∀a,Lv F B G st a->Ob a)(rp:Rp K kd Ob H v d):Lf K kd F B G H (zR d||lv.getD false) v d:=by
 cases e:zR d with
 |true=>exact rp.flat e
 |false=>
  rw[e]at h;cases lv with
  |none=>rcases h with h|h<;>cases h
  |some st=>exact rp.less (hO st rfl)
def HA(hO:∀st,lv=some st->∀a,Lv F B G st a->Ob a)(e:(ds.all zR||lv.isSome)=true)(h:RpL K kd Ob H vs ds):RoL (Lf K kd F B G H) N H vs (ds.map<|Nc<|lv.getD false) []:=
 RpL.ind (P:=λvs ds=>(ds.all zR||lv.isSome)=true->RoL (Lf K kd F B G H) N H vs (ds.map<|Nc<|lv.getD false) []) (λ_=>.nil) (λ{v d vs ds} h _ ih e=>by
  rw[List.all_cons]at e;have e1:zR d=true\/lv.isSome=true:=by
   cases h1:lv.isSome<;>cases h2:zR d<;>simp[h1,h2]at e ⊢
  have e2:(ds.all zR||lv.isSome)=true:=by
   cases h1:lv.isSome with
   |true=>simp
   |false=>
    rw[h1,Bool.or_false,zyC]at e;rw[Bool.or_false];exact e.2
  exact RoL.cons (.lf<|IJ e1 hO h)<|ih e2) h e
def BN{O}{vs}{ds}(h:RpM K kd O H vs ds):vs=(ds.map (·.1)).zip (vs.map (·.2))/\RpL K kd O H (vs.map (·.2)) (ds.map (·.2)):=
 RpM.ind (P:=λvs ds=>vs=(ds.map (·.1)).zip (vs.map (·.2))/\RpL K kd O H (vs.map (·.2)) (ds.map (·.2))) ⟨rfl,.nil⟩ (λh _ ih=>by
  obtain⟨h1,h2⟩:=ih;refine⟨?_,.cons h h2⟩
  conv=>lhs;rw[h1]
  rfl) h
def ZF(R:Rel K kd F B [] ad as σ H)(e:wrap lv r=some rv)(q:∀v T' H',Rel K kd F B T' ad as σ H'->x_ K kd F B T' ad σ H' v rv->Grow (Gw [] ad) H (Gw T' ad) H'->Q v H'):RQ K kd (Pu F B (Gw [] ad) lv) H Q r:=by
 have hO:∀(l:List Addr) st,lv=some st->∀a,Lv F B (Gw l ad) st a->QK (Pu F B (Gw [] ad) lv) (· ∈ l) a:=by
  intro l st e a z;subst e
  rcases z with z|z|z
  . exact .inl<|.inl z
  . exact .inr z
  . exact .inl<|.inr<|.inr z
 cases r with
 |im d=>
  obtain⟨c,rfl⟩:=zM e;intro v H' k rp;obtain⟨R',g⟩:=R.more k;refine q v [] H' R' (.lf<|IJ ((Bool.or_eq_true _ _).mp c) (λst e a z=>?_) rp) g;exact(hO [] st e a z).elim id λm=>nomatch m
 |fl ds=>
  obtain⟨c,rfl⟩:=zM e;intro l vs H' hl k hl' rp;obtain⟨R',g⟩:=R.news (T':=[l]) (by simp) (λa m=>by rw[zzR.mp m];exact hl) k (λa m=>by rw[zzR.mp m,hl'];simp);exact q _ [l] H' R' (.ls hl'<|HA (λst e a z=>(hO [l] st e a z).elim .inl λm=>.inr<|zzR.mp m) c rp) g
 |fd ds=>
  obtain⟨c,rfl⟩:=zM e;intro l vs H' hl k hl' rp;obtain⟨R',g⟩:=R.news (T':=[l]) (by simp) (λa m=>by rw[zzR.mp m];exact hl) k (λa m=>by rw[zzR.mp m,hl'];simp);obtain⟨e1,r1⟩:=BN rp;refine q _ [l] H' R' (.dc (by rw[hl',<-e1]) (by rw[zzB,zzB,rp.length])<|HA (λst e a z=>(hO [l] st e a z).elim .inl λm=>.inr<|zzR.mp m) c r1) g
end
abbrev EF:=AS->Option (RV×AS)
def al(K:zzA)(kd:KD)(f:EF):TE:=λσ H Q=>∃F B ad as r as',Rel K kd F B [] ad as σ H/\f as=some (r,as')/\
 ∀v T' ad' H',Rel K kd F B T' ad' as' σ H'->x_ K kd F B T' ad' σ H' v r->Grow (Gw [] ad) H (Gw T' ad') H'->Q v H'
@[irreducible] def AE(X:Cx)(kd:KD)(e:Expr)(f:EF):Prop:=PE X e<|al X.K kd f
def yM(h:PE X e t)(k:∀σ H Q,t' σ H Q->t σ H Q):PE X e t':=λpins s σ H Q I q=>h pins s σ H Q I<|k σ H Q q
section
variable{K:zzA}{kd:KD}{F B:Addr->Prop}{ad:Ad}{as as1:AS}{σ:St}{H:Hp}{r:RV}{f:EF}{P:VK}
def YO(R:Rel K kd F B [] ad as σ H)(e:f as=some (r,as1))(k:∀v ad1 H1,Rel K kd F B [] ad1 as1 σ H1->x_ K kd F B [] ad1 σ H1 v r.frz->Grow (Gw [] ad) H (Gw [] ad1) H1->P v H1):al K kd f σ H P:=
 ⟨F,B,ad,as,r,as1,R,e,λv T' ad' H' R' rv g=>k v ad' H' R'.drop (x_.drop R' rv)<|g.trans<|Grow.less Gw.drop⟩
end
def uB(X:Cx)(kd:KD)(f:Value->Value->Sem Value)(g:D->D->Option R0):Prop:=
 Rr X f (λx y H Q=>∃O d e r,(∀a,O a->H a≠none)/\Vw X.K kd O H x d/\Vw X.K kd O H y e/\g d e=some r/\RQ X.K kd O H Q r)
def pV(X:Cx)(kd:KD)(f:Value->Sem Value)(g:D->Option R0):Prop:=
 sF X f (λx H Q=>∃O d r,(∀a,O a->H a≠none)/\Vw X.K kd O H x d/\g d=some r/\RQ X.K kd O H Q r)
inductive VwL(K:zzA)(kd:KD)(O:Addr->Prop)(H:Hp):List V->List D->Prop
 |nil:VwL K kd O H [] []
 |cons {v:V}{d:D}{vs:List V}{ds:List D}:Vw K kd O H v d->VwL K kd O H vs ds->VwL K kd O H (v::vs) (d::ds)
def Xe(X:Cx)(kd:KD)(f:Value)(g:List D->Option R0):Prop:=
 X5 X f (λxs H Q=>∃O ds r,(∀a,O a->H a≠none)/\VwL X.K kd O H xs ds/\g ds=some r/\RQ X.K kd O H Q r)
def qj(X:Cx)(kd:KD)(g:D->D->Option R0):Prop:=
 um X (λx y H Q=>∃O d e r,(∀a,O a->H a≠none)/\Vw X.K kd O H x d/\Vw X.K kd O H y e/\g d e=some r/\RQ X.K kd O H Q r)
def meet:Option Bool->Option Bool->Option Bool
 |some a,some b=>some (a&&b)
 |_,_=>none
def Pu.meet1:∀x,Pu F B G (meet a b) x->Pu F B G a x:=λx h=>by
 cases a with
 |none=>cases b<;>exact h.elim
 |some p=>
  cases b with
  |none=>exact h.elim
  |some q=>exact P9 (λz=>((zyC _ _).mp z).1) x h
def Pu.meet2:∀x,Pu F B G (meet a b) x->Pu F B G b x:=λx h=>by
 cases a with
 |none=>cases b<;>exact h.elim
 |some p=>
  cases b with
  |none=>exact h.elim
  |some q=>exact P9 (λz=>((zyC _ _).mp z).2) x h
theorem Vw.less{K}{kd}{O O'}{H}{v}{d}(g:∀a,O' a->O a)(h:Vw K kd O H v d):Vw K kd O' H v d:=by
 cases h with
 |non=>exact .non
 |bl b=>exact .bl b
 |int i=>exact .int i
 |str x=>exact .str x
 |tup r s l=>exact .tup (r.less g) s (l.less g)
 |lst h l=>exact .lst h (l.less g)
 |dct h l=>exact .dct h (l.less g)
 |cl c=>exact .cl c
 |ob h k l=>exact .ob h k (l.less g)
 |dt h k l=>exact .dt h k (l.less g)
 |er h k l=>exact .er h k (l.less g)
def f2(fa fb:EF)(g:D->D->Option R0):EF:=λas=>(fa as).bind λp=>(fb p.2).bind λq=>(p.1.frz.view q.2).bind λx=>(q.1.frz.view q.2).bind λy=>(g x.1 y.1).bind λr=>(wrap (meet x.2 y.2) r).bind λz=>some (z,q.2)
def FA(h:f2 fa fb g as=some (rv,as')):
 ∃p as1 q x y lx ly r,fa as=some (p,as1)/\fb as1=some (q,as')/\p.frz.view as'=some (x,lx)/\q.frz.view as'=some (y,ly)/\g x y=some r/\wrap (meet lx ly) r=some rv:=by
 unfold f2 at h;obtain⟨⟨p,as1⟩,h1,h⟩:=bS_ h;obtain⟨⟨q,as2⟩,h2,h⟩:=bS_ h;obtain⟨⟨x,lx⟩,h3,h⟩:=bS_ h;obtain⟨⟨y,ly⟩,h4,h⟩:=bS_ h;obtain⟨r,h5,h⟩:=bS_ h;obtain⟨z,h6,h⟩:=bS_ h;cases h;exact⟨p,as1,q,x,y,lx,ly,r,h1,h2,h3,h4,h5,h6⟩
section
variable{X:Cx}{kd:KD}{a b c:Expr}{fa fb fc:EF}{pos:Pos}
def sQ(hr:∀x y H Q,(∃O d e r,(∀a,O a->H a≠none)/\Vw X.K kd O H x d/\Vw X.K kd O H y e/\g d e=some r/\RQ X.K kd O H Q r)->R2' x y H Q)
 (h:al X.K kd (f2 fa fb g) σ H Q):t6 R2' (al X.K kd fa) (al X.K kd fb) σ H Q:=by
 obtain⟨F,B,ad,as,r,as',R,e,q⟩:=h;obtain⟨p,as1,z,x,y,lx,ly,r0,h1,h2,h3,h4,h5,h6⟩:=FA e;refine YO R h1 λv ad1 H1 R1 rv1 g1=>YO R1 h2 λu ad2 H2 R2 rv2 g2=>hr _ _ _ _ ?_;exact⟨_,x,y,r0,R2.tr _,(x_.vw R2 (rv1.grow g2) h3).less Pu.meet1,(x_.vw R2 rv2 h4).less Pu.meet2,h5,ZF R2 h6 λw T' H' R' rv' g'=>q w T' ad2 H' R' rv'<|(g1.trans g2).trans g'⟩
def Dy(ho:uB X kd (binaryOp op) g)(ha:AE X kd a fa)(hb':AE X kd b fb):AE X kd (.BinOp a op b pos) (f2 fa fb g):=by with_unfolding_all exact(yM (ID ho ha hb') λσ H Q h=>sQ (λ_ _ _ _ z=>z) h)
def DI(ho:uB X kd (compareOp op) g)(ha:AE X kd a fa)(hb':AE X kd b fb)(hm:behindInMarks op b=false):AE X kd (.Compare a [op] [b] pos) (f2 fa fb g):=by with_unfolding_all exact(yM (O1 ho ha hb' hm) λσ H Q h=>sQ (λ_ _ _ _ z=>z) h)
def IC(ho:qj X kd g)(ha:AE X kd a fa)(hb':AE X kd b fb)(hm:yZ b):AE X kd (.Subscript a b pos) (f2 fa fb g):=by with_unfolding_all exact(yM (vW ho ha hb' hm) λσ H Q h=>sQ (λ_ _ _ _ z=>z) h)
def fC(d:D):EF:=λas=>some (.ow<|.lf true d,as)
noncomputable def fV(i:Nat):EF:=λas=>match as[i]? with
 |some (some (.lf st d))=>some (.ow<|.lf st d,as)
 |some (some (.nd _ _))=>some (.bo i,as)
 |_=>none
def LH(h:PE X a (tC v))(hr:∀O H,Rp X.K kd O H v d):AE X kd a (fC d):=by with_unfolding_all exact(yM h λσ H Q h=>by
 obtain⟨F,B,ad,as,r,as',R,e,q⟩:=h;cases e;exact q v [] ad H R (.lf<|hr _ _) Grow.refl)
def Df(h:PE X a (Yi i)):AE X kd a (fV i):=by with_unfolding_all exact(yM h λσ H Q h=>by
 obtain⟨F,B,ad,as,r,as',R,e,q⟩:=h;unfold fV at e;cases k:as[i]? with
 |none=>rw[k]at e;cases e
 |some s=>
  rw[k]at e;cases s with
  |none=>cases e
  |some o=>
   obtain⟨v,h1,h2⟩:=R.sl i _ k;cases o with
   |lf st d=>
    cases e;have e0 : ad i=[]:=by
            generalize hfp:ad i=fp at h2;cases h2;rfl
    rw[e0]at h2;exact⟨v,h1,q v [] ad H R h2 Grow.refl⟩
   |nd kk os=>
    cases e;exact⟨_,h1,q _ [] ad H R ⟨rfl,h1⟩ Grow.refl⟩)
end
def xO(ad:Ad)(i:Nat)(x:List Addr):Ad:=λj=>if j=i then x else ad j
section
variable{K:zzA}{kd:KD}{F B:Addr->Prop}{T T1 T2:List Addr}{ad ad1:Ad}{as as1:AS}{σ:St}{H H1:Hp}{v:V}{r:RV}{o:O}{i:Nat}
def zY:xO ad i x i=x:=if_pos rfl
def yb(h:j≠i):xO ad i x j=ad j:=if_neg h
def xZ:∀a,Gw T (xO ad i []) a->Gw T ad a:=λa h=>by
 rcases h with h|⟨j,h⟩
 . exact .inl h
 . by_cases e:j=i
   . subst e;rw[zY]at h;cases h
   . rw[yb e]at h;exact .inr ⟨j,h⟩
def Yo:∀a,Gw [] (xO ad i T) a->Gw T ad a:=λa h=>by
 rcases h with h|⟨j,h⟩
 . cases h
 . by_cases e:j=i
   . subst e;rw[zY]at h;exact .inl h
   . rw[yb e]at h;exact .inr ⟨j,h⟩
def FE:∀st a,Lv F (λa=>B a\/a ∈ T) (Gw [] ad) st a->Lv F B (Gw T ad) st a:=λst a z=>by
 rcases z with(z|z|z)|z
 . exact .inl<|.inl z
 . exact .inl<|.inr z
 . exact .inr<|.inl z
 . exact .inr<|Gw.drop a z
def Uh:∀st a,Lv F B (Gw (T1++T2) ad) st a->Lv F (λa=>B a\/a ∈ T1) (Gw T2 ad) st a:=λst a z=>by
 rcases z with(z|z)|z|z
 . exact .inl<|.inl z
 . exact .inl<|.inr<|.inl z
 . rcases zzM.mp z with z|z
   . exact .inl<|.inr<|.inr z
   . exact .inr<|.inl z
 . exact .inr<|.inr z
def Rel.hide(R:Rel K kd F B T ad as σ H):Rel K kd F (λa=>B a\/a ∈ T) [] ad as σ H where
 len:=R.len
 out:=R.out
 nd:=R.nd
 inj:=R.inj
 tnd:=zyJ
 dis:=λ_ _ _ z=>nomatch z
 ftr:=R.ftr
 btr:=λa h=>by
  rcases h with h|h
  . obtain⟨h1,h2,h3⟩:=R.btr a h;exact⟨h1,h2,λz=>h3<|Gw.drop a z⟩
  . exact⟨(R.gtr a<|.inl h).1,(R.gtr a<|.inl h).2,λz=>z.elim (λm=>nomatch m) λ⟨j,y⟩=>R.dis j a y h⟩
 gtr:=λa h=>R.gtr a (Gw.drop a h)
 sl:=λi s e=>(R.sl i s e).lv FE
def Rel.unhide(hn:T1.Nodup)(hb:∀a ∈ T1,¬B a)(R:Rel K kd F (λa=>B a\/a ∈ T1) T2 ad as σ H):Rel K kd F B (T1++T2) ad as σ H where
 len:=R.len
 out:=R.out
 nd:=R.nd
 inj:=R.inj
 tnd:=zxF.mpr ⟨hn,R.tnd,λa m b m' e=>by subst e;exact(R.btr a<|.inr m).2.2<|.inl m'⟩
 dis:=λi a m z=>by
  rcases zzM.mp z with z|z
  . exact(R.btr a<|.inr z).2.2<|.inr ⟨i,m⟩
  . exact R.dis i a m z
 ftr:=R.ftr
 btr:=λa h=>by
  obtain⟨h1,h2,h3⟩:=R.btr a<|.inl h;refine⟨h1,h2,λz=>?_⟩
  rcases z with z|z
  . rcases zzM.mp z with z|z
    . exact hb a z h
    . exact h3<|.inl z
  . exact h3 (.inr z)
 gtr:=λa h=>by
  rcases h with h|h
  . rcases zzM.mp h with h|h
    . exact⟨(R.btr a<|.inr h).1,(R.btr a<|.inr h).2.1⟩
    . exact R.gtr a<|.inl h
  . exact R.gtr a (.inr h)
 sl:=λi s e=>(R.sl i s e).lv Uh
theorem Rel.frz(R:Rel K kd F B T ad as σ H)(h:as[i]? = some (some o)):
 Rel K kd F B T (xO ad i []) (as.set i<|some o.frz) σ H/\∃v,σ[i]? = some (some v)/\Rp K kd (Lv F B (Gw T<|xO ad i []) o.str) H v o.toD:=by
 obtain⟨v,hv,ro⟩:=R.sl i _ h;have rp:Rp K kd (Lv F B (Gw T<|xO ad i []) o.str) H v o.toD:=
  Ro.rp o.str (λst v d hs r=>r.less λa z=>z.elim (λy=>.inl<|y.elim (λx=>.inl ⟨hs x.1,x.2⟩) .inr) λy=>.inr<|xZ a y)
   (λa n z=>n<|z.elim (λy=>.inl<|y.elim (λx=>.inl ⟨rfl,x.2⟩) .inr) λy=>.inr<|xZ a y) id
   (λa m z=>by
    rcases z with(z|z)|z|⟨j,z⟩
    . exact(R.gtr a<|.inr ⟨i,m⟩).2 z.2
    . exact(R.btr a z).2.2<|.inr ⟨i,m⟩
    . exact R.dis i a m z
    . by_cases e:j=i
      . subst e;rw[zY]at z;cases z
      . rw[yb e]at z;exact e<|R.inj j i a z m) ro
 have hi:=(zzG.mp h).1;refine⟨⟨by rw[zzU];exact R.len,λj hj=>?_,λj=>?_,λj k a h1 h2=>?_,R.tnd,λj a h1=>?_,R.ftr,λa h1=>?_,λa h1=>R.gtr a<|xZ a h1,λj s e=>?_⟩,v,hv,rp⟩
 . rw[zzU]at hj;rw[yb<|by omega];exact R.out j hj
 . by_cases e:j=i
   . subst e;rw[zY];exact zyJ
   . rw[yb e];exact R.nd j
 . by_cases e:j=i
   . subst e;rw[zY]at h1;cases h1
   . by_cases e':k=i
     . subst e';rw[zY]at h2;cases h2
     . rw[yb e]at h1;rw[yb e']at h2;exact R.inj j k a h1 h2
 . by_cases e:j=i
   . subst e;rw[zY]at h1;cases h1
   . rw[yb e]at h1;exact R.dis j a h1
 . obtain⟨b1,b2,b3⟩:=R.btr a h1;exact⟨b1,b2,λz=>b3<|xZ a z⟩
 . by_cases q:j=i
   . subst q;rw[zyK hi]at e;cases e;rw[zY];exact⟨v,hv,.lf rp⟩
   . rw[zzY<|Ne.symm q]at e;rw[yb q];exact(R.sl j s e).less xZ
def Rel.put(R:Rel K kd F B T ad as σ H)(hi:i<as.length)(h:xY K kd F B (Gw T ad) H v o T):Rel K kd F B [] (xO ad i T) (as.set i<|some o) (σ.set i<|some v) H:=by
 have hi':i<σ.length:=by rw[<-R.len];exact hi
 refine⟨by rw[zzU,zzU];exact R.len,λj hj=>?_,λj=>?_,λj k a h1 h2=>?_,zyJ,(λ_ _ _ z=>nomatch z),R.ftr,λa h1=>?_,λa h1=>R.gtr a<|Yo a h1,λj s e=>?_⟩
 . rw[zzU]at hj;rw[yb<|by omega];exact R.out j hj
 . by_cases e:j=i
   . subst e;rw[zY];exact R.tnd
   . rw[yb e];exact R.nd j
 . by_cases e:j=i
   . subst e;rw[zY]at h1
     by_cases e':k=j
     . exact e'.symm
     . rw[yb e']at h2;exact(R.dis k a h2 h1).elim
   . rw[yb e]at h1
     by_cases e':k=i
     . subst e';rw[zY]at h2;exact(R.dis j a h1 h2).elim
     . rw[yb e']at h2;exact R.inj j k a h1 h2
 . obtain⟨b1,b2,b3⟩:=R.btr a h1;exact⟨b1,b2,λz=>b3<|Yo a z⟩
 . by_cases q:j=i
   . subst q;rw[zyK hi]at e;cases e;rw[zY,zyK hi'];exact⟨v,rfl,h.less Yo⟩
   . rw[zzY<|Ne.symm q]at e;rw[yb q,zzY<|Ne.symm q];exact(R.sl j s e).less Yo
def OU(as:AS):RV->Option (O×AS)
 | .ow o=>some (o,as)
 | .bo i=>match as[i]? with
  |some (some o)=>some (o.frz,as.set i<|some o.frz)
  |_=>none
def TV(R:Rel K kd F B T ad as σ H)(h:x_ K kd F B T ad σ H v r)(e:OU as r=some (o,as')):∃ad',Rel K kd F B T ad' as' σ H/\xY K kd F B (Gw T ad') H v o T/\∀a,Gw T ad' a->Gw T ad a:=by
 cases r with
 |ow o'=>cases e;exact⟨ad,R,h,λ_ z=>z⟩
 |bo i=>
  have e:(match as[i]? with|some (some o)=>some (o.frz,as.set i<|some o.frz)|_=>none)=some (o,as'):=e;cases k:as[i]? with
  |none=>rw[k]at e;cases e
  |some s=>
   cases s with
   |none=>rw[k]at e;cases e
   |some o1=>
    rw[k]at e;cases e;obtain⟨hT,hs⟩:=h;subst hT;obtain⟨R',w,hw,rp⟩:=R.frz k;rw[hs]at hw;cases hw;exact⟨_,R',.lf rp,xZ⟩
end
abbrev TF:=AS->Option (Bool×AS)
def C8(K:zzA)(kd:KD)(f:TF):TT:=λσ H Q=>∃F B ad as b as',Rel K kd F B [] ad as σ H/\f as=some (b,as')/\
 ∀ad' H',Rel K kd F B [] ad' as' σ H'->Grow (Gw [] ad) H (Gw [] ad') H'->Q b H'
@[irreducible] def AT(X:Cx)(kd:KD)(e:Expr)(f:TF):Prop:=PT X e<|C8 X.K kd f
@[irreducible] def AW(X:Cx)(kd:KD)(e:Expr)(f:TF):Prop:=PW X e<|C8 X.K kd f
def truth:D->Option Bool
 | .non=>some false
 | .bl b=>some b
 | .int i=>some<|i != 0
 | .str x=>if x.length<=sizeLine then some ((x.length:Int) != 0)else none
 | .tup ds=>some<|!ds.isEmpty
 | .lst ds=>some (!ds.isEmpty)
 |_=>none
def fT(f:EF):TF:=λas=>(f as).bind λp=>(p.1.frz.view p.2).bind λx=>(truth x.1).bind λb=>some (b,p.2)
def WI(f g:TF):TF:=λas=>(f as).bind λp=>if p.1=true then g p.2 else some (false,p.2)
def YZ(f g:TF):TF:=λas=>(f as).bind λp=>if p.1=true then some (true,p.2)else g p.2
def Mf(f:TF):TF:=λas=>(f as).bind λp=>some (!p.1,p.2)
def Nh:D->Option Int
 | .int i=>some i
 |_=>none
def pS:D->Option Str
 | .str i=>some i
 |_=>none
def IH:D->Option (List D)
 | .lst i=>some i
 |_=>none
def pQ:D->Option (List D)
 | .tup i=>some i
 |_=>none
def VF(e:IH d=some i):d = .lst i:=by
 cases d with
 |lst j=>cases e;rfl
 |_=>cases e
def Jt(e:pQ d=some i):d = .tup i:=by
 cases d with
 |tup j=>cases e;rfl
 |_=>cases e
def Lu(h:Nh d=some c):d = .int c:=by
 cases d with
 |int i=>cases h;rfl
 |_=>cases h
def AU:D->Option Bool
 | .bl i=>some i
 |_=>none
def Ai(h:AU d=some c):d = .bl c:=by
 cases d with
 |bl i=>cases h;rfl
 |_=>cases h
def qA:RV->Option D
 | .ow (.lf _ d)=>some d
 |_=>none
def Od(h:qA r=some d):∃st,r = .ow (.lf st d):=by
 cases r with
 |bo i=>cases h
 |ow o=>
  cases o with
  |nd k os=>cases h
  |lf st d=>cases h;exact⟨st,rfl⟩
def pF(r:RV):Option Bool:=(qA r).bind AU
def Da(h:pF r=some c):∃st,r = .ow (.lf st<|.bl c):=by
 obtain⟨d,h1,h⟩:=bS_ h;cases Ai h;exact Od h1
def pB(r:RV):Option Int:=(qA r).bind Nh
def DV(h:pB r=some c):∃st,r = .ow (.lf st<|.int c):=by
 obtain⟨d,h1,h⟩:=bS_ h;cases Lu h;exact Od h1
def JI{α:Type}:List α->Option (α×α)
 | [a,b]=>some (a,b)
 |_=>none
def E_{α:Type}{os}{p:α×α}(h:JI os=some p):os=[p.1,p.2]:=by
 cases os with
 |nil=>cases h
 |cons x r=>
  cases r with
  |nil=>cases h
  |cons y r=>
   cases r with
   |nil=>cases h;rfl
   |cons _ _=>cases h
def rz(r:RV):Option (Bool×List D):=match r with
 | .ow (.lf s d)=>(IH d).bind λl=>some (s,l)
 |_=>none
def HS(h:rz r=some p):r = .ow (.lf p.1<|.lst p.2):=by
 cases r with
 |bo i=>cases h
 |ow o=>
  cases o with
  |nd k os=>cases h
  |lf st d=>
   obtain⟨l,h1,h⟩:=bS_<|h;cases h;cases VF h1;rfl
def BU(f g:EF):EF:=λas=>(f as).bind λp=>(pF p.1).bind λc=>if c=true then g p.2 else some (.ow<|.lf true<|.bl false,p.2)
def f1(fa:EF)(g:D->Option R0):EF:=λas=>(fa as).bind λp=>(p.1.frz.view p.2).bind λx=>(g x.1).bind λr=>(wrap x.2 r).bind λz=>some (z,p.2)
section
variable{X:Cx}{kd:KD}{a b c:Expr}{fa fb:EF}{ta tb:TF}{pos:Pos}{es rest:List Expr}
def Lo(h:PT X e t)(k:∀σ H Q,t' σ H Q->t σ H Q):PT X e t':=λpins s σ H Q I q=>h pins s σ H Q I<|k σ H Q q
def OE(h:PW X e t)(k:∀σ H Q,t' σ H Q->t σ H Q):PW X e t':=λw pins s σ H Q I q=>h w pins s σ H Q I<|k σ H Q q
def JN{O}{H}{v}{d}{k}(h:Vw X.K kd O H v d)(e:truth d=some k):D3 X.K v H k:=by
 cases h with
 |non=>cases e;rfl
 |bl b=>cases e;rfl
 |int i=>cases e;rfl
 |str x=>
  have e:(if x.length<=sizeLine then some ((x.length:Int) != 0)else none)=some k:=e
  by_cases hl:x.length<=sizeLine
  . rw[if_pos hl]at e;cases e;exact⟨hl,rfl⟩
  . rw[if_neg hl]at e;cases e
 |tup r hs hr=>
  cases e;refine .inr<|.inl ⟨_,hs, ?_⟩;cases hr<;>rfl
 |lst hs hr=>
  cases e;refine .inl ⟨_,hs.sq, ?_⟩;cases hr<;>rfl
 |dct=>cases e
 |cl=>cases e
 |ob=>cases e
 |dt=>cases e
 |er=>cases e
def Hv(ha:AE X kd a fa)(he:∀whole,isTrue a X.env whole=(do let v <-whole;standAt a.pos;holding [v] (truthy v))):AT X kd a (fT fa):=by with_unfolding_all exact(Lo (HY ha he) λσ H Q h=>by
 obtain⟨F,B,ad,as,bb,as',R,e,q⟩:=h;obtain⟨⟨p,as1⟩,h1,e⟩:=bS_<|e;obtain⟨⟨d,lv⟩,h2,e⟩:=bS_ e;obtain⟨k,h3,e⟩:=bS_ e;cases e;exact YO R h1 λv ad1 H1 R1 rv1 g1=>⟨_,JN (x_.vw R1 rv1 h2) h3,q ad1 H1 R1 g1⟩)
def SD(ho:uB X kd (compareOp op) g)(hg:∀x y r,g x y=some r->∃k,r = .im (.bl k))(ha:AE X kd a fa)(hb:AE X kd b fb)(hm:behindInMarks op b=false):
 AT X kd (.Compare a [op] [b] pos) (fT<|f2 fa fb g):=by with_unfolding_all exact(Lo (Ih ho ha hb hm) λσ H Q h=>by
 obtain⟨F,B,ad,as,bb,as',R,e,q⟩:=h;obtain⟨⟨p,as1⟩,h1,e⟩:=bS_<|e;obtain⟨⟨d,lv⟩,h2,e⟩:=bS_ e;obtain⟨k,h3,e⟩:=bS_ e;cases e;obtain⟨_,_,_,x,y,_,_,r0,_,_,_,_,hp,hw⟩:=FA h1;obtain⟨k',rfl⟩:=hg _ _ _ hp;cases hw;cases h2;cases h3;refine sQ (λ_ _ _ _ z=>z) ⟨F,B,ad,as,_,_,R,h1,λv T' ad' H' R' rv g'=>?_⟩;generalize hT:T'=T2 at rv R' g';cases rv with
 |lf rp=>
  cases rp;exact⟨_,rfl,q ad' H' R' g'⟩)
def HZ(ha:AT X kd a ta):AT X kd (.UnaryOp .Not a pos) (Mf ta):=by with_unfolding_all exact(Lo (JO ha) λσ H Q h=>by
 obtain⟨F,B,ad,as,bb,as',R,e,q⟩:=h;obtain⟨⟨p,as1⟩,h1,e⟩:=bS_<|e;cases e;exact⟨F,B,ad,as,p,_,R,h1,λad' H' R' g=>q ad' H' R' g⟩)
def Gb(ha:AT X kd a ta):AW X kd (.BoolOp .And [a] pos) ta:=by with_unfolding_all exact(C0 ha)
def Ym(ha:AT X kd a ta):AW X kd (.BoolOp .Or [a] pos) ta:=by with_unfolding_all exact(DQ ha)
def HK(ha:AT X kd a ta)(hb:AW X kd (.BoolOp .And (b::rest) pos) tb):AW X kd (.BoolOp .And (a::b::rest) pos) (WI ta tb):=by with_unfolding_all exact(OE (JU ha hb) λσ H Q h=>by
 obtain⟨F,B,ad,as,bb,as',R,e,q⟩:=h;obtain⟨⟨p,as1⟩,h1,e⟩:=bS_<|e;refine⟨F,B,ad,as,p,as1,R,h1,λad' H' R' g=>?_⟩;cases p with
 |true=>exact⟨F,B,ad',as1,bb,as',R',e,λad2 H2 R2 g2=>q ad2 H2 R2<|g.trans g2⟩
 |false=>cases e;exact q ad' H' R' g)
def Ng(ha:AT X kd a ta)(hb:AW X kd (.BoolOp .Or (b::rest) pos) tb):AW X kd (.BoolOp .Or (a::b::rest) pos) (YZ ta tb):=by with_unfolding_all exact(OE (uU ha hb) λσ H Q h=>by
 obtain⟨F,B,ad,as,bb,as',R,e,q⟩:=h;obtain⟨⟨p,as1⟩,h1,e⟩:=bS_<|e;refine⟨F,B,ad,as,p,as1,R,h1,λad' H' R' g=>?_⟩;cases p with
 |false=>exact⟨F,B,ad',as1,bb,as',R',e,λad2 H2 R2 g2=>q ad2 H2 R2<|g.trans g2⟩
 |true=>cases e;exact q ad' H' R' g)
def AW.at_(h:AW X kd e ta):AT X kd e ta:=by with_unfolding_all exact(PW.pt h)
def uy{K}{F B}{T}{ad}{σ}{H}{v}{st c}(h:x_ K kd F B T ad σ H v (.ow<|.lf st<|.bl c)):T=[]/\v = .bl c:=by
 have h:=h;generalize hT:Gw T ad=G at h;cases h with
 |lf rp=>cases rp;exact⟨rfl,rfl⟩
def Sw(ha:AE X kd a fa):AE X kd (.BoolOp op [a] pos) fa:=by with_unfolding_all exact(AX ha)
def S0(ha:AE X kd a fa)(hb:AE X kd (.BoolOp .And (b::rest) pos) fb):AE X kd (.BoolOp .And (a::b::rest) pos) (BU fa fb):=by with_unfolding_all exact(yM (JP ha hb) λσ H Q h=>by
 obtain⟨F,B,ad,as,r,as',R,e,q⟩:=h;obtain⟨⟨p,as1⟩,h1,e⟩:=bS_<|e;refine⟨F,B,ad,as,p,as1,R,h1,λv T' ad' H' R' rv g=>?_⟩;obtain⟨k,e1,e⟩:=bS_ e;obtain⟨st,rfl⟩:=Da e1;obtain⟨rfl,rfl⟩:=uy rv;cases k with
 |true=>exact⟨true,rfl,⟨F,B,ad',as1,r,as',R',e,λv T2 ad2 H2 R2 rv g2=>q v T2 ad2 H2 R2 rv<|g.trans g2⟩⟩
 |false=>
  cases e;exact⟨false,rfl,q _ [] ad' H' R' (.lf<|.bl false) g⟩)
def uk(ho:pV X kd (unaryOp op) g)(ha:AE X kd a fa):AE X kd (.UnaryOp op a pos) (f1 fa g):=by with_unfolding_all exact(yM (tK ho ha) λσ H Q h=>by
 obtain⟨F,B,ad,as,r,as',R,e,q⟩:=h;obtain⟨⟨p,as1⟩,h1,e⟩:=bS_<|e;obtain⟨⟨x,lv⟩,h2,e⟩:=bS_ e;obtain⟨z,h3,e⟩:=bS_ e;obtain⟨y,h4,e⟩:=bS_ e;cases e;refine YO R h1 λv ad1 H1 R1 rv1 g1=>⟨_,x,z,R1.tr _,x_.vw R1 rv1 h2,h3,ZF R1 h4 λw T' H' R' rv' g'=>q w T' ad1 H' R' rv'<|g1.trans g'⟩)
end
abbrev AF:=AS->Option (List RV×AS)
inductive RVs(K:zzA)(kd:KD)(F B:Addr->Prop)(ad:Ad)(σ:St)(H:Hp):List V->List RV->Prop
 |nil:RVs K kd F B ad σ H [] []
 |cons {v:V}{r:RV}{vs:List V}{rs:List RV}:x_ K kd F B [] ad σ H v r->RVs K kd F B ad σ H vs rs->RVs K kd F B ad σ H (v::vs) (r::rs)
def sG(K:zzA)(kd:KD)(f:AF):TA:=λσ H Q=>∃F B ad as rs as',Rel K kd F B [] ad as σ H/\f as=some (rs,as')/\
 ∀vs ad' H',Rel K kd F B [] ad' as' σ H'->RVs K kd F B ad' σ H' vs rs->Grow (Gw [] ad) H (Gw [] ad') H'->Q vs H'
@[irreducible] def AA(X:Cx)(kd:KD)(es:List Expr)(f:AF):Prop:=PA X es<|sG X.K kd f
def aN:AF:=λas=>some ([],as)
def aC(fa:EF)(fr:AF):AF:=λas=>(fa as).bind λp=>(fr p.2).bind λq=>some (p.1.frz::q.1,q.2)
def LY(h:PA X e t)(k:∀σ H Q,t' σ H Q->t σ H Q):PA X e t':=λpos pins s σ H Q I q=>h pos pins s σ H Q I<|k σ H Q q
abbrev DF:=AS->Option (List O×AS)
def pM(K:zzA)(kd:KD)(f:DF):TA:=λσ H Q=>∃F B ad as os as',Rel K kd F B [] ad as σ H/\f as=some (os,as')/\
 ∀vs T' ad' H',Rel K kd F B T' ad' as' σ H'->vG K kd F B (Gw T' ad') H' vs os T'->Grow (Gw [] ad) H (Gw T' ad') H'->Q vs H'
@[irreducible] def AD(X:Cx)(kd:KD)(es:List Expr)(f:DF):Prop:=PA X es<|pM X.K kd f
def dN:DF:=λas=>some ([],as)
def dC(fa:EF)(fr:DF):DF:=λas=>(fa as).bind λp=>(OU p.2 p.1).bind λx=>(fr x.2).bind λq=>some (x.1::q.1,q.2)
def views(as:AS):List RV->Option (List D×Option Bool)
 | []=>some ([],some true)
 |r::rs=>(r.view as).bind λx=>(views as rs).bind λy=>some (x.1::y.1,meet x.2 y.2)
def fP(fr:AF)(g:List D->Option R0):EF:=λas=>(fr as).bind λp=>(views p.2 p.1).bind λx=>(g x.1).bind λr=>(wrap x.2 r).bind λz=>some (z,p.2)
def sk(as:AS):RV->Option (Bool×D)
 | .ow o=>some (zR o.toD||o.str,o.toD)
 | .bo i=>match as[i]? with
  |some (some o)=>some (false,o.toD)
  |_=>none
def YN(as:AS):List RV->Option (List<|Bool×D)
 | []=>some []
 |r::rs=>(sk as r).bind λx=>(YN as rs).bind λy=>some (x::y)
def zv(fr:AF)(g:List (Bool×D)->Option O):EF:=λas=>(fr as).bind λp=>(YN p.2 p.1).bind λx=>(g x).bind λo=>some (.ow o,p.2)
def qz(K:zzA)(kd:KD)(F:Addr->Prop)(H:Hp)(Q:VK)(o:O):Prop:=
 ∀v T H',T.Nodup->(∀a ∈ T,H a=none)->(∀b u,H b=some u->H' b=some u)->(∀a ∈ T,H' a≠none)->Ro (λ_ v d=>Rp K kd (QK F (· ∈ T)) H' v d) (λa=>¬QK F (· ∈ T) a) H' v o T->Q v H'
inductive RpA(K:zzA)(kd:KD)(F:Addr->Prop)(H:Hp):List V->List (Bool×D)->Prop
 |nil:RpA K kd F H [] []
 |cons {v:V}{st:Bool}{d:D}{vs:List V}{ds:List (Bool×D)}:Rp K kd (λa=>st=true/\F a) H v d->RpA K kd F H vs ds->RpA K kd F H (v::vs) ((st,d)::ds)
def DT(K:zzA)(kd:KD)(g:List (Bool×D)->Option O):Sp:=λvs H Q _=>∃F ds o,(∀a,F a->H a≠none)/\RpA K kd F H vs ds/\g ds=some o/\qz K kd F H Q o
def Zb(os:List O):O:=if os.all O.isLf=true then .lf (O.strs os) (.tup<|O.toDs os)else .nd .tp os
def zX(fr:DF):EF:=λas=>(fr as).bind λp=>if p.1.length<=sizeLine then some (.ow<|Zb p.1,p.2)else none
def yK(fr:DF):EF:=λas=>(fr as).bind λp=>if p.1.length<=sizeLine then some (.ow<|.nd .ls p.1,p.2)else none
section
variable{X:Cx}{kd:KD}{a b c:Expr}{fa fb:EF}{ta tb:TF}{pos:Pos}{es rest:List Expr}{fr:AF}{fd:DF}
theorem RpA.length{K}{F}{H}{vs}{ds}(h:RpA K kd F H vs ds):vs.length=ds.length:=by
 induction h with
 |nil=>rfl
 |cons _ _ ih=>exact congrArg (· + 1) ih
def yL:AA X kd [] aN:=by with_unfolding_all exact(LY XG λσ H Q h=>by
 obtain⟨F,B,ad,as,rs,as',R,e,q⟩:=h;cases e;exact q [] ad H R .nil Grow.refl)
def Io(ha:AE X kd a fa)(hr:AA X kd es fr)(hs:starEach (a::es) X.env=(false,eval a X.env)::starEach es X.env):AA X kd (a::es) (aC fa fr):=by with_unfolding_all exact(LY (Zj ha hr hs) λσ H Q h=>by
 obtain⟨F,B,ad,as,rs,as',R,e,q⟩:=h;obtain⟨⟨p,as1⟩,h1,e⟩:=bS_<|e;obtain⟨⟨z,as2⟩,h2,e⟩:=bS_ e;cases e;refine YO R h1 λv ad1 H1 R1 rv1 g1=>⟨F,B,ad1,as1,z,_,R1,h2,λvs ad2 H2 R2 rv2 g2=>?_⟩;exact q _ ad2 H2 R2 (.cons (rv1.grow g2) rv2)<|g1.trans g2)
def XZ:AD X kd [] dN:=by with_unfolding_all exact(LY XG λσ H Q h=>by
 obtain⟨F,B,ad,as,rs,as',R,e,q⟩:=h;cases e;exact q [] [] ad H R .nil Grow.refl)
def CQ(ha:AE X kd a fa)(hr:AD X kd es fd)(hs:starEach (a::es) X.env=(false,eval a X.env)::starEach es X.env):AD X kd (a::es) (dC fa fd):=by with_unfolding_all exact(LY (Zj ha hr hs) λσ H Q h=>by
 obtain⟨F,B,ad,as,rs,as',R,e,q⟩:=h;obtain⟨⟨p,as1⟩,h1,e⟩:=bS_<|e;obtain⟨⟨o,as2⟩,h2,e⟩:=bS_ e;obtain⟨⟨os,as3⟩,h3,e⟩:=bS_ e;cases e;refine⟨F,B,ad,as,p,as1,R,h1,λv T1 ad1 H1 R1 rv1 g1=>?_⟩;obtain⟨ad2,R2,ro2,le2⟩:=TV R1 rv1 h2;refine⟨F,_,ad2,as2,os,_,R2.hide,h3,λvs T3 ad3 H3 R3 ro3 g3=>?_⟩;have kT:=λa m u e=>g3.keep a u e λz=>z.elim (λy=>nomatch y) λ⟨i,y⟩=>R2.dis i a y m;have r1:=xY.lv Uh<|xY.grow g3 kT<|xY.lv FE ro2;have r3:=vG.lv Uh ro3;refine q _ (T1++T3) ad3 H3 (R3.unhide R2.tnd λa m z=>(R2.btr a z).2.2<|.inl m) (.cons r1 r3)<|(g1.trans<|Grow.less le2).trans ⟨λb u e n=>g3.keep b u e λz=>n<|Gw.drop b z,λb z=>?_⟩
 rcases z with z|z
 . rcases zzM.mp z with z|z
   . exact .inl<|.inl z
   . exact(g3.own b<|.inl z).elim (λy=>.inl<|Gw.drop b y) .inr
 . exact(g3.own b<|.inr z).elim (λy=>.inl<|Gw.drop b y) .inr)
def QU(h:AD X kd es fd):AE X kd (.Tuple es x1 pos) (zX fd):=by with_unfolding_all exact(yM (Ay h) λσ H Q h=>by
 obtain⟨F,B,ad,as,r,as',R,e,q⟩:=h;obtain⟨⟨os,as1⟩,h1,e⟩:=bS_<|e;obtain⟨hz,e⟩:=zM e;cases e;refine⟨F,B,ad,as,os,_,R,h1,λvs T1 ad1 H1 R1 ro1 g1=>⟨by rw[ro1.length];exact hz,λp hp=>?_⟩⟩;have k:∀b o,H1 b=some o->upd H1 p (.tup vs) b=some o:=λb o hb=>by rw[zJ<|yE hb hp];exact hb
 obtain⟨R2,g2⟩:=R1.more k;have ro2:=vG.grow g2 (λa _ u h=>k a u h) ro1;have np:=λst z=>R1.trk st p z hp;refine q _ T1 ad1 _ R2 ?_<|g1.trans g2;unfold Zb
 by_cases hl:os.all O.isLf=true
 . rw[if_pos hl];have:=OQ ro2 hl;subst this;exact .lf<|.tup (np _) yp<|Q5 ro2 hl
 . rw[if_neg hl];exact .tp (np _) yp ro2)
def Eb(h:AD X kd es fd):AE X kd (.List es pos) (yK fd):=by with_unfolding_all exact(yM (DX h) λσ H Q h=>by
 obtain⟨F,B,ad,as,r,as',R,e,q⟩:=h;obtain⟨⟨os,as1⟩,h1,e⟩:=bS_<|e;obtain⟨hz,e⟩:=zM e;cases e;refine⟨F,B,ad,as,os,_,R,h1,λvs T1 ad1 H1 R1 ro1 g1=>⟨by rw[ro1.length];exact hz,λp hp=>?_⟩⟩;have k:∀b o,H1 b=some o->upd H1 p (.lst vs) b=some o:=λb o hb=>by rw[zJ<|yE hb hp];exact hb
 obtain⟨R2,g2⟩:=R1.add (N:=[p]) (by simp) (λa m=>by rw[zzR.mp m];exact hp) k (λa m=>by rw[zzR.mp m,yp];simp);exact q _ _ ad1 _ R2 (.ls yp<|vG.grow g2 (λa _ u h=>k a u h) ro1)<|g1.trans g2)
theorem VwL.less{K}{O O'}{H}(g:∀a,O' a->O a){vs}{ds}(h:VwL K kd O H vs ds):VwL K kd O' H vs ds:=by
 induction h with
 |nil=>exact .nil
 |cons h _ ih=>exact .cons (h.less g) ih
def Wk{K}{F B}{ad}{as}{σ}{H}(R:Rel K kd F B [] ad as σ H){vs}{rs}{ds}{lv}(h:RVs K kd F B ad σ H vs rs)(e:views as rs=some (ds,lv)):VwL K kd (Pu F B (Gw [] ad) lv) H vs ds:=by
 induction h generalizing ds lv with
 |nil=>cases e;exact .nil
 |cons h t ih=>
  obtain⟨⟨d,l⟩,h1,e⟩:=bS_<|e;obtain⟨⟨ds,l2⟩,h2,e⟩:=bS_ e;cases e;exact .cons ((x_.vw R h h1).less Pu.meet1)<|(ih h2).less Pu.meet2
def pj{g}{σ}{H}{Q}{R':List V->Hp->VK->Prop}(hr:∀vs H Q,(∃O ds r,(∀a,O a->H a≠none)/\VwL X.K kd O H vs ds/\g ds=some r/\RQ X.K kd O H Q r)->R' vs H Q)
 (h:al X.K kd (fP fr g) σ H Q):sG X.K kd fr σ H λvs H1=>R' vs H1 Q:=by
 obtain⟨F,B,ad,as,r,as',R,e,q⟩:=h;obtain⟨⟨p,as1⟩,h1,e⟩:=bS_<|e;obtain⟨⟨ds,lv⟩,h2,e⟩:=bS_ e;obtain⟨z,h3,e⟩:=bS_ e;obtain⟨y,h4,e⟩:=bS_ e;cases e;exact⟨F,B,ad,as,p,_,R,h1,λvs ad1 H1 R1 rv1 g1=>hr _ _ _ ⟨_,ds,z,R1.tr _,Wk R1 rv1 h2,h3,ZF R1 h4 λw T' H' R' rv' g'=>q w T' ad1 H' R' rv'<|g1.trans g'⟩⟩
def O_{K}{F B}{ad}{as}{σ}{H}(R:Rel K kd F B [] ad as σ H){vs}{rs}{ds}(h:RVs K kd F B ad σ H vs rs)(e:YN as rs=some ds):RpA K kd (Lv F B (Gw [] ad) true) H vs ds:=by
 induction h generalizing ds with
 |nil=>cases e;exact .nil
 |cons h t ih=>
  rename_i v r vs rs;obtain⟨⟨st,d⟩,h1,e⟩:=bS_<|e;obtain⟨ds,h2,e⟩:=bS_ e;cases e;refine .cons ?_<|ih h2;cases r with
  |ow o=>
   cases h1;cases hf:zR o.toD with
   |true=>exact(LR h).flat hf
   |false=>
    refine(Lm h).less λa z=>?_;have zs:o.str=true:=z.1;rw[zs];exact z.2
  |bo i=>
   have e:(match as[i]? with|some (some o)=>some (false,o.toD)|_=>none)=some (st,d):=h1;cases k:as[i]? with
   |none=>rw[k]at e;cases e
   |some s=>
    cases s with
    |none=>rw[k]at e;cases e
    |some o=>
     rw[k]at e;cases e;obtain⟨w,hw,ro⟩:=R.sl i _ k;rw[h.2]at hw;cases hw;exact(LR ro).less λa z=>nomatch z.1
def AL{K}{F B}{ad}{as}{σ}{H}{Q}{o}(R:Rel K kd F B [] ad as σ H)(q:∀v T' H',Rel K kd F B T' ad as σ H'->x_ K kd F B T' ad σ H' v (.ow o)->Grow (Gw [] ad) H (Gw T' ad) H'->Q v H'):
 qz K kd (Lv F B (Gw [] ad) true) H Q o:=λv T H' hn hl k h1 ro=>by
 obtain⟨R',g⟩:=R.news hn hl k h1;have le:∀st a,Lv F B (Gw T ad) st a->QK (Lv F B (Gw [] ad) true) (· ∈ T) a:=λst a z=>by
  rcases z with(z|z)|z|z
  . exact .inl<|.inl<|.inl ⟨rfl,z.2⟩
  . exact .inl<|.inl<|.inr z
  . exact .inr z
  . exact .inl<|.inr<|.inr z
 exact q v T H' R' (Ro.mono (λst v d r=>r.less<|le st) (λa vs n e=>⟨λz=>n<|le true a z,e⟩) (λ_ _ _ e=>e) ro) g
def AV(h:al X.K kd (zv fr g) σ H Q):Jr (DT X.K kd g) [] E (sG X.K kd fr) σ H Q:=by
 obtain⟨F,B,ad,as,r,as',R,e,q⟩:=h;obtain⟨⟨p,as1⟩,h1,e⟩:=bS_<|e;obtain⟨ds,h2,e⟩:=bS_ e;obtain⟨o,h3,e⟩:=bS_ e;cases e;refine⟨F,B,ad,as,p,_,R,h1,λvs ad1 H1 R1 rv1 g1=>?_⟩;show DT X.K kd g _ H1 Q E;rw[zyE];exact⟨_,ds,o,R1.trk true,O_ R1 rv1 h2,h3,AL R1 λw T' H' R' rv' g'=>q w T' ad1 H' R' rv'<|g1.trans g'⟩
end
inductive Out where
 |nx (as:AS)|rt (o:O)|bk (as:AS)|ct (as:AS)
abbrev SF:=AS->Option Out
structure RetOk(K:zzA)(kd:KD)(F:Addr->Prop)(T:List Addr)(H:Hp)(v:V)(o:O):Prop where
 nd:T.Nodup
 tr:∀a ∈ T,H a≠none
 ro:Ro (λ_ v d=>Rp K kd (QK F (· ∈ T)) H v d) (λa=>¬QK F (· ∈ T) a) H v o T
def EZ(K:zzA)(kd:KD)(F B:Addr->Prop)(ad:Ad)(H:Hp)(D:Ends):Out->Prop
 | .nx as'=>∀σ' ad' H',Rel K kd F B [] ad' as' σ' H'->Grow (Gw [] ad) H (Gw [] ad') H'->D.nx σ' H'
 | .bk as'=>∀σ' ad' H',Rel K kd F B [] ad' as' σ' H'->Grow (Gw [] ad) H (Gw [] ad') H'->D.bk σ' H'
 | .ct as'=>∀σ' ad' H',Rel K kd F B [] ad' as' σ' H'->Grow (Gw [] ad) H (Gw [] ad') H'->D.ct σ' H'
 | .rt o=>∀v T H',RetOk K kd F T H' v o->Grow (Gw [] ad) H (· ∈ T) H'->D.rt v H'
def be(K:zzA)(kd:KD)(f:SF):TS:=λD σ H=>∃F B ad as o,Rel K kd F B [] ad as σ H/\f as=some o/\EZ K kd F B ad H D o
@[irreducible] def Pp(X:Cx)(kd:KD)(st:Stmt)(f:SF):Prop:=PS X st<|be X.K kd f
@[irreducible] def Mw(X:Cx)(kd:KD)(st:List Stmt)(f:SF):Prop:=Mv X st<|be X.K kd f
def wB(h:PS X e t)(k:∀D σ H,t' D σ H->t D σ H):PS X e t':=λpins s σ H D I q=>h pins s σ H D I<|k D σ H q
def RH(h:Mv X e t)(k:∀D σ H,t' D σ H->t D σ H):Mv X e t':=λpins s σ H D I q=>h pins s σ H D I<|k D σ H q
def EZ.pre{K}{kd}{F B}{ad ad1}{H H1}{D}{o}(g:Grow (Gw [] ad) H (Gw [] ad1) H1)(h:EZ K kd F B ad H D o):EZ K kd F B ad1 H1 D o:=by
 cases o with
 |nx as=>exact λσ' ad' H' R g'=>h σ' ad' H' R (g.trans g')
 |bk as=>exact λσ' ad' H' R g'=>h σ' ad' H' R (g.trans g')
 |ct as=>exact λσ' ad' H' R g'=>h σ' ad' H' R (g.trans g')
 |rt r=>exact λv T H' R g'=>h v T H' R<|g.trans g'
noncomputable def vE:SF:=λas=>some<|.nx as
def zp(f g:SF):SF:=λas=>(f as).bind λo=>match o with | .nx as'=>g as'|o=>some o
def wG(c:TF)(f g:SF):SF:=λas=>(c as).bind λp=>if p.1=true then f p.2 else g p.2
def ym(f:EF):SF:=λas=>(f as).bind λp=>some<|.nx p.2
def OD(as:AS):RV->Option O
 | .ow o=>if o.str=true then some o else none
 | .bo i=>match as[i]? with
  |some (some o)=>if o.str=true then some o else none
  |_=>none
def yi(f:EF):SF:=λas=>(f as).bind λp=>(OD p.2 p.1).bind λo=>some<|.rt o
def zy(z:Bool)(i:Nat)(f:EF):SF:=λas=>(f as).bind λp=>(OU p.2 (if z=true then p.1.frz else p.1)).bind λx=>if i<x.2.length then some (.nx<|x.2.set i<|some x.1)else none
def Ro.strong(h:Ro L N H v o fp)(e:o.str=true):Ro (λst v d=>st=true/\L st v d) N H v o fp:=
 Ro.rec (motive_2:=λvs os fp _=>O.strs os=true->RoL (λst v d=>st=true/\L st v d) N H vs os fp)
  (λh e=>.lf ⟨e,h⟩) (λh _ r e=>.ls h<|r e) (λh l _ r e=>.dc h l<|r e) (λc h l _ r e=>.ob ⟨rfl,c⟩ h l<|r e) (λh l _ r e=>.dt h l<|r e) (λn h _ r e=>.tp n h<|r e) (λ_=>.nil) (λ_ _ h r e=>.cons (h ((zyC _ _).mp e).1)<|r ((zyC _ _).mp e).2) h e
section
variable{K:zzA}{kd:KD}{F B:Addr->Prop}{T:List Addr}{ad ad1:Ad}{as as1:AS}{σ:St}{H H1:Hp}{v:V}{r:RV}{o:O}
def Eh(R:Rel K kd F B T ad as σ H)(hn:T'.Nodup)(hs:∀a ∈ T',Gw T ad a)(h:xY K kd F B (Gw T ad) H v o T')(e:o.str=true):RetOk K kd F T' H v o:=by
 have le:∀a,QK F (· ∈ T') a->Lv F B (Gw T ad) true a:=λa z=>z.elim (λy=>.inl<|.inl ⟨rfl,y⟩) λy=>.inr<|hs a y;exact⟨hn,λa m=>(R.gtr a<|hs a m).1,Ro.mono (λst v d r=>by obtain⟨rfl,r⟩:=r;exact r.less le) (λa vs n e=>⟨λz=>n<|le a z,e⟩) (λ_ _ _ e=>e)<|Ro.strong h e⟩
def Rel.ret(R:Rel K kd F B T ad as σ H)(hr:x_ K kd F B T ad σ H v r)(e:OD as r=some o):∃T',RetOk K kd F T' H v o/\∀b ∈ T',Gw T ad b:=by
 cases r with
 |ow o'=>
  obtain⟨hs,rfl⟩:=zM e;exact⟨T,Eh R R.tnd (λa m=>.inl m) hr hs,λa m=>.inl m⟩
 |bo i=>
  have e:(match as[i]? with|some (some o)=>if o.str=true then some o else none|_=>none)=some o:=e;cases k:as[i]? with
  |none=>rw[k]at e;cases e
  |some s=>
   cases s with
   |none=>rw[k]at e;cases e
   |some o1=>
    rw[k]at e;obtain⟨hs,rfl⟩:=zM e;obtain⟨w,hw,ro⟩:=R.sl i _ k;rw[hr.2]at hw;cases hw;exact⟨ad i,Eh R (R.nd i) (λa m=>.inr ⟨i,m⟩) ro hs,λa m=>.inr ⟨i,m⟩⟩
end
section
variable{X:Cx}{kd:KD}{st:Stmt}{sts rest:List Stmt}{a b c e:Expr}{fa fb:EF}{ta:TF}{pos:Pos}{f g:SF}
def X_:Mw X kd [] vE:=by with_unfolding_all exact(RH Fw λD σ H h=>by
 obtain⟨F,B,ad,as,o,R,e,q⟩:=h;cases e;exact q σ ad H R Grow.refl)
def yI(h1:Pp X kd st f)(h2:Mw X kd rest g):Mw X kd (st::rest) (zp f g):=by with_unfolding_all exact(RH (XU h1 h2) λD σ H h=>by
 obtain⟨F,B,ad,as,o,R,e,q⟩:=h;obtain⟨o1,e1,e⟩:=bS_<|show(f as).bind _=_ from e;refine⟨F,B,ad,as,o1,R,e1, ?_⟩;cases o1 with
 |nx as1=>exact λσ' ad' H' R' g'=>⟨F,B,ad',as1,o,R',e,q.pre g'⟩
 |bk as1=>cases e;exact q
 |ct as1=>cases e;exact q
 |rt r=>cases e;exact q)
def vQ(h1:Pp X kd st f):Mw X kd [st] f:=by with_unfolding_all exact(RR h1)
def p8:SF:=λ_=>none
def se:Pp X kd st p8:=by with_unfolding_all exact(λpins s σ H D I h=>by obtain⟨F,B,ad,as,o,R,e,q⟩:=h;cases e)
def GX(hc:AT X kd c ta)(ha:Mw X kd sts f)(hb:Mw X kd rest g):Pp X kd (.If c sts rest pos) (wG ta f g):=by with_unfolding_all exact(wB (Jd hc ha hb) λD σ H h=>by
 obtain⟨F,B,ad,as,o,R,e,q⟩:=h;obtain⟨⟨p,as1⟩,h1,e⟩:=bS_<|show(ta as).bind _=_ from e;refine⟨F,B,ad,as,p,as1,R,h1,λad' H' R' g=>?_⟩;cases p with
 |true=>exact⟨F,B,ad',as1,o,R',e,q.pre g⟩
 |false=>exact⟨F,B,ad',as1,o,R',e,q.pre g⟩)
def E6(he:AE X kd e fa)(hs:swapsWith e none pos.line X.env=pure false):Pp X kd (.Expr e pos) (ym fa):=by with_unfolding_all exact(wB (YX he hs) λD σ H h=>by
 obtain⟨F,B,ad,as,o,R,e,q⟩:=h;obtain⟨⟨p,as1⟩,h1,e⟩:=bS_<|show(fa as).bind _=_ from e;cases e;exact⟨F,B,ad,as,p,as1,R,h1,λv T' ad' H' R' rv g=>q σ ad' H' R'.drop<|g.trans<|Grow.less Gw.drop⟩)
def YQ(he:AE X kd e fa):Pp X kd (.Return (some e) pos) (yi fa):=by with_unfolding_all exact(wB (OJ he) λD σ H h=>by
 obtain⟨F,B,ad,as,o,R,e,q⟩:=h;obtain⟨⟨p,as1⟩,h1,e⟩:=bS_<|show(fa as).bind _=_ from e;obtain⟨r,h2,e⟩:=bS_ e;cases e;refine⟨F,B,ad,as,p,as1,R,h1,λv T' ad' H' R' rv g=>?_⟩;obtain⟨T2,ro,le⟩:=R'.ret rv h2;exact q v T2 H' ro<|g.trans<|Grow.less le)
def Oq{K}{F B}{T}{ad}{as as2}{σ}{H}{v}{r}{z}{o}{i:Nat}(R:Rel K kd F B T ad as σ H)(rv:x_ K kd F B T ad σ H v r)
 (h2:OU as (if z=true then r.frz else r)=some (o,as2)) (hl:i<as2.length):∃ad',Rel K kd F B [] ad' (as2.set i<|some o) (σ.set i<|some v) H/\∀a,Gw [] ad' a->Gw T ad a:=by
 cases z with
 |true=>
  obtain⟨ad1,R1,ro,le⟩:=TV R.drop (x_.drop R rv) h2;exact⟨_,R1.put hl ro,λa y=>Gw.drop a<|le a<|Yo a y⟩
 |false=>
  obtain⟨ad1,R1,ro,le⟩:=TV R rv h2;exact⟨_,R1.put hl ro,λa y=>le a<|Yo a y⟩
def Hf(hN:X.N.Nodup)(hi:X.N[i]? = some x)(hx:Loc X.env.scope x)(he:AE X kd e fa)(hs:swapsWith e (some<|.Name x pos') pos.line X.env=pure false)(hf:X.fn x=true\/X.env.scope.names.lookup x=some .local):
 Pp X kd (.Assign [.Name x pos'] e pos) (zy z i fa):=by with_unfolding_all exact(wB (MJ hN hi hx he hs hf) λD σ H h=>by
 obtain⟨F,B,ad,as,o,R,e,q⟩:=h;obtain⟨⟨p,as1⟩,h1,e⟩:=bS_<|show(fa as).bind _=_ from e;obtain⟨⟨y,as2⟩,h2,e⟩:=bS_ e;obtain⟨hl,e⟩:=zM e;cases e;refine⟨F,B,ad,as,p,as1,R,h1,λv T' ad' H' R' rv g=>?_⟩;obtain⟨ad2,R2,le⟩:=Oq R' rv h2 hl;exact q _ ad2 H' R2<|g.trans<|Grow.less le)
end
def YG(n:Nat)(ds:List (Bool×D)):AS:=ds.map (λx=>some<|.lf x.1 x.2)++List.replicate (n-ds.length) none
def rX:Out->Option O
 | .nx _=>some<|.lf true .non
 | .rt o=>some o
 |_=>none
def v3(n m:Nat)(f:SF)(ds:List (Bool×D)):Option O:=if ds.length=m then(f<|YG n ds).bind rX else none
theorem RpA.get{K}{kd}{F}{H}:∀{vs:List V}{ds:List (Bool×D)}{i:Nat}{x:Bool×D},RpA K kd F H vs ds->ds[i]? = some x->∃v,vs[i]? = some v/\Rp K kd (λa=>x.1=true/\F a) H v x.2
 |_,_,_,_,.nil,e=>by simp at e
 |_,_,0,_,.cons h _,e=>by simp at e;subst e;exact⟨_,rfl,h⟩
 |_,_,i+1,_,.cons _ r,e=>by
  obtain⟨v,h1,h2⟩:=RpA.get (i:=i) r (by simpa using e);exact⟨v,by simpa using h1,h2⟩
def Bk{K}{kd}{F}{H}{N}{vs}{ds}(ht:∀a,F a->H a≠none)(rp:RpA K kd F H vs ds):
 Rel K kd F (λ_=>False) [] (λ_=>[]) (YG N.length ds) (L2.start N vs) H:=by
 have hl:=rp.length;have no:∀a,¬Gw [] (λ_=>[]) a:=λa z=>z.elim (λy=>nomatch y) λ⟨_,y⟩=>nomatch y;refine⟨by unfold YG L2.start;simp[hl],λ_ _=>rfl,λ_=>zyJ,(λ_ _ _ z=>nomatch z),zyJ,(λ_ _ _ z=>nomatch z),ht,(λ_ z=>z.elim),λa z=>(no a z).elim,λi s e=>?_⟩;unfold YG at e;unfold L2.start
 by_cases hi:i<ds.length
 . rw[zyP (by rw[zzB];exact hi),zzI]at e;obtain⟨d,hd,ea⟩:=zzX.mp e;subst ea;obtain⟨v,hv,rv⟩:=rp.get hd;rw[zyP (by rw[zzB,hl];exact hi),zzI,hv];refine⟨v,rfl,.lf<|rv.less λa z=>?_⟩
   rcases z with(z|z)|z
   . exact z
   . exact z.elim
   . exact(no a z).elim
 . rw[zyR<|by rw[zzB];omega]at e;have:=zyA e;have ea:=(List.mem_replicate.mp this).2;subst ea;rfl
section
variable{P:Program}{w:World}{K:zzA}{mg:Str->Option Value}{base:Heap}
def Hg(q:qz K kd F H Q o)(ro:RetOk K kd F T H' v o)(g:Grow (Gw [] λ_=>[]) H (· ∈ T) H'):Q v H':=by
 have no:∀a,¬Gw [] (λ_=>[]) a:=λa z=>z.elim (λy=>nomatch y) λ⟨_,y⟩=>nomatch y;exact q v T H' ro.nd (λa m=>(g.own a m).resolve_left<|no a) (λb u h=>g.keep b u h<|no b) ro.tr ro.ro
def uE{kd}{x qual}{st}{f}{fd}{N ps}{k:Nat}{c}(Fn:Fun K x qual st f fd)(S:FnScope N ps (zu st))
 (hb:∀(cdv:Value) (A:Around) (outer:List Env) (s:Shared) (H:Hp) (E:XK),Room k (A.deeper<|envOfC qual (zu st) s.heap.objs.size f cdv)->Mw (Nw B3 P w K mg base N qual (zu st) f cdv A outer s H E).nox kd (Y1 st) c):
 FnOk P w K mg base B3 (k+1) f fd ps (DT K kd<|v3 N.length ps.length c):=by
 with_unfolding_all (
 refine Fn.ok S (λvs H Q E h=>?_) λcdv A outer s H vs Q E hr h=>⟨_,hb cdv A outer s H E hr, ?_⟩
 . obtain⟨F,ds,r,_,rp,e,_⟩:=h;unfold v3 at e
   by_cases hl:ds.length=ps.length
   . rw[rp.length,hl]
   . rw[if_neg hl]at e;cases e
 . obtain⟨F,ds,r,ht,rp,e,q⟩:=h;unfold v3 at e
   by_cases hl:ds.length=ps.length
   . rw[if_pos hl]at e;obtain⟨o,e1,e⟩:=bS_ e;refine⟨F,λ_=>False,λ_=>[],YG N.length ds,o,Bk ht rp,e1, ?_⟩;cases o with
     |nx as=>cases e;exact λσ' ad' H' R g=>Hg q (T:=[]) ⟨zyJ,(λ_ m=>nomatch m),.lf .non⟩ (g.trans<|Grow.less (λ_ z=>nomatch z))
     |rt o=>cases e;exact λv T H' ro g=>Hg q ro g
     |bk=>cases e
     |ct=>cases e
   . rw[if_neg hl]at e;cases e)
end
abbrev Z_:=Bool×D
abbrev GF:=Z_->AS->Option AS
abbrev Jj:=List Z_->AS->Option AS
def kids(st:Bool)(ds:List D):List Z_:=ds.map λd=>(zR d||st,d)
inductive RpI(K:zzA)(kd:KD)(F B G:Addr->Prop)(H:Hp):List V->List Z_->Prop
 |nil:RpI K kd F B G H [] []
 |cons {v:V}{x:Z_}{vs:List V}{ds:List Z_}:Rp K kd (Lv F B G x.1) H v x.2->RpI K kd F B G H vs ds->RpI K kd F B G H (v::vs) (x::ds)
def sM(K:zzA)(kd:KD)(S:List Nat)(g:GF):TG:=λv σ H Q=>∃F B ad as x as',Rel K kd F B [] ad as σ H/\Rp K kd (Lv F B (Gw [] ad) x.1) H v x.2/\g x as=some as'/\
 ∀σ' ad' H',Rel K kd F B [] ad' as' σ' H'->Grow (Gw [] ad) H (Gw [] ad') H'->(∀j,j ∉ S->σ'[j]? = σ[j]?)->Q σ' H'
def rQ(K:zzA)(kd:KD)(S:List Nat)(g:Jj):DN:=λvs σ H Q=>∃F B ad as ds as',Rel K kd F B [] ad as σ H/\RpI K kd F B (Gw [] ad) H vs ds/\g ds as=some as'/\
 ∀σ' ad' H',Rel K kd F B [] ad' as' σ' H'->Grow (Gw [] ad) H (Gw [] ad') H'->(∀j,j ∉ S->σ'[j]? = σ[j]?)->Q σ' H'
@[irreducible] def AG(X:Cx)(kd:KD)(tg:Expr)(S:List Nat)(g:GF):Prop:=PG X tg<|sM X.K kd S g
@[irreducible] def Jb(X:Cx)(kd:KD)(tg:List Expr)(S:List Nat)(g:Jj):Prop:=Jn X tg<|rQ X.K kd S g
def Ao(h:PG X e t)(k:∀v σ H Q,t' v σ H Q->t v σ H Q):PG X e t':=λpins s σ H v u Q I r q=>h pins s σ H v u Q I r<|k v σ H Q q
def FP(h:Jn X e t)(k:∀v σ H Q,t' v σ H Q->t v σ H Q):Jn X e t':=λpins s σ H v u Q I r q=>h pins s σ H v u Q I r<|k v σ H Q q
def gN(i:Nat):GF:=λx as=>if i<as.length then some (as.set i<|some<|.lf x.1 x.2)else none
def vI:Jj:=λds as=>match ds with | []=>some as|_::_=>none
def yC(g:GF)(gs:Jj):Jj:=λds as=>match ds with | []=>none|d::r=>(g d as).bind λas1=>gs r as1
def gT(n:Nat)(gs:Jj):GF:=λx as=>match x.2 with
 | .tup ds=>if ds.length=n then gs (kids x.1 ds) as else none
 | .lst ds=>if ds.length=n then gs (kids x.1 ds) as else none
 |_=>none
section
variable{K:zzA}{kd:KD}{F B G G':Addr->Prop}{H H':Hp}
theorem RpI.length(h:RpI K kd F B G H vs ds):vs.length=ds.length:=by
 induction h with
 |nil=>rfl
 |cons _ _ ih=>exact congrArg (· + 1) ih
theorem RpI.grow(g:Grow G H G' H')(h:RpI K kd F B G H vs ds):RpI K kd F B G' H' vs ds:=by
 induction h with
 |nil=>exact .nil
 |cons h _ ih=>exact .cons (Rp.grow g h) ih
def RpI.get{vs}{ds}{i:Nat}{x}(h:RpI K kd F B G H vs ds)(e:ds[i]? = some x):∃v,vs[i]? = some v/\Rp K kd (Lv F B G x.1) H v x.2:=by
 induction h generalizing i with
 |nil=>simp at e
 |cons h r ih=>
  cases i with
  |zero=>simp at e;subst e;exact⟨_,rfl,h⟩
  |succ i=>
   obtain⟨v,h1,h2⟩:=ih (by simpa using e);exact⟨v,by simpa using h1,h2⟩
def Wb{st}{vs}{ds}(h:RpL K kd (Lv F B G st) H vs ds):RpI K kd F B G H vs (kids st ds):=
 RpL.ind (P:=λvs ds=>RpI K kd F B G H vs<|kids st ds) .nil (λ{v d vs ds} h _ ih=>by
  refine .cons (x:=(zR d||st,d)) ?_ ih;cases e:zR d with
  |true=>exact h.flat e
  |false=>exact h) h
end
section
variable{prog:Program}{w:World}{A:Around}{E:Value->Shared->Prop}{s:Shared}
theorem Kq(hne:l≠it):∀(n i:Nat) (s:Shared) (Q:List Value->Shared->Prop),s.heap.IsListIter it l i->s.heap.IsList l items->i+n<=items.size->
 (∀h',h'.IsListIter it l (i+n)->Heap.SameBut it s.heap h'->Q ((items.toList.drop i).take n) {s with heap:=h'})->wpAny (model prog w) A (draw (.ref it) n) Q E s
 |0,i,s,Q,hit,_,_,hQ=>by
  exact zxH (by simpa using hQ s.heap hit (Heap.SameBut.refl ..))
 |n+1,i,s,Q,hit,ht,hle,hQ=>by
  have hlt:i<items.size:=by omega
  refine zxG<|wpAny_pyNext_list_item hit ht (x:=items[i]) (by simp[hlt]) λh₁ hit₁ hs₁=>?_;refine zxG<|zxM<|Kq hne n (i+1) _ _ hit₁ (ht.extBut hs₁.extBut hne) (by omega) λh₂ hit₂ hs₂=>zxH ?_;have hd:items.toList.drop i=items[i]::items.toList.drop (i+1):=by simp[zyQ,hlt]
  have:=hQ h₂ (by rw[show i+(n+1)=i+1+n by omega];exact hit₂)<|hs₁.trans hs₂;rw[hd,List.take_succ_cons]at this;exact this
def Mn(hh:A.handled=none)(ht:s.heap.IsList l items)
 (hn:targets.length=items.size) (hstar:targets.findIdx? (·.1)=none)
 (h:∀h',Heap.ExtBut s.heap.objs.size s.heap h'->wpAny (model prog w) A (assignInOrder (targets.map (·.2)) items.toList) Q E {s with heap:=h'}):
 wpAny (model prog w) A (unpack (.ref l) targets) Q E s:=by
 unfold unpack;rw[hn,hstar];refine zxG<|zxM ?_;have hlt:l≠s.heap.objs.size:=by obtain⟨o,ho,_⟩:=ht;exact zzQ<|zxJ ho
 unfold unpackItems;refine zxG ?_;unfold notIterableAtAll;refine zxG<|wpAny_specialOf ht.typeIs PySem.F.slot_list_iter.lookup ?_;refine zxH ?_;simp only[Bool.false_eq_true,if_false];refine zxG<|zxM<|wpAny_pyIter_list ht ?_;refine zxG<|zxM<|Kq hlt items.size 0 _ _ ⟨_,zxK _ rfl,rfl,rfl⟩ (ht.push _) (by omega) λh₁ hit₁ hs₁=>?_;have hall:List.take items.size (List.drop 0 items.toList)=items.toList:=by
  rw[List.drop_zero];exact List.take_of_length_le (by simp)
 rw[hall];rw[if_neg<|by simp];have ht₁:=(ht.push _).extBut hs₁.extBut hlt;refine zxG<|zxM<|wpAny_pyNext_list_end hh hit₁ ht₁ (by simp) λh₂ he₂=>?_;simp only[Option.isSome_none,Bool.false_eq_true,if_false];exact zxH<|h h₂ λb o hb e=>he₂ b o hb<|hs₁.extBut b o hb<|zxI _ e
end
section
variable{X:Cx}{kd:KD}{a b c e tg iter:Expr}{es:List Expr}{body:List Stmt}{fa fb:EF}{pos:Pos}{g:GF}{gs:Jj}{f:SF}{ta:TF}{S S1 S2:List Nat}
def rA(K:zzA)(n:Nat)(t:DN):TG:=λv σ H Q=>∃a xs,v = .ref a/\Xr K H a xs/\xs.length=n/\t xs σ H Q
def So(hc:X.calm=true)(h:Jn X es t)(hn:(assignEach es X.env).length=n)(hst:(assignEach es X.env).findIdx? (·.1)=none):PG X (.Tuple es k pos) (rA X.K n t):=by
 intro pins s σ H v u Q I r hw;obtain⟨a,xs,e1,hq,hl,hw⟩:=hw;subst e1;cases r;obtain⟨its,rv,ht,hz⟩:=I.list hq;rw[assign_Tuple];refine zxG<|wpAny_standAt<|Mn (I.ok.hd hc) ht.isList (by simp[hn,<-hl,rv.length]) hst λh' hx=>?_;have I1:=I.kept (t':=s.toks) λb o e=>hx b o (zzQ<|zxJ e) e;exact h pins _ σ H xs _ Q I1 (by simpa using rv) hw
def E9(hN:X.N.Nodup)(hi:X.N[i]? = some x)(hx:Loc X.env.scope x)(hf:X.fn x=true\/X.env.scope.names.lookup x=some .local):AG X kd (.Name x pos) [i] (gN i):=by with_unfolding_all exact(Ao (Cz hN hi hx hf) λv σ H Q h=>by
 obtain⟨F,B,ad,as,y,as',R,rp,e,q⟩:=h;obtain⟨hl,e⟩:=zM e;cases e;exact q _ _ H (R.put hl<|.lf rp) (Grow.less Yo) λj hj=>zzY λz=>hj<|by rw[z];simp)
def V0:Jb X kd [] [] vI:=by with_unfolding_all exact(FP Ib λvs σ H Q h=>by
 obtain⟨F,B,ad,as,ds,as',R,rp,e,q⟩:=h;cases rp with
 |nil=>cases e;exact⟨rfl,q σ ad H R Grow.refl λ_ _=>rfl⟩
 |cons=>cases e)
def vX(h1:AG X kd a S1 g)(h2:Jb X kd es S2 gs)(hs:(assignEach (a::es) X.env).map (·.2)=assign a X.env::(assignEach es X.env).map (·.2)):Jb X kd (a::es) (S1++S2) (yC g gs):=by with_unfolding_all exact(FP (Hb h1 h2 hs) λvs σ H Q h=>by
 obtain⟨F,B,ad,as,ds,as',R,rp,e,q⟩:=h;cases rp with
 |nil=>cases e
 |cons r rr=>
  obtain⟨as1,e1,e⟩:=bS_<|e;refine⟨_,_,rfl,F,B,ad,as,_,as1,R,r,e1,λσ' ad' H' R' g' k'=>?_⟩;exact⟨F,B,ad',as1,_,as',R',rr.grow g',e,λσ2 ad2 H2 R2 g2 k2=>q σ2 ad2 H2 R2 (g'.trans g2) λj hj=>(k2 j λz=>hj<|zzL _ z).trans<|k' j λz=>hj<|zzP _ z⟩)
def P1{k n:Nat}(hc:X.calm=true)(h:Jb X kd es S gs)(hn:(assignEach es X.env).length=n)(hst:(assignEach es X.env).findIdx? (·.1)=none):AG X kd (.Tuple es k pos) S (gT n gs):=by
 with_unfolding_all (
 intro pins s σ H v u Q I r hw;obtain⟨F,B,ad,as,⟨st,d⟩,as',R,rp,e,q⟩:=hw;cases d with
 |tup ds=>
  have e:(if ds.length=n then gs (kids st ds) as else none)=some as':=e
  by_cases hl:ds.length=n
  . rw[if_pos hl]at e;have go:∃a xs,v = .ref a/\Q8 X.K H a xs/\RpL X.K kd (Lv F B (Gw [] ad) st) H xs ds:=by
     cases rp with
     |tup n h r=>exact⟨_,_,rfl,.inl<|.inl h,r⟩
    obtain⟨a,xs,rfl,hs,rl⟩:=go;exact As hc h hn hst pins s σ H _ u Q I r ⟨a,xs,rfl,hs,by rw[rl.length,hl],F,B,ad,as,_,as',R,Wb rl,e,q⟩
  . rw[if_neg hl]at e;cases e
 |lst ds=>
  have e:(if ds.length=n then gs (kids st ds) as else none)=some as':=e
  by_cases hl:ds.length=n
  . rw[if_pos hl]at e;cases rp with
    |lstK a b c r'=>exact So hc h hn hst pins s σ H _ u Q I r ⟨_,_,rfl,.inr ⟨_,_,_,a,rfl,rfl,rfl,b,c⟩,by rw[r'.length,hl],F,B,ad,as,_,as',R,Wb r',e,q⟩
    |lst n h' r'=>exact So hc h hn hst pins s σ H _ u Q I r ⟨_,_,rfl,.inl h',by rw[r'.length,hl],F,B,ad,as,_,as',R,Wb r',e,q⟩
  . rw[if_neg hl]at e;cases e
 |_=>cases e)
def Ue(as:AS)(r:RV):Option (Z_×AS):=(OU as r.frz).bind λx=>match x.1 with | .lf st d=>some ((st,d),x.2)|_=>none
def Wi{K}{F B}{T}{ad}{as as'}{σ}{H}{v}{r}{x}(R:Rel K kd F B T ad as σ H)(h:x_ K kd F B T ad σ H v r)(e:Ue as r=some (x,as')):
 ∃ad',Rel K kd F B [] ad' as' σ H/\Rp K kd (Lv F B (Gw [] ad') x.1) H v x.2/\∀a,Gw [] ad' a->Gw T ad a:=by
 obtain⟨⟨o,as1⟩,h1,e⟩:=bS_ e;obtain⟨ad1,R1,ro,le⟩:=TV R.drop (x_.drop R h) h1;cases o with
 |lf st d=>
  cases e;refine⟨ad1,R1, ?_,λa y=>Gw.drop a<|le a y⟩;have:=Lm ro;exact this
 |nd k os=>cases e
def XY(f:EF)(g:GF):SF:=λas=>(f as).bind λp=>(Ue p.2 p.1).bind λq=>(g q.1 q.2).bind λas'=>some<|.nx as'
def DM(he:AE X kd e fa)(hg:AG X kd tg S g)(hs:swapsWithSole [tg] e pos.line X.env=pure false)(hw:swappedStores [tg] e X.env=pure none)(h1:(assignEach [tg] X.env).map (·.2)=[assign tg X.env]):
 Pp X kd (.Assign [tg] e pos) (XY fa g):=by with_unfolding_all exact(wB (Ll he hg hs hw h1) λD σ H h=>by
 obtain⟨F,B,ad,as,o,R,e,q⟩:=h;obtain⟨⟨p,as1⟩,h1,e⟩:=bS_<|e;obtain⟨⟨x,as2⟩,h2,e⟩:=bS_ e;obtain⟨as3,h3,e⟩:=bS_ e;cases e;refine⟨F,B,ad,as,p,as1,R,h1,λv T' ad' H' R' rv g1=>?_⟩;obtain⟨ad2,R2,rp,le⟩:=Wi R' rv h2;exact⟨F,B,ad2,as2,_,as3,R2,rp,h3,λσ' ad' H' R' g' _=>q σ' ad' H' R'<|(g1.trans<|Grow.less le).trans g'⟩)
structure ItOk(K:zzA)(kd:KD)(F B:Addr->Prop)(ad:Ad)(H:Hp)(J:It)(ds:List Z_):Prop where
 all:∀(ad2:Ad) (H2:Hp),Grow (Gw [] ad) H (Gw [] ad2) H2->(∀st a,Lv F B (Gw [] ad2) st a->H2 a≠none)->∀i,(i<ds.length->J.go i H2)/\(ds.length<=i->J.stop i H2)/\
  ∀v H3,J.yld i H2 v H3->(∀b o,H2 b=some o->H3 b=some o)/\∀x,ds[i]? = some x->Rp K kd (Lv F B (Gw [] ad2) x.1) H3 v x.2
abbrev IF:=AS->Option (List Z_×AS)
def oU(K:zzA)(kd:KD)(f:IF):TI:=λσ H R=>∃F B ad as ds as',Rel K kd F B [] ad as σ H/\f as=some (ds,as')/\
 ∀J ad' H',Rel K kd F B [] ad' as' σ H'->Grow (Gw [] ad) H (Gw [] ad') H'->ItOk K kd F B ad' H' J ds->R J H'
@[irreducible] def AI(X:Cx)(kd:KD)(tg iter:Expr)(f:IF):Prop:=PI X tg iter<|oU X.K kd f
def forL(g:GF)(f:SF):List Z_->AS->Option Out
 | [],as=>some (.nx as)
 |d::r,as=>(g d as).bind λas1=>(f as1).bind λo=>match o with
  | .nx as'=>forL g f r as'
  | .ct as'=>forL g f r as'
  | .bk as'=>some<|.nx as'
  | .rt r=>some<|.rt r
def yS(fi:IF)(g:GF)(f:SF):SF:=λas=>(fi as).bind λp=>forL g f p.1 p.2
def PJ(hp:PassesOwn (model X.prog X.w) X.A X.env X.xe)(hc:X.calm=true)(hi:AI X kd tg iter fi)(hg:AG X kd tg S g)(hb:Mw X kd body f)(hs:∀x,foldedSetIterable iter X.env x=pure x):
 Pp X kd (.For tg iter body [] pos) (yS fi g f):=by with_unfolding_all exact(wB (A5 hp hc hi hg hb hs) λD σ H h=>by
 obtain⟨F,B,ad,as,o,R,e,q⟩:=h;obtain⟨⟨ds,as1⟩,h1,e⟩:=bS_<|e;refine⟨F,B,ad,as,ds,as1,R,h1,λJ ad1 H1 R1 g1 it=>?_⟩;refine⟨λi m σ2 H2=>m+i=ds.length/\∃ad2 as2,Rel X.K kd F B [] ad2 as2 σ2 H2/\Grow (Gw [] ad1) H1 (Gw [] ad2) H2/\forL g f (ds.drop i) as2=some o,⟨ds.length,rfl,ad1,as1,R1,Grow.refl,e⟩, ?_⟩
 rintro i m σ2 H2 ⟨hm,ad2,as2,R2,g2,e2⟩
 obtain⟨k1,k2,k3⟩:=it.all ad2 H2 g2 R2.trk i
 by_cases hi:i<ds.length
 . refine .inr ⟨k1 hi,λσ3 H3=>∃ad3 as3,Rel X.K kd F B [] ad3 as3 σ3 H3/\Grow (Gw [] ad1) H1 (Gw [] ad3) H3/\forL g f (ds.drop<|i+1) as3=some o,λσ3 H3 ⟨ad3,as3,R3,g3,e3⟩=>⟨m-1,by omega,by omega,ad3,as3,R3,g3,e3⟩,λv H3 hy=>?_⟩;obtain⟨kp,rp⟩:=k3 v H3 hy;rw[zyQ hi]at e2;obtain⟨as3,e3,e2⟩:=bS_<|e2;obtain⟨o3,e4,e2⟩:=bS_ e2;obtain⟨R3,g3⟩:=R2.more kp;refine⟨F,B,ad2,as2,_,as3,R3,rp _<|zzE hi,e3,λσ4 ad4 H4 R4 g4 _=>?_⟩;refine⟨F,B,ad4,as3,o3,R4,e4, ?_⟩;have gg:=(g2.trans g3).trans g4;cases o3 with
   |nx as5=>exact λσ5 ad5 H5 R5 g5=>⟨ad5,as5,R5,gg.trans g5,e2⟩
   |ct as5=>exact λσ5 ad5 H5 R5 g5=>⟨ad5,as5,R5,gg.trans g5,e2⟩
   |bk as5=>
    cases e2;exact λσ5 ad5 H5 R5 g5=>q σ5 ad5 H5 R5 (g1.trans<|gg.trans g5)
   |rt r=>
    cases e2;exact λv T H5 ro g5=>q v T H5 ro<|g1.trans<|gg.trans g5
 . refine .inl ⟨k2 (by omega), ?_⟩;rw[List.drop_eq_nil_of_le<|by omega]at e2;cases e2;exact q σ2 ad2 H2 R2<|g1.trans g2)
def B4(c:TF)(f:SF):Nat->AS->Option Out
 |0,_=>none
 |n+1,as=>(c as).bind λp=>if p.1=true then(f p.2).bind λo=>match o with
  | .nx as'=>B4 c f n as'
  | .ct as'=>B4 c f n as'
  | .bk as'=>some<|.nx as'
  | .rt r=>some (.rt r)else some<|.nx p.2
def NL(hp:PassesOwn (model X.prog X.w) X.A X.env X.xe)(hc:AT X kd c ta)(hb:Mw X kd body f):Pp X kd (.While c body [] pos) (B4 ta f n):=by with_unfolding_all exact(wB (Og hp hc hb) λD σ H h=>by
 obtain⟨F,B,ad,as,o,R,e,q⟩:=h;refine⟨λm σ2 H2=>∃ad2 as2,Rel X.K kd F B [] ad2 as2 σ2 H2/\Grow (Gw [] ad) H (Gw [] ad2) H2/\B4 ta f m as2=some o,⟨n,ad,as,R,Grow.refl,e⟩, ?_⟩
 rintro m σ2 H2 ⟨ad2,as2,R2,g2,e2⟩
 cases m with
 |zero=>cases e2
 |succ m=>
  obtain⟨⟨p,as3⟩,e3,e2⟩:=bS_<|e2;refine⟨F,B,ad2,as2,p,as3,R2,e3,λad3 H3 R3 g3=>?_⟩;cases p with
  |true=>
   rw[if_pos rfl]at e2 ⊢;obtain⟨o3,e4,e2⟩:=bS_ e2;refine⟨λσ3 H3=>∃ad3 as3,Rel X.K kd F B [] ad3 as3 σ3 H3/\Grow (Gw [] ad) H (Gw [] ad3) H3/\B4 ta f m as3=some o,λσ3 H3 h=>⟨m,by omega,h⟩,F,B,ad3,as3,o3,R3,e4, ?_⟩;have gg:=g2.trans g3;cases o3 with
   |nx as5=>exact λσ5 ad5 H5 R5 g5=>⟨ad5,as5,R5,gg.trans g5,e2⟩
   |ct as5=>exact λσ5 ad5 H5 R5 g5=>⟨ad5,as5,R5,gg.trans g5,e2⟩
   |bk as5=>
    cases e2;exact λσ5 ad5 H5 R5 g5=>q σ5 ad5 H5 R5 (gg.trans g5)
   |rt r=>
    cases e2;exact λv T H5 ro g5=>q v T H5 ro (gg.trans g5)
  |false=>
   rw[if_neg zyW]at e2 ⊢;cases e2;exact q σ2 ad3 H3 R3<|g2.trans g3)
def N7:Z_->Option (List Z_)
 |(st,.lst ds)=>some (kids st ds)
 |(st,.tup ds)=>some (kids st ds)
 |_=>none
def XA(f:EF):IF:=λas=>(f as).bind λp=>(Ue p.2 p.1).bind λq=>(N7 q.1).bind λds=>some (ds,q.2)
def E3{K}{F B}{ad}{H}{a}{vs}{ds}(hs:∀(ad3:Ad) (H3:Hp),Grow (Gw [] ad) H (Gw [] ad3) H3->Xr K H3 a vs)(r:RpI K kd F B (Gw [] ad) H vs ds):ItOk K kd F B ad H (sE K a) ds:=⟨λad3 H3 g3 _ i=>by
 have hr3:=hs ad3 H3 g3;have rl3:=r.grow g3;refine⟨λhi=>?_,λhi=>⟨_,hr3,by rw[r.length];exact hi⟩,λv H4 hy=>?_⟩
 . obtain⟨u,hu,_⟩:=r.get<|zzE hi;exact⟨_,u,hr3,hu⟩
 . obtain⟨rfl,hv⟩:=hy;refine⟨λ_ _ z=>z,λd hd=>?_⟩;obtain⟨u,hu,ru⟩:=rl3.get hd;have:=hv _ hr3;rw[hu]at this;cases this;exact ru⟩
def JG{K}{F B}{ad}{H}{a}{vs}{ds}(hs:∀(ad3:Ad) (H3:Hp),Grow (Gw [] ad) H (Gw [] ad3) H3->Q8 K H3 a vs)(r:RpI K kd F B (Gw [] ad) H vs ds):ItOk K kd F B ad H (sH K a) ds:=⟨λad3 H3 g3 _ i=>by
 have hr3:=hs ad3 H3 g3;have rl3:=r.grow g3;refine⟨λhi=>?_,λhi=>⟨_,hr3,by rw[r.length];exact hi⟩,λv H4 hy=>?_⟩
 . obtain⟨u,hu,_⟩:=r.get<|zzE hi;exact⟨_,u,hr3,hu⟩
 . obtain⟨rfl,hv⟩:=hy;refine⟨λ_ _ z=>z,λd hd=>?_⟩;obtain⟨u,hu,ru⟩:=rl3.get hd;have:=hv _ hr3;rw[hu]at this;cases this;exact ru⟩
def Jz(he:AE X kd e fa):AI X kd tg e (XA fa):=by
 with_unfolding_all (
 intro pins s σ H R I h;obtain⟨F,B,ad,as,ds,as',Rl,e,q⟩:=h;obtain⟨⟨p,as1⟩,h1,e⟩:=bS_<|e;obtain⟨⟨⟨st,x⟩,as2⟩,h2,e⟩:=bS_ e;obtain⟨ys,h3,e⟩:=bS_ e;cases e;cases x with
 |lst xs=>
  cases h3;refine KR he pins s σ H R I ⟨F,B,ad,as,p,as1,Rl,h1,λv T1 ad1 H1 R1 rv1 g1=>?_⟩;obtain⟨ad2,R2,rp,le⟩:=Wi R1 rv1 h2;cases rp with
  |lst hn hr rl=>exact⟨_,rfl,⟨_,.inl hr⟩,q _ ad2 H1 R2 (g1.trans<|Grow.less le)<|E3 (λad3 H3 g3=>.inl<|VN g3 (λz=>hn<|.inr z) hr)<|Wb rl⟩
  |lstK a b c rl=>exact⟨_,rfl,⟨_,.inr ⟨_,_,_,a,rfl,rfl,rfl,b,c⟩⟩,q _ ad2 H1 R2 (g1.trans<|Grow.less le)<|E3 (λad3 H3 g3=>.inr ⟨_,_,_,a,rfl,rfl,rfl,b,c⟩)<|Wb rl⟩
 |tup xs=>
  cases h3;refine Er he pins s σ H R I ⟨F,B,ad,as,p,as1,Rl,h1,λv T1 ad1 H1 R1 rv1 g1=>?_⟩;obtain⟨ad2,R2,rp,le⟩:=Wi R1 rv1 h2;have go:∃a ys,v = .ref a/\(∀(ad3:Ad) (H3:Hp),Grow (Gw [] ad2) H1 (Gw [] ad3) H3->Q8 X.K H3 a ys)/\RpL X.K kd (Lv F B (Gw [] ad2) st) H1 ys xs:=by
   cases rp with
   |tup n h r=>exact⟨_,_,rfl,λad3 H3 g3=>.inl<|VN g3 (λz=>n<|.inr z)<|.inl h,r⟩
  obtain⟨a,ys,rfl,hs,rl⟩:=go;exact⟨_,rfl,⟨_,hs ad2 H1 Grow.refl⟩,q _ ad2 H1 R2 (g1.trans<|Grow.less le)<|JG hs<|Wb rl⟩
 |_=>cases h3)
def xb(lo:Int)(n:Nat):List Z_:=(List.range n).map λ(i:Nat)=>(true,D.int<|lo+(i:Int))
def JX{K}{F B}{ad}{H}(lo)(n:Nat):ItOk K kd F B ad H (sf lo n) (xb lo n):=⟨λad2 H2 g _ i=>by
 have hl:(xb lo n).length=n:=by unfold xb;simp
 refine⟨λhi=>by rw[hl]at hi;exact hi,λhi=>by rw[hl]at hi;exact hi,λv H3 hy=>?_⟩;obtain⟨rfl,rfl⟩:=hy;refine⟨λ_ _ z=>z,λd hd=>?_⟩;have hi:i<n:=by rw[<-hl];exact(zzG.mp hd).1
 unfold xb at hd;rw[zzI,List.getElem?_range hi]at hd;cases hd;exact .int _⟩
def u0:List D->Option D
 | [x]=>some x
 |_=>none
def Iu(h:u0 ds=some d):ds=[d]:=by
 cases ds with
 |nil=>cases h
 |cons x r=>
  cases r with
  |nil=>cases h;rfl
  |cons _ _=>cases h
def ya(ds:List D):Option (List Z_):=((u0 ds).bind Nh).bind λj=>if -(2 ^ 62)<=j/\j<2 ^ 62 then some (xb 0 j.toNat)else none
def Fl(h:ya ds=some xs):∃j,ds=[.int j]/\(if -(2 ^ 62)<=j/\j<2 ^ 62 then some (xb 0 j.toNat)else none)=some xs:=by
 obtain⟨j,h1,h⟩:=bS_ h;obtain⟨d,h2,h1⟩:=bS_ h1;cases Lu h1;exact⟨j,Iu h2,h⟩
def z_(fr:AF)(h:List D->Option (List Z_)):IF:=λas=>(fr as).bind λp=>(views p.2 p.1).bind λds=>(h ds.1).bind λxs=>some (xs,p.2)
def G0(hg:Gl X "range")(hm:X.mg "range"=none)(ha:AA X kd [a] fr)(hs:starEach [a] X.env=[(false,eval a X.env)]):AI X kd tg (.Call (.Name "range" p) [a] [] pos) (z_ fr ya):=by
 with_unfolding_all (
 intro pins s σ H R I h;obtain⟨F,B,ad,as,ds,as',Rl,e,q⟩:=h;obtain⟨⟨ps,as1⟩,h1,e⟩:=bS_<|e;obtain⟨⟨xs,lv⟩,h2,e⟩:=bS_ e;obtain⟨ys,h3,e⟩:=bS_ e;cases e;obtain⟨j,rfl,h3⟩:=Fl h3
 . obtain⟨hj,e3⟩:=zM h3;cases e3;refine GT hg hm ha hs pins s σ H R I ⟨F,B,ad,as,ps,_,Rl,h1,λvs ad1 H1 R1 rv1 g1=>?_⟩;have vl:=Wk R1 rv1 h2;cases vl with
   |cons v1 v2=>
    cases v2;cases v1;exact⟨j,rfl,hj.1,hj.2,q _ ad1 H1 R1 g1<|JX 0 _⟩)
def Rel.mut{K}{F B}{T fo}{ad}{as}{σ}{H}{i:Nat}{l}{fp fp'}{n}{u}(R:Rel K kd F B T ad as σ H)(hi:i<as.length)(hl:ad i=l::fp)(hs:σ[i]? = some (some<|.ref l))
 (hsub:∀a ∈ fp'++fo,a ∈ fp++T) (hnd:(fp'++fo).Nodup) (hu:H l≠none)
 (ro:∀(H':Hp) (G':Addr->Prop),H' l=some u->Grow (Gw T ad) H G' H'->(∀a ∈ fp',∀w,H a=some w->H' a=some w)->xY K kd F B G' H' (.ref l) n (l::fp')):
 Rel K kd F B fo (xO ad i (l::fp')) (as.set i<|some n) σ (upd H l u)/\Grow (Gw T ad) H (Gw fo<|xO ad i (l::fp')) (upd H l u):=by
 have hli:l ∈ ad i:=by rw[hl];exact zzF
 have lT:=R.dis i l hli;have lfp:l ∉ fp:=by have:=R.nd i;rw[hl]at this;exact(zzW.mp this).1
 have lsub:∀a ∈ fp'++fo,a≠l:=λa m e=>by
  subst e
  rcases zzM.mp (hsub _ m)with z|z
  . exact lfp z
  . exact lT z
 have sub:∀a ∈ fp'++fo,Gw T ad a:=λa m=>by
  rcases zzM.mp (hsub a m)with z|z
  . exact .inr ⟨i,by rw[hl];exact zzD _ z⟩
  . exact .inl z
 have gsub:∀a,Gw fo (xO ad i (l::fp')) a->Gw T ad a:=λa z=>by
  rcases z with z|⟨j,z⟩
  . exact sub a<|zzL _ z
  . by_cases e:j=i
    . subst e;rw[zY]at z
      rcases zzC.mp z with z|z
      . subst z;exact .inr ⟨j,hli⟩
      . exact sub a<|zzP _ z
    . rw[yb e]at z;exact .inr ⟨j,z⟩
 have g:Grow (Gw T ad) H (Gw fo<|xO ad i (l::fp')) (upd H l u):=⟨λb w h n=>by rw[zJ λe=>n<|by subst e;exact .inr ⟨i,hli⟩];exact h,λb z=>.inl<|gsub b z⟩;have kn:∀a,H a≠none->upd H l u a≠none:=λa z=>by
  by_cases e:a=l
  . subst e;rw[yp];simp
  . rw[zJ e];exact z
 obtain⟨hnd1,hnd2,hnd3⟩:=zxF.mp hnd;have inT:∀j a,j≠i->a ∈ ad j->a ∈ fp'++fo->False:=λj a hj m m'=>by
  rcases zzM.mp (hsub a m')with z|z
  . exact hj (R.inj j i a m<|by rw[hl];exact zzD _ z)
  . exact R.dis j a m z
 refine⟨⟨by rw[zzU];exact R.len,λj hj=>?_,λj=>?_,λj k a h1 h2=>?_,hnd2,λj a h1 h2=>?_,λa z=>kn a<|R.ftr a z,λa z=>?_,λa z=>⟨kn a (R.gtr a<|gsub a z).1,(R.gtr a<|gsub a z).2⟩,λj s e=>?_⟩,g⟩
 . rw[zzU]at hj;rw[yb<|by omega];exact R.out j hj
 . by_cases e:j=i
   . subst e;rw[zY];exact zzW.mpr ⟨λm=>lsub l (zzP _ m) rfl,hnd1⟩
   . rw[yb e];exact R.nd j
 . by_cases e:j=i
   . subst e
     by_cases e':k=j
     . exact e'.symm
     . rw[zY]at h1;rw[yb e']at h2
       rcases zzC.mp h1 with z|z
       . subst z;exact R.inj j k a hli h2
       . exact(inT k a e' h2<|zzP _ z).elim
   . rw[yb e]at h1
     by_cases e':k=i
     . subst e';rw[zY]at h2
       rcases zzC.mp h2 with z|z
       . subst z;exact R.inj j k a h1 hli
       . exact(inT j a e h1<|zzP _ z).elim
     . rw[yb e']at h2;exact R.inj j k a h1 h2
 . by_cases e:j=i
   . subst e;rw[zY]at h1
     rcases zzC.mp h1 with z|z
     . subst z;exact lsub a (zzL _ h2) rfl
     . exact hnd3 a z a h2 rfl
   . rw[yb e]at h1;exact inT j a e h1<|zzL _ h2
 . obtain⟨b1,b2,b3⟩:=R.btr a z;exact⟨kn a b1,b2,λy=>b3<|gsub a y⟩
 . by_cases q:j=i
   . subst q;rw[zyK hi]at e;cases e;rw[zY];refine⟨_,hs,ro _ _ yp g λa m w h=>?_⟩;rw[zJ<|lsub a<|zzP _ m];exact h
   . rw[zzY<|Ne.symm q]at e;rw[yb q];refine(R.sl j s e).grow g λa m w h=>?_;rw[zJ λz=>q<|R.inj j i l (by rw[<-z];exact m) hli];exact h
abbrev MG:=List O->List O->Option (List O×O)
def yN(i:Nat)(fr:DF)(g:MG):EF:=λas=>match as[i]? with
 |some (some (.nd .ls _))=>(fr as).bind λp=>match p.2[i]? with
  |some (some (.nd .ls os))=>(g os p.1).bind λz=>some (.ow z.2,p.2.set i<|some<|.nd .ls z.1)
  |_=>none
 |_=>none
def u7(X:Cx)(kd:KD)(r:V->List V->Hp->VK->Prop)(g:MG):Prop:=
 ∀(F B G:Addr->Prop) (l:Addr) (vs ws:List V) (os es os':List O) (o:O) (fp fq:List Addr) (H:Hp) (Q:VK),H l=some (.lst vs)->vG X.K kd F B G H vs os fp->vG X.K kd F B G H ws es fq->(fp++fq).Nodup->g os es=some (os',o)->
  (∀v vs' fp' fo,vG X.K kd F B G H vs' os' fp'->xY X.K kd F B G H v o fo->(∀a ∈ fp'++fo,a ∈ fp++fq)->(fp'++fo).Nodup->Q v (upd H l<|.lst vs'))->r (.ref l) ws H Q
def sh{i:Nat}{fr}{g}{r}(hr:u7 X kd r g)
 {σ}{H}{Q}(h:al X.K kd (yN i fr g) σ H Q):qE X.K "list" r (Yi i) (pM X.K kd fr) σ H Q:=by
 obtain⟨F,B,ad,as,z,as',R,e,q⟩:=h;unfold yN at e;cases k:as[i]? with
 |none=>rw[k]at e;cases e
 |some a0=>
  rw[k]at e
  match a0,e,k with
  |some (.nd .ls os0),e,k=>
   obtain⟨⟨es,as1⟩,h1,e⟩:=bS_<|e;obtain⟨v0,hs0,ro0⟩:=R.sl i _ k;generalize hfp0:ad i=fp0 at ro0;cases ro0 with
   |ls hH0 rl0=>
   rename_i l vs0 fp00;refine⟨_,hs0,.inl ⟨rfl,_,.inl<|.inl hH0⟩,F,B,ad,as,es,as1,R,h1,λws T1 ad1 H1 R1 ro1 g1=>?_⟩;cases k2:as1[i]? with
   |none=>rw[k2]at e;cases e
   |some a2=>
    rw[k2]at e
    match a2,e,k2 with
    |some (.nd .ls os),e,k2=>
     obtain⟨⟨os',o⟩,h3,e⟩:=bS_<|e;cases e;obtain⟨v1,hs1,ro2⟩:=R1.sl i _ k2;rw[hs0]at hs1;cases hs1;generalize hfp:ad1 i=fp1 at ro2;cases ro2 with
     |ls hH rl=>
     rename_i vs fp;have hnd:=zxF.mpr ⟨by have:=R1.nd i;rw[hfp]at this;exact(zzW.mp this).2,R1.tnd,λa m b m' e=>by
          subst e;exact R1.dis i a (by rw[hfp];exact zzD _ m) m'⟩
     refine hr F B (Gw T1 ad1) _ vs ws os es os' o fp T1 H1 Q hH rl ro1 hnd h3 λv vs' fp' fo rl' ro' hsub hnd'=>?_;obtain⟨R3,g3⟩:=R1.mut (zzG.mp k2).1 hfp hs0 hsub hnd' (by rw[hH];simp) λH' G' hl' gr kp=>.ls hl'<|vG.grow gr kp rl';have lno:∀a ∈ fo,∀w,H1 a=some w->upd H1 l (.lst vs') a=some w:=λa m w h=>by
          rw[zJ λe=>?_]
          . exact h
          . subst e
            rcases zzM.mp (hsub _<|zzL _ m)with z|z
            . have:=R1.nd i;rw[hfp]at this;exact(zzW.mp this).1 z
            . exact R1.dis i _ (by rw[hfp];exact zzF) z
     exact q v fo _ _ R3 (xY.grow g3 lno ro')<|g1.trans g3
end
end PF
end
section
set_option exponentiation.threshold 5000
namespace PF
open PySem PySem.Spec PyProof.Rows L2
section
variable{K:zzA}{kd:KD}{O:Addr->Prop}{H:Hp}{Q:VK}
def yk(q:RQ K kd O H Q (.im d))(r:Rp K kd O H v d):Q v H:=q v H (λ_ _ z=>z) r
def FW(hp:H p=none)(r:RpL K kd O H vs ds):RpL K kd (QK O (· = p)) (upd H p o) vs ds:=
 RpL.grow ⟨λb u q _=>by rw[zJ<|yE q hp];exact q,λb z=>.inr<|by rw[z];exact hp⟩ (r.less λa z=>z.elim id False.elim)
def wW(hp:H p=none):∀b u,H b=some u->upd H p o b=some u:=λb u q=>by rw[zJ<|yE q hp];exact q
def QV(q:RQ K kd O H Q (.fl ds))(r:RpL K kd O H vs ds):∀p,H p=none->Q (.ref p) (upd H p<|.lst vs):=λp hp=>
 q p vs _ hp (wW hp) yp (FW hp r)
def Pi(ht:∀a,O a->H a≠none)(q:RQ K kd O H Q (.im<|.tup ds))(r:RpL K kd O H vs ds):∀p,H p=none->Q (.ref p) (upd H p<|.tup vs):=λp hp=>
 q _ _ (wW hp) (.tup (λz=>ht p z hp) yp<|(FW hp r).less λa z=>.inl z)
end
def big:Nat:=2 ^ 4000
def NT(h:i.natAbs<big):Builtin.Int.intBits i<=2 ^ 20:=by
 unfold Builtin.Int.intBits
 split
 . exact Nat.zero_le _
 . have:i.natAbs.log2<4000:=by
    rcases Nat.eq_zero_or_pos i.natAbs with h0|hp
    . rw[h0];decide
    . exact(Nat.log2_lt<|Nat.ne_of_gt hp).mpr h
   have e:(2:Nat) ^ 20=1048576:=by decide
   omega
def Ah(f:Int->Int->Option R0)(x y:D):Option R0:=(Nh x).bind λi=>(Nh y).bind λj=>f i j
def q9(x y:D):Option R0:=match x with
 | .int i=>(Nh y).bind λj=>some<|.im<|.int<|i+j
 | .str x=>(pS y).bind λy=>if x.length+y.length<=sizeLine then some (.im<|.str<|x++y)else none
 | .lst xs=>(IH y).bind λys=>if xs.length+ys.length<=sizeLine then some (.fl<|xs++ys)else none
 | .tup xs=>(pQ y).bind λys=>if xs.length+ys.length<=sizeLine then some (.im<|.tup<|xs++ys)else none
 |_=>none
def rG(x y:D):Option R0:=match x with
 | .int i=>(Nh y).bind λj=>if i.natAbs<big/\j.natAbs<big then some (.im<|.int<|i*j)else none
 | .lst xs=>(Nh y).bind λk=>if -(2 ^ 63)<=k/\k<2 ^ 63/\xs.length*k.toNat<=sizeLine then some (.fl (List.replicate k.toNat xs).flatten)else none
 | .tup xs=>(Nh y).bind λk=>if 1<=k/\k<2 ^ 63/\xs.length≠0/\xs.length*k.toNat<=sizeLine then some (.im<|.tup (List.replicate k.toNat xs).flatten)else none
 |_=>none
def Wt(o:Operator)(x y:D):Option R0:=match o with
 | .Add=>q9 x y
 | .Sub=>Ah (λi j=>some<|.im<|.int<|i-j) x y
 | .Mult=>rG x y
 | .FloorDiv=>Ah (λi j=>if 0<j/\j.natAbs<big then some (.im<|.int<|i/j)else none) x y
 | .Mod=>Ah (λi j=>if 0<j then some (.im<|.int<|i%j)else none) x y
 | .Pow=>Ah (λi j=>if 0<=j/\j<=1000000/\i.natAbs<2 ^ 64 then some (.im<|.int<|i ^ j.toNat)else none) x y
 |_=>none
def YF{K}{kd}{O}{H}{v}{d}{i}(h:Vw K kd O H v d)(e:Nh d=some i):d = .int i/\v = .int i:=by
 cases h with
 |int j=>cases e;exact⟨rfl,rfl⟩
 |_=>cases e
def J6{K}{kd}{O}{H}{v}{d}{i}(h:Vw K kd O H v d)(e:pS d=some i):d = .str i/\v = .str i:=by
 cases h with
 |str j=>cases e;exact⟨rfl,rfl⟩
 |_=>cases e
def YU{K}{kd}{O}{H}{v w}{d e}{f}{r}(vx:Vw K kd O H v d)(vy:Vw K kd O H w e)(h:Ah f d e=some r):∃i j,v = .int i/\w = .int j/\f i j=some r:=by
 obtain⟨i,h1,h⟩:=bS_<|h;obtain⟨j,h2,h⟩:=bS_ h;exact⟨i,j,(YF vx h1).2,(YF vy h2).2,h⟩
section
variable{X:Cx}{kd:KD}
def CF:Rr X (binaryOp .Add) (λx y H Q=>∃l b xs zs,x = .ref l/\y = .ref b/\Oc X.K H l xs/\Oc X.K H b zs/\xs.length+zs.length<=sizeLine/\∀p,H p=none->Q (.ref p) (upd H p<|.lst<|xs++zs)):=by
 intro pins s σ H x y v u Q I rx ry h;obtain⟨l,b,xs,zs,rfl,rfl,hH,hB,hz,q⟩:=h;cases rx;cases ry;obtain⟨z,its,n,r,e⟩:=MO I hH;obtain⟨z2,its2,n2,r2,e2⟩:=MO I hB;have hl:=r.length;have hl2:=r2.length;refine PySem.P.add_list e e2 ?_ (by rw[zzH,zzH];omega);have ea:its.toArray++its2.toArray=(its++its2).toArray:=by simp
 rw[ea];exact⟨.ref _,_,I.lnew (t':=s.toks) (r.append r2) (by rw[zzJ];omega),rfl,q _ I.fresh⟩
def CY:Rr X (binaryOp .Mult) (λx y H Q=>∃l k xs,x = .ref l/\y = .int k/\Oc X.K H l xs /\ -(2 ^ 63)<=k/\k<2 ^ 63/\xs.length*k.toNat<=sizeLine/\
 ∀p,H p=none->Q (.ref p) (upd H p<|.lst (List.replicate k.toNat xs).flatten)):=by
 intro pins s σ H x y v u Q I rx ry h;obtain⟨l,k,xs,rfl,rfl,hH,h1,h2,hz,q⟩:=h;cases rx;obtain⟨t,rfl⟩:=ry;obtain⟨z,its,n,r,e⟩:=MO I hH;have hl:=r.length;have hlen:its.toArray.size*k.toNat<=sizeLine:=by rw[zzH,<-hl];exact hz
 have hcap:¬its.toArray.size*k.toNat > (2 ^ 63-1)/8:=by
  have:sizeLine<=(2 ^ 63-1)/8:=by decide
  omega
 have hfit:¬(!Builtin.List.listFitsIndex k)=true:=by
  rw[fitsIndex_both h1 h2];exact zyW
 have hlong:¬Builtin.List.listTooLong (its.toArray.size*k.toNat)=true:=by
  rw[NP hlen];exact zyW
 have hnew:List.foldl (λx1 x2=>x1++x2) #[] (List.replicate (if its.toArray.isEmpty=true then 0 else k.toNat) its.toArray)=(List.replicate k.toNat its).flatten.toArray:=by
  have f0:=λm=>by
   have:=foldl_rep its m [];rw[List.nil_append]at this;exact this
  rw[f0];cases its with
  |nil=>simp
  |cons a r'=>rw[if_neg<|by simp]
 refine wpAny_binaryOp_repeat_ref (by decide) ⟨_,e,rfl⟩ (λs'=>typeIs_int s' k t) noFill_list_mul F.fills_int_mul F.slot_int_rmul repeat_list F.slot_int_index.lookup
  (call_meets F.slot_int_rmul (typeIs_int s k t) F.entry_int_rmul (F.args_int_rmul_2 _ _) (int___rmul___int_list k t l its.toArray n)
   ⟨e,rfl,⟨_,e,rfl⟩,call_meets F.slot_list_mul ⟨_,e,rfl⟩ F.entry_list_mul (F.args_list_mul_2 _ _) (AutoListH.list___mul___list_int_3 l its.toArray n k t hfit hcap hlong) ⟨e, ?_⟩⟩)
 rw[hnew];refine⟨.ref _,_,I.lnew (t':=s.toks) (r.rep k.toNat) ?_,rfl,q _ I.fresh⟩;rw[len_rep,Nat.mul_comm];exact hz
def tuple_addW0(l b)(items items2)(n n2:Nat)(dd dd2)(sl sl2)(h0:items.isEmpty=true):
 Meets (Builtin.«tuple.__add__» {pos:=[.ref l,.ref b]}) (λ_ R s=>s.heap.get? l=some {cls:=.type "tuple",dict:=dd,data:=.seq items n,slots:=sl}/\s.heap.get? b=some {cls:=.type "tuple",dict:=dd2,data:=.seq items2 n2,slots:=sl2}/\R (.ok<|.ret<|.ref b) s):=
 .of_wp λprog w A R s h=>by
  obtain⟨hp,g,d,tk,os⟩:=s;obtain⟨hl,hb,h⟩:=h;have f2:=AutoSeq1.sub_tuple_tuple
  wp_walk using wpAny_loadPart' hl,wpAny_loadPart' hb
  exact⟨_,rfl,h⟩
def Mo(l)(items)(n:Nat)(dd)(sl)(u):
 Meets (Builtin.«tuple.__mul__» {pos:=[.ref l,.int 1 u]}) (λ_ R s=>s.heap.get? l=some {cls:=.type "tuple",dict:=dd,data:=.seq items n,slots:=sl}/\R (.ok<|.ret<|.ref l) s):=
 .of_wp λprog w A R s h=>by
  obtain⟨hp,g,d,tk,os⟩:=s;obtain⟨hl,h⟩:=h;have f2:=AutoSeq1.sub_tuple_tuple
  wp_walk using wpAny_loadPart' hl
  exact⟨_,rfl,h⟩
def Mt(l)(items its2:Array Value)(n:Nat)(dd)(sl)(x)(u)(c1:¬(decide (x < -2 ^ 63)||decide (x ≥ 2 ^ 63))=true)(c2:¬(items.isEmpty||x==1)=true)(c3:¬(decide (x<=0)||items.isEmpty)=true)
 (hcap:¬(items.size:Int)*x > (2 ^ 63-1)/8) (ht:¬Builtin.Tuple.tupleTooMany (items.size*x)=true) (hz:¬(List.foldl (λx1 x2=>x1++x2) #[] (List.replicate x.toNat items)).size > sizeLine):
 Meets (Builtin.«tuple.__mul__» {pos:=[.ref l,.int x u]}) (λ_ R s=>s.heap.get? l=some {cls:=.type "tuple",dict:=dd,data:=.seq items n,slots:=sl}/\R (.ok<|.ret<|.ref s.heap.objs.size) {s with heap:=s.heap.push {cls:=.type "tuple",data:=.seq (List.foldl (λx1 x2=>x1++x2) #[] (List.replicate x.toNat items))}}):=
 .of_wp λprog w A R s h=>by
  obtain⟨hp,g,d,tk,os⟩:=s;obtain⟨hl,h⟩:=h;have f2:=AutoSeq1.sub_tuple_tuple
  wp_walk using wpAny_loadPart' hl
  rw[if_neg c1]
  wp_walk using wpAny_loadPart' hl
  rw[if_neg hcap]
  wp_walk
  exact⟨_,rfl,h⟩
def Ua:fillsNumberSlot (Value.type "tuple") "mul"=pure false:=PySem.fillsNumberSlot_seq rfl rfl rfl rfl
def K4:seqRepeat? (Value.type "tuple")=pure (some<|Value.builtin "tuple.__mul__"):=W.of_pureOf rfl
def PU(a)(t)(l)(items)(n:Nat)(dd)(sl):
 Meets (Builtin.«int.__rmul__» {pos:=[.int a t,.ref l]}) (λ_ R s=>s.heap.get? l=some {cls:=.type "tuple",dict:=dd,data:=.seq items n,slots:=sl}/\R (.ok<|.ret .notImplemented) s):=
 .of_wp λprog w A R s h=>by
  obtain⟨hp,g,d,tk,os⟩:=s;obtain⟨hl,h⟩:=h
  wp_walk using wpAny_load' hl,wpAny_loadPart' hl
  exact⟨_,rfl,h⟩
def Ig:Rr X (binaryOp .Add) (λx y H Q=>∃a b ys,x = .ref a/\y = .ref b/\Q8 X.K H a []/\Q8 X.K H b ys/\Q (.ref b) H):=by
 intro pins s σ H x y v u Q I rx ry h;obtain⟨a,b,ys,rfl,rfl,ha,hb,q⟩:=h;cases rx;cases ry;obtain⟨its,r1,p1,_⟩:=I.tuple ha;obtain⟨its2,r2,p2,_⟩:=I.tuple hb;cases r1;obtain⟨⟨cls,dd,data,sl⟩,ho,hc,n,hd⟩:=id p1;obtain⟨⟨cls2,dd2,data2,sl2⟩,ho2,hc2,n2,hd2⟩:=id p2;simp only at hc hd hc2 hd2;subst hc hd hc2 hd2;exact concat_meets ⟨_,ho,rfl⟩ ⟨_,ho2,rfl⟩ noFill_tuple_add seq_tuple_add PySem.F.slot_tuple_add PySem.F.entry_tuple_add (PySem.F.args_tuple_add_2 _ _) (tuple_addW0 a b _ _ n n2 dd dd2 sl sl2 rfl) ⟨ho,ho2,⟨.ref b,H,I,rfl,q⟩⟩
def Cd:Rr X (binaryOp .Mult) (λx y H Q=>∃l k xs,x = .ref l/\y = .int k/\Q8 X.K H l xs/\xs≠[]/\1<=k/\k<2 ^ 63/\xs.length*k.toNat<=sizeLine/\(k=1->Q (.ref l) H)/\
 (2<=k->∀p,H p=none->Q (.ref p) (upd H p<|.tup (List.replicate k.toNat xs).flatten))):=by
 intro pins s σ H x y v u Q I rx ry h;obtain⟨l,k,xs,rfl,rfl,hH,hne,h1,h2,hz,q1,q2⟩:=h;cases rx;obtain⟨t,rfl⟩:=ry;obtain⟨its,r,p,_⟩:=I.tuple hH;have hl:=r.length;have hlen:its.toArray.size*k.toNat<=sizeLine:=by rw[zzH,<-hl];exact hz
 have hki:((its.toArray.size:Int)*k)=((its.toArray.size*k.toNat:Nat):Int):=by
  rw[zzV,zyZ<|by omega]
 have he:its.toArray.isEmpty=false:=by
  cases its with
  |nil=>rw[List.length_nil]at hl;exact absurd (List.length_eq_zero_iff.mp hl) hne
  |cons a r'=>rfl
 have hnew:List.foldl (λx1 x2=>x1++x2) #[] (List.replicate k.toNat its.toArray)=(List.replicate k.toNat its).flatten.toArray:=by
  have:=foldl_rep its k.toNat [];rw[List.nil_append]at this;exact this
 obtain⟨⟨cls,dd,data,sl⟩,ho,hc,n,hd⟩:=id p;simp only at hc hd;subst hc hd;refine wpAny_binaryOp_repeat_ref (by decide) ⟨_,ho,rfl⟩ (λs'=>typeIs_int s' k t) Ua F.fills_int_mul F.slot_int_rmul K4 F.slot_int_index.lookup
  (call_meets F.slot_int_rmul (typeIs_int s k t) F.entry_int_rmul (F.args_int_rmul_2 _ _) (PU k t l its.toArray n dd sl) ⟨ho,rfl,⟨_,ho,rfl⟩, ?_⟩)
 by_cases hk:k=1
 . subst hk;exact call_meets F.slot_tuple_mul ⟨_,ho,rfl⟩ F.entry_tuple_mul (F.args_tuple_mul_2 _ _) (Mo l its.toArray n dd sl t) ⟨ho,⟨.ref l,H,I,rfl,q1 rfl⟩⟩
 . have hfl:(List.replicate k.toNat xs).flatten.length<=sizeLine:=by rw[len_rep,Nat.mul_comm];exact hz
   refine call_meets F.slot_tuple_mul ⟨_,ho,rfl⟩ F.entry_tuple_mul (F.args_tuple_mul_2 _ _) (Mt l its.toArray #[] n dd sl k t (by simp;omega) (by rw[he];simpa using hk) (by rw[he];simp;omega) ?_ ?_ ?_) ⟨ho, ?_⟩
   . rw[hki];have:(sizeLine:Int)<=(2 ^ 63-1)/8:=by decide
     omega
   . unfold Builtin.Tuple.tupleTooMany;rw[hki];simp only[gt_iff_lt,decide_eq_true_eq];omega
   . rw[hnew,zzH,len_rep,Nat.mul_comm];rw[zzH]at hlen;omega
   . rw[hnew];refine⟨.ref s.heap.objs.size,_,I.laid (t':=s.toks) (λb ob q=>zxI _ q) (zzN _) ?_,rfl,q2 (by omega) _<|I.hok.fresh<|zzN _⟩;exact⟨hfl,_,r.rep k.toNat,IsTup.new _ _⟩
def Aa(op):uB X kd (binaryOp op) (Wt op):=by
 intro pins s σ H x y v u Q I rx ry h;obtain⟨O,d,e,r,ht,vx,vy,he,q⟩:=h;cases op with
 |Add=>
  cases vx with
  |int i=>
   obtain⟨j,h1,he⟩:=bS_<|he;obtain⟨rfl,rfl⟩:=YF vy h1;cases he;exact J3 pins s σ H _ _ v u Q I rx ry ⟨_,_,rfl,rfl,yk q<|.int _⟩
  |str i=>
   obtain⟨j,h1,he⟩:=bS_<|he;obtain⟨rfl,rfl⟩:=J6 vy h1;obtain⟨c,rfl⟩:=zM he;exact Em pins s σ H _ _ v u Q I rx ry ⟨_,_,rfl,rfl,c,yk q<|.str _⟩
  |lst hx rx'=>
   obtain⟨j,h1,he⟩:=bS_<|he;cases VF h1;obtain⟨c,rfl⟩:=zM he;cases vy with
   |lst hy ry'=>exact CF pins s σ H _ _ v u Q I rx ry ⟨_,_,_,_,rfl,rfl,hx,hy,by rw[rx'.length,ry'.length];exact c,QV q<|rx'.append ry'⟩
  | @tup a1 vs1 ds1 r1 hx rx'=>
   obtain⟨j,h1,he⟩:=bS_<|he;cases Jt h1;obtain⟨c,rfl⟩:=zM he;cases vy with
   |tup r2 hy ry'=>
    by_cases h0:vs1=([]:List V)
    . subst h0;cases rx';exact Ig pins s σ H _ _ v u Q I rx ry ⟨_,_,_,rfl,rfl,hx,hy,yk q r2⟩
    refine C6 pins s σ H _ _ v u Q I rx ry ⟨_,_,_,_,rfl,rfl,hx,hy,h0,by rw[rx'.length,ry'.length];exact c,λhn=>?_,λhn=>Pi ht q<|rx'.append ry'⟩
    . subst hn;cases ry';rw[zyE]at q;exact yk q r1
  |_=>cases he
 |Sub=>
  obtain⟨i,j,rfl,rfl,he⟩:=YU vx vy he;cases he;exact J_ pins s σ H _ _ v u Q I rx ry ⟨_,_,rfl,rfl,yk q<|.int _⟩
 |Mult=>
  cases vx with
  |int i=>
   obtain⟨j,h1,he⟩:=bS_<|he;obtain⟨rfl,rfl⟩:=YF vy h1;obtain⟨c,rfl⟩:=zM he;obtain⟨t,rfl⟩:=rx;obtain⟨t',rfl⟩:=ry;exact mul_int ⟨.int _,H,I.tok _,⟨_,rfl⟩,yk q<|.int _⟩ (IntMulOk.of_bits (NT c.1)<|NT c.2)
  |lst hx rx'=>
   obtain⟨j,h1,he⟩:=bS_<|he;obtain⟨rfl,rfl⟩:=YF vy h1;obtain⟨c,rfl⟩:=zM he;exact CY pins s σ H _ _ v u Q I rx ry ⟨_,_,_,rfl,rfl,hx,c.1,c.2.1,by rw[rx'.length];exact c.2.2,QV q<|rx'.rep _⟩
  |tup r1 hx rx'=>
   obtain⟨j,h1,he⟩:=bS_<|he;obtain⟨rfl,rfl⟩:=YF vy h1;obtain⟨c,rfl⟩:=zM he;refine Cd pins s σ H _ _ v u Q I rx ry ⟨_,_,_,rfl,rfl,hx,λe=>?_,c.1,c.2.1,by rw[rx'.length];exact c.2.2.2,λe=>?_,λ_=>Pi ht q<|rx'.rep _⟩
   . have:=rx'.length;rw[e]at this;exact c.2.2.1 this.symm
   . subst e;refine yk q ?_;rw[show(1:Int).toNat=1 from rfl,List.replicate_one,List.flatten_cons,List.flatten_nil,zyE];exact r1
  |_=>cases he
 |FloorDiv=>
  obtain⟨i,j,rfl,rfl,he⟩:=YU vx vy he;obtain⟨c,rfl⟩:=zM he;obtain⟨t,rfl⟩:=rx;obtain⟨t',rfl⟩:=ry;refine floordiv_int (by omega) ?_<|.inl<|PyProof.noPylong_of_log2 ?_
  . rw[Int.fdiv_eq_ediv_of_nonneg _<|by omega];exact⟨.int _,H,I.tok _,⟨_,rfl⟩,yk q<|.int _⟩
  . exact zzK ((Nat.log2_lt<|by have:=c.1;omega).mpr<|c.2) (by decide)
 |Mod=>
  obtain⟨i,j,rfl,rfl,he⟩:=YU vx vy he;obtain⟨c,rfl⟩:=zM he;exact S6 pins s σ H _ _ v u Q I rx ry ⟨_,_,rfl,rfl,c,yk q<|.int _⟩
 |Pow=>
  obtain⟨i,j,rfl,rfl,he⟩:=YU vx vy he;obtain⟨c,rfl⟩:=zM he;exact Dn pins s σ H _ _ v u Q I rx ry ⟨_,_,rfl,rfl,c,yk q<|.int _⟩
 |_=>cases he
end
def GR(f:D->D->Option Bool):List D->List D->Option Bool
 | [],[]=>some true
 |x::r,y::t=>(f x y).bind λb=>(GR f r t).bind λc=>some (b&&c)
 |_,_=>some false
def xq:Nat->D->D->Option Bool
 |0,_,_=>none
 |_+1,.non,.non=>some true
 |_+1,.bl a,.bl b=>some (a==b)
 |_+1,.int a,.int b=>some (a==b)
 |_+1,.str a,.str b=>some (a==b)
 |_+1,.bl a,.int b=>some ((if a then 1 else 0)==b)
 |_+1,.int a,.bl b=>some (a==(if b then 1 else 0))
 |n+1,.lst xs,.lst ys=>GR (xq n) xs ys
 |n+1,.tup xs,.tup ys=>GR (xq n) xs ys
 |_+1,.dct _,_=>none
 |_+1,.cl _,_=>none
 |_+1,.ob _ _ _,_=>none
 |_+1,.dt _ _,_=>none
 |_+1,.er _ _ _,_=>none
 |_+1,_,.dct _=>none
 |_+1,_,.cl _=>none
 |_+1,_,.ob _ _ _=>none
 |_+1,_,.dt _ _=>none
 |_+1,_,.er _ _ _=>none
 |_+1,_,_=>some false
def OV(f:D->D->Option Bool)(xs ys:List D)(j:Nat):Bool:=match xs[j]?,ys[j]? with
 |some d,some e=>(f d e).getD false
 |_,_=>false
theorem T4:∀{xs ys:List D}{b:Bool},GR f xs ys=some b->(∀(j:Nat) d e,xs[j]? = some d->ys[j]? = some e->∃c,f d e=some c)/\
 b=((List.range<|min xs.length ys.length).all (OV f xs ys)&&xs.length==ys.length)
 | [],[],b,h=>by cases h;exact⟨λj d e h=>by simp at h,by simp⟩
 | [],y::t,b,h=>by cases h;exact⟨λj d e h=>by simp at h,by simp⟩
 |x::r,[],b,h=>by cases h;exact⟨λj d e _ h=>by simp at h,by simp⟩
 |x::r,y::t,b,h=>by
  obtain⟨b1,h1,h⟩:=bS_<|h;obtain⟨c1,h2,h⟩:=bS_ h;cases h;obtain⟨k1,k2⟩:=T4 h2;refine⟨λj d e hd he=>?_, ?_⟩
  . cases j with
    |zero=>simp at hd he;subst hd he;exact⟨b1,h1⟩
    |succ j=>exact k1 j d e (by simpa using hd) (by simpa using he)
  . have e0:min (x::r).length (y::t).length=min r.length t.length+1:=by simp only[zzT];omega
    rw[e0,List.range_succ_eq_map,List.all_cons,List.all_map,k2];have e1:OV f (x::r) (y::t) 0=b1:=by show(f x y).getD false=b1;rw[h1];rfl
    have e2:(OV f (x::r) (y::t)∘Nat.succ)=OV f r t:=by
     funext j;unfold OV;simp
    have e3:((x::r).length==(y::t).length)=(r.length==t.length):=by
     by_cases hh:r.length=t.length<;>simp[hh]
    rw[e1,e2,e3,Bool.and_assoc]
structure EqAll(A:Around)(s:Shared)(u v:Value)(b:Bool):Prop where
 rc:SeqAt.RcAt A s u v b
 ne:SeqAt.RcNeAt A s u v (!b)
 eq:SeqAt.EqAt A s u v b
section
variable{X:Cx}{kd:KD}{pins:List (Addr×Obj)}{σ:St}{H:Hp}{s:Shared}{O:Addr->Prop}
def Fe(I:Inv X pins σ H s)(h:Q8 X.K H a xs)(h':Xr X.K H a ys):False:=by
 obtain⟨_,_,⟨o,e,c,_⟩,_⟩:=I.tuple h;obtain⟨_,_,⟨o',n,e',c',_⟩,_⟩:=I.list h';rw[e]at e';cases e';rw[c]at c';exact absurd c' (by decide)
theorem FG(I:Inv X pins σ H s):∀(n:Nat) (v:V) (d e:D) (b:Bool),Vw X.K kd O H v d->Vw X.K kd O H v e->xq n d e=some b->b=true
 |0,_,_,_,_,_,_,h=>by cases h
 |n+1,v,d,e,b,h1,h2,h=>by
  have lst:∀(vs:List V) (ds es:List D) (b:Bool),RpL X.K kd O H vs ds->RpL X.K kd O H vs es->GR (xq n) ds es=some b->b=true:=by
   intro vs
   induction vs with
   |nil=>intro ds es b r1 r2 h;cases r1;cases r2;cases h;rfl
   |cons v vs ih=>
    intro ds es b r1 r2 h;cases r1 with
    |cons a1 r1=>
     cases r2 with
     | cons a2 r2=>
            obtain⟨b1,k1,h⟩:=bS_<|h;obtain⟨c1,k2,h⟩:=bS_ h;cases h;rw[FG I n _ _ _ _ a1.vw a2.vw k1,ih _ _ _ r1 r2 k2];rfl
  cases h1 with
  |non=>cases h2;cases h;rfl
  |bl x=>cases h2;cases h;simp
  |int x=>cases h2;cases h;simp
  |str x=>cases h2;cases h;simp
  |tup r1 s1 l1=>
   cases h2 with
   |tup r2 s2 l2=>
    have:=I.tuple_inj s1 s2;subst this;exact lst _ _ _ _ l1 l2 h
   |lst s2 l2=>exact(Fe I s1 s2.sq).elim
   |_=>cases h
  |lst s1 l1=>
   cases h2 with
   |tup r2 s2 l2=>exact(Fe I s2 s1.sq).elim
   |lst s2 l2=>
    have:=I.list_inj s1.sq s2.sq;subst this;exact lst _ _ _ _ l1 l2 h
   |_=>cases h
  |_=>cases h
theorem Lr(I:Inv X pins σ H s):∀(n:Nat) (A:Around) (x y:V) (d e:D) (u v:Value) (b:Bool),A.units+n<cLine->Vw X.K kd O H x d->Vw X.K kd O H y e->RelV x u->RelV y v->xq n d e=some b->EqAll A s u v b
 |0,_,_,_,_,_,_,_,_,_,_,_,_,_,h=>by cases h
 |n+1,A,x,y,d,e,u,v,b,hu,h1,h2,r1,r2,h=>by
  have hu0:A.units<cLine:=by omega
  have itm:∀{vs ws:List V}{its its2:List Value}{ds es:List D},RpL X.K kd O H vs ds->RpL X.K kd O H ws es->yd vs its->yd ws its2->(∀(j:Nat) d e,ds[j]? = some d->es[j]? = some e->∃c,xq n d e=some c)->
   ∀j h1 (h2:j<its2.toArray.size),SeqAt.EqAt A.in1 s its.toArray[j] its2.toArray[j] (OV (xq n) ds es j):=by
   intro vs ws its its2 ds es l1 l2 v1 v2 hd j j1 j2;have q1:j<ds.length:=by rw[<-l1.length,v1.length];simpa using j1
   have q2:j<es.length:=by rw[<-l2.length,v2.length];simpa using j2
   obtain⟨a1,ha1,ra1⟩:=l1.get<|zzE q1;obtain⟨a2,ha2,ra2⟩:=l2.get<|zzE q2;obtain⟨u1,hu1,ru1⟩:=v1.get ha1;obtain⟨u2,hu2,ru2⟩:=v2.get ha2;obtain⟨c,hc⟩:=hd j _ _ (zzE q1)<|zzE q2;have e1:its.toArray[j]=u1:=by
    have:=(zzG.mp hu1).2;simpa using this
   have e2:its2.toArray[j]=u2:=by
    have:=(zzG.mp hu2).2;simpa using this
   rw[e1,e2];have e3:OV (xq n) ds es j=c:=by
    unfold OV;rw[zzE q1,zzE q2];show(xq n _ _).getD false=c;rw[hc];rfl
   rw[e3];exact(Lr I n A.in1 a1 a2 _ _ u1 u2 c (by show A.units+1+n<cLine;omega) ra1.vw ra2.vw ru1 ru2 hc).eq
  have same:∀{a a':Addr},x = .ref a->y = .ref a'->a=a'->b=true:=by
   intro a a' e1 e2 e3;subst e1 e2 e3;exact FG I (n+1) _ _ _ _ h1 h2 h
  cases h1 with
  |non=>
   cases r1;cases h2 with
   |non=>cases r2;cases h;exact⟨SeqAt.RcAt.none_none,SeqAt.RcNeAt.none_none,SeqAt.EqAt.same _⟩
   |bl=>cases r2;cases h;exact⟨SeqAt.RcAt.none_bool _,SeqAt.RcNeAt.none_bool _,SeqAt.EqAt.none_bool _⟩
   |int=>obtain⟨t,rfl⟩:=r2;cases h;exact⟨SeqAt.RcAt.none_int _ _,SeqAt.RcNeAt.none_int _ _,SeqAt.EqAt.none_int _ _⟩
   |str=>obtain⟨t,rfl⟩:=r2;cases h;exact⟨SeqAt.RcAt.none_str _ _,SeqAt.RcNeAt.none_str _ _,SeqAt.EqAt.none_str _ _⟩
   |tup r s2 l2=>
    cases r2;cases h;obtain⟨its,rv,p,_⟩:=I.tuple s2;exact⟨SeqAt.RcAt.none_tuple p hu0,SeqAt.RcNeAt.none_tuple p hu0,SeqAt.EqAt.none_tuple p hu0⟩
   |lst s2 l2=>
    cases r2;cases h;obtain⟨its,rv,p,_⟩:=I.list s2.sq;exact⟨SeqAt.RcAt.none_list p.isList hu0,SeqAt.RcNeAt.none_list p.isList hu0,SeqAt.EqAt.none_list p.isList hu0⟩
   |_=>cases h
  |bl c=>
   cases r1;cases h2 with
   |non=>cases r2;cases h;exact⟨SeqAt.RcAt.bool_none _,SeqAt.RcNeAt.bool_none _,SeqAt.EqAt.bool_none _⟩
   |bl=>cases r2;cases h;exact⟨SeqAt.RcAt.bool_bool _ _,SeqAt.RcNeAt.bool_bool _ _,SeqAt.EqAt.bool_bool _ _⟩
   |int=>obtain⟨t,rfl⟩:=r2;cases h;exact⟨SeqAt.RcAt.bool_int _ _ _,SeqAt.RcNeAt.bool_int _ _ _,SeqAt.EqAt.bool_int _ _ _⟩
   |str=>obtain⟨t,rfl⟩:=r2;cases h;exact⟨SeqAt.RcAt.bool_str _ _ _,SeqAt.RcNeAt.bool_str _ _ _,SeqAt.EqAt.bool_str _ _ _⟩
   |tup r s2 l2=>
    cases r2;cases h;obtain⟨its,rv,p,_⟩:=I.tuple s2;exact⟨SeqAt.RcAt.bool_tuple _ p hu0,SeqAt.RcNeAt.bool_tuple _ p hu0,SeqAt.EqAt.bool_tuple _ p hu0⟩
   |lst s2 l2=>
    cases r2;cases h;obtain⟨its,rv,p,_⟩:=I.list s2.sq;exact⟨SeqAt.RcAt.bool_list _ p.isList hu0,SeqAt.RcNeAt.bool_list _ p.isList hu0,SeqAt.EqAt.bool_list _ p.isList hu0⟩
   |_=>cases h
  |int c=>
   obtain⟨t0,rfl⟩:=r1;cases h2 with
   |non=>cases r2;cases h;exact⟨SeqAt.RcAt.int_none _ _,SeqAt.RcNeAt.int_none _ _,SeqAt.EqAt.int_none _ _⟩
   |bl=>cases r2;cases h;exact⟨SeqAt.RcAt.int_bool _ _ _,SeqAt.RcNeAt.int_bool _ _ _,SeqAt.EqAt.int_bool _ _ _⟩
   |int=>obtain⟨t,rfl⟩:=r2;cases h;exact⟨SeqAt.RcAt.int_int _ _ _ _,SeqAt.RcNeAt.int_int _ _ _ _,SeqAt.EqAt.int_int _ _ _ _⟩
   |str=>obtain⟨t,rfl⟩:=r2;cases h;exact⟨SeqAt.RcAt.int_str _ _ _ _,SeqAt.RcNeAt.int_str _ _ _ _,SeqAt.EqAt.int_str _ _ _ _⟩
   |tup r s2 l2=>
    cases r2;cases h;obtain⟨its,rv,p,_⟩:=I.tuple s2;exact⟨SeqAt.RcAt.int_tuple _ _ p hu0,SeqAt.RcNeAt.int_tuple _ _ p hu0,SeqAt.EqAt.int_tuple _ _ p hu0⟩
   |lst s2 l2=>
    cases r2;cases h;obtain⟨its,rv,p,_⟩:=I.list s2.sq;exact⟨SeqAt.RcAt.int_list _ _ p.isList hu0,SeqAt.RcNeAt.int_list _ _ p.isList hu0,SeqAt.EqAt.int_list _ _ p.isList hu0⟩
   |_=>cases h
  |str c=>
   obtain⟨t0,rfl⟩:=r1;cases h2 with
   |non=>cases r2;cases h;exact⟨SeqAt.RcAt.str_none _ _,SeqAt.RcNeAt.str_none _ _,SeqAt.EqAt.str_none _ _⟩
   |bl=>cases r2;cases h;exact⟨SeqAt.RcAt.str_bool _ _ _,SeqAt.RcNeAt.str_bool _ _ _,SeqAt.EqAt.str_bool _ _ _⟩
   |int=>obtain⟨t,rfl⟩:=r2;cases h;exact⟨SeqAt.RcAt.str_int _ _ _ _,SeqAt.RcNeAt.str_int _ _ _ _,SeqAt.EqAt.str_int _ _ _ _⟩
   |str=>obtain⟨t,rfl⟩:=r2;cases h;exact⟨SeqAt.RcAt.str_str _ _ _ _,SeqAt.RcNeAt.str_str _ _ _ _,SeqAt.EqAt.str_str _ _ _ _⟩
   |tup r s2 l2=>
    cases r2;cases h;obtain⟨its,rv,p,_⟩:=I.tuple s2;exact⟨SeqAt.RcAt.str_tuple _ _ p hu0,SeqAt.RcNeAt.str_tuple _ _ p hu0,SeqAt.EqAt.str_tuple _ _ p hu0⟩
   |lst s2 l2=>
    cases r2;cases h;obtain⟨its,rv,p,_⟩:=I.list s2.sq;exact⟨SeqAt.RcAt.str_list _ _ p.isList hu0,SeqAt.RcNeAt.str_list _ _ p.isList hu0,SeqAt.EqAt.str_list _ _ p.isList hu0⟩
   |_=>cases h
  | @tup a1 vs1 ds1 r s1 l1=>
   cases r1;obtain⟨its1,rv1,p1,_⟩:=I.tuple s1;cases h2 with
   |non=>cases r2;cases h;exact⟨SeqAt.RcAt.tuple_none p1 hu0,SeqAt.RcNeAt.tuple_none p1 hu0,SeqAt.EqAt.tuple_none p1 hu0⟩
   |bl=>cases r2;cases h;exact⟨SeqAt.RcAt.tuple_bool _ p1 hu0,SeqAt.RcNeAt.tuple_bool _ p1 hu0,SeqAt.EqAt.tuple_bool _ p1 hu0⟩
   |int=>obtain⟨t,rfl⟩:=r2;cases h;exact⟨SeqAt.RcAt.tuple_int _ _ p1 hu0,SeqAt.RcNeAt.tuple_int _ _ p1 hu0,SeqAt.EqAt.tuple_int _ _ p1 hu0⟩
   |str=>obtain⟨t,rfl⟩:=r2;cases h;exact⟨SeqAt.RcAt.tuple_str _ _ p1 hu0,SeqAt.RcNeAt.tuple_str _ _ p1 hu0,SeqAt.EqAt.tuple_str _ _ p1 hu0⟩
   | @tup a2 vs2 ds2 r' s2 l2=>
    cases r2;obtain⟨its2,rv2,p2,_⟩:=I.tuple s2;obtain⟨k1,k2⟩:=T4 h;have he:=itm l1 l2 rv1 rv2 k1;have eb:((List.range<|min its1.toArray.size its2.toArray.size).all (OV (xq n) ds1 ds2)&&its1.toArray.size==its2.toArray.size)=b:=by
     rw[k2,zzH,zzH,<-rv1.length,<-rv2.length,l1.length,l2.length]
    have b1:=SeqAt.RcAt.tuples p1 p2 hu0 he;have b2:=SeqAt.RcNeAt.tuples p1 p2 hu0 he;rw[eb]at b1 b2;refine⟨b1,b2, ?_⟩
    by_cases ha:a1=a2
    . have hb:=same rfl rfl ha;subst ha;rw[hb];exact SeqAt.EqAt.same _
    . exact SeqAt.EqAt.of_refs ha b1
   |lst s2 l2=>
    cases r2;cases h;obtain⟨its,rv,p,_⟩:=I.list s2.sq;exact⟨SeqAt.RcAt.tuple_list p1 p.isList hu0,SeqAt.RcNeAt.tuple_list p1 p.isList hu0,SeqAt.EqAt.tuple_list p1 p.isList hu0⟩
   |_=>cases h
  | @lst a1 vs1 ds1 s1 l1=>
   cases r1;obtain⟨its1,rv1,p1,_⟩:=I.list s1.sq;cases h2 with
   |non=>cases r2;cases h;exact⟨SeqAt.RcAt.list_none p1.isList hu0,SeqAt.RcNeAt.list_none p1.isList hu0,SeqAt.EqAt.list_none p1.isList hu0⟩
   |bl=>cases r2;cases h;exact⟨SeqAt.RcAt.list_bool _ p1.isList hu0,SeqAt.RcNeAt.list_bool _ p1.isList hu0,SeqAt.EqAt.list_bool _ p1.isList hu0⟩
   |int=>obtain⟨t,rfl⟩:=r2;cases h;exact⟨SeqAt.RcAt.list_int _ _ p1.isList hu0,SeqAt.RcNeAt.list_int _ _ p1.isList hu0,SeqAt.EqAt.list_int _ _ p1.isList hu0⟩
   |str=>obtain⟨t,rfl⟩:=r2;cases h;exact⟨SeqAt.RcAt.list_str _ _ p1.isList hu0,SeqAt.RcNeAt.list_str _ _ p1.isList hu0,SeqAt.EqAt.list_str _ _ p1.isList hu0⟩
   |tup r' s2 l2=>
    cases r2;cases h;obtain⟨its2,rv2,p2,_⟩:=I.tuple s2;exact⟨SeqAt.RcAt.list_tuple p1.isList p2 hu0,SeqAt.RcNeAt.list_tuple p1.isList p2 hu0,SeqAt.EqAt.list_tuple p1.isList p2 hu0⟩
   | @lst a2 vs2 ds2 s2 l2=>
    cases r2;obtain⟨its2,rv2,p2,_⟩:=I.list s2.sq;obtain⟨k1,k2⟩:=T4 h;have he:=itm l1 l2 rv1 rv2 k1;have ez1:=zzH.trans<|rv1.length.symm.trans l1.length;have ez2:=zzH.trans<|rv2.length.symm.trans l2.length;have both:SeqAt.RcAt A s (.ref a1) (.ref a2) b/\SeqAt.RcNeAt A s (.ref a1) (.ref a2) (!b):=by
     by_cases hz:its1.toArray.size=its2.toArray.size
     . have b1:=SeqAt.RcAt.lists p1.isList p2.isList hz hu0 he;have b2:=SeqAt.RcNeAt.lists p1.isList p2.isList hz hu0 he;have eb:(List.range its1.toArray.size).all (OV (xq n) ds1 ds2)=b:=by
        rw[k2,<-ez1,<-ez2,<-hz,Nat.min_self];simp
       rw[eb]at b1 b2;exact⟨b1,b2⟩
     . have hz':(its1.toArray.size != its2.toArray.size)=true:=by simpa using hz
       have eb:b=false:=by
        rw[k2,<-ez1,<-ez2];have:(its1.toArray.size==its2.toArray.size)=false:=by simpa using hz
        rw[this,Bool.and_false]
       rw[eb];exact⟨SeqAt.RcAt.lists_lengths p1.isList p2.isList hz' hu0,SeqAt.RcNeAt.lists_lengths p1.isList p2.isList hz' hu0⟩
    refine⟨both.1,both.2, ?_⟩
    by_cases ha:a1=a2
    . have hb:=same rfl rfl ha;subst ha;rw[hb];exact SeqAt.EqAt.same _
    . exact SeqAt.EqAt.of_refs ha both.1
   |_=>cases h
  |_=>cases h
end
structure DkAt(P:Program)(w:World)(h:Heap)(a:Addr)(kvs:List (Key×V)):Prop where
 le:kvs.length<=sizeLine
 ns:(a==sysModules)=false
 ex:∃vs,KV kvs vs/\h.DictOf (xi P w) a vs
structure KdOk(X:Cx)(kd:KD):Prop where
 inj:∀a k k',kd a k->kd a k'->k=k'
 inK:∀a k,kd a k->∃o,X.K.lookup a=some o
 at_:∀a k h,kd a k->X.K.In h->DkAt X.prog X.w h a k
section
variable{X:Cx}{kd:KD}{pins:List (Addr×Obj)}{σ:St}{H:Hp}{s:Shared}{O:Addr->Prop}
def G8(I:Inv X pins σ H s)(hk:KdOk X kd)(h:Rd H a (.dK kvs)\/kd a kvs):DkAt X.prog X.w s.heap a kvs:=by
 rcases h with h|h
 . obtain⟨z,hd,vs,rel,dd⟩:=Fp I.hok h;exact⟨z,hd,vs,rel,dd⟩
 . exact hk.at_ _ _ _ h I.kIn
theorem S_(I:Inv X pins σ H s):∀(n:Nat) (v:V) (d e x:D) (b c:Bool),Vw X.K kd O H v d->Vw X.K kd O H v e->xq n d x=some b->xq n e x=some c->b=c
 |0,_,_,_,_,_,_,_,_,h,_=>by cases h
 |n+1,v,d,e,x,b,c,h1,h2,h,h'=>by
  have lst:∀(vs:List V) (ds es xs:List D) (b c:Bool),RpL X.K kd O H vs ds->RpL X.K kd O H vs es->GR (xq n) ds xs=some b->GR (xq n) es xs=some c->b=c:=by
   intro vs
   induction vs with
   |nil=>intro ds es xs b c r1 r2 h h';cases r1;cases r2;exact zzZ (h.symm.trans h')
   |cons v vs ih=>
    intro ds es xs b c r1 r2 h h';cases r1 with
    |cons a1 r1=>
     cases r2 with
     | cons a2 r2=>
            cases xs with
            |nil=>cases h;cases h';rfl
            |cons x xs=>
             obtain⟨b1,k1,h⟩:=bS_<|show(xq n _ _).bind _=_ from h;obtain⟨c1,k2,h⟩:=bS_ h;obtain⟨b2,k3,h'⟩:=bS_<|show(xq n _ _).bind _=_ from h';obtain⟨c2,k4,h'⟩:=bS_ h';cases h;cases h';rw[S_ I n _ _ _ _ _ _ a1.vw a2.vw k1 k3,ih _ _ _ _ _ r1 r2 k2 k4]
  cases h1 with
  |tup r1 s1 l1=>
   cases h2 with
   |tup r2 s2 l2=>
    have:=I.tuple_inj s1 s2;subst this;cases x with
    |tup xs=>exact lst _ _ _ _ _ _ l1 l2 h h'
    |_=>exact zzZ (h.symm.trans h')
   |lst s2 l2=>exact(Fe I s1 s2.sq).elim
   |_=>cases h'
  |lst s1 l1=>
   cases h2 with
   |tup r2 s2 l2=>exact(Fe I s2 s1.sq).elim
   |lst s2 l2=>
    have:=I.list_inj s1.sq s2.sq;subst this;cases x with
    |lst xs=>exact lst _ _ _ _ _ _ l1 l2 h h'
    |_=>exact zzZ (h.symm.trans h')
   |_=>cases h'
  |dct s1 l1=>cases h
  |cl=>cases h
  |ob=>cases h
  |dt=>cases h
  |er=>cases h
  |_=>cases h2;exact zzZ<|h.symm.trans h'
end
def CH:D->Option Key
 | .int i=>some<|.inl i
 | .str x=>some (.inr x)
 |_=>none
def LV(kvs:List (Key×D))(k:Key):Option D:=(kvs.find? λkv=>decide (kv.1=k)).map (·.2)
def LA{K:zzA}{kd:KD}{O:Addr->Prop}{H:Hp}(k:Key){vs:List (Key×V)}{ds:List (Key×D)}(h:RpM K kd O H vs ds):(∃v d,wZ vs k=some v/\LV ds k=some d/\Rp K kd O H v d)\/(wZ vs k=none/\LV ds k=none):=
 RpM.ind (P:=λvs ds=>(∃v d,wZ vs k=some v/\LV ds k=some d/\Rp K kd O H v d)\/(wZ vs k=none/\LV ds k=none)) (.inr ⟨rfl,rfl⟩) (λ{k' v d vs ds} a _ ih=>by
  by_cases e:k'=k
  . left;refine⟨_,_, ?_, ?_,a⟩
    . unfold wZ;simp[e]
    . unfold LV;simp[e]
  . rcases ih with⟨v,d,h1,h2,h3⟩|⟨h1,h2⟩
    . left;refine⟨v,d, ?_, ?_,h3⟩
      . unfold wZ at h1 ⊢;simpa[e]using h1
      . unfold LV at h2 ⊢;simpa[e]using h2
    . right;refine⟨?_, ?_⟩
      . unfold wZ at h1 ⊢;simpa[e]using h1
      . unfold LV at h2 ⊢;simpa[e]using h2) h
def uQ:D->Option Key
 | .bl b=>some (.inl (if b=true then 1 else 0))
 |d=>CH d
def UU:List D->Option (List Key)
 | []=>some []
 |d::r=>(uQ d).bind λk=>(UU r).bind λks=>some (k::ks)
def QY:D->Option (List Key)
 | .tup ds=>UU ds
 |_=>none
def PM(ks:List (List Key))(ds:List D)(k:List Key):Option D:=((ks.zip ds).find? λkv=>decide (kv.1=k)).map (·.2)
def Ow{K:zzA}{kd:KD}{O:Addr->Prop}{H:Hp}{vs:List V}{ds:List D}(h:RpL K kd O H vs ds):∀{k:List Key},UU ds=some k->vs.map kO=k.map some:=
 RpL.ind (P:=λvs ds=>∀{k:List Key},UU ds=some k->vs.map kO=k.map some) (λe=>by cases e;rfl) (λ{v d vs ds} a _ ih k e=>by
  obtain⟨k1,h1,e⟩:=bS_<|show(uQ d).bind _=_ from e;obtain⟨k2,h2,e⟩:=bS_ e;cases e;have hv:kO v=some k1:=by
   cases a with
   |int i=>cases h1;rfl
   |str i=>cases h1;rfl
   |bl b=>cases h1;rfl
   |_=>cases h1
  rw[zyS,zyS,hv,ih h2]) h
def RM{K:zzA}{kd:KD}{O:Addr->Prop}{H:Hp}{v:V}{d:D}{k:List Key}(h:Vw K kd O H v d)(e:QY d=some k):∃b,v = .ref b/\KC H b k:=by
 cases h with
 |tup rp hs rl=>
  cases rp with
  |tup n h r=>exact⟨_,rfl,_,h,Ow r e⟩
 |_=>cases e
def TC{K:zzA}{kd:KD}{O:Addr->Prop}{H:Hp}(k:List Key){vs:List V}{ds:List D}(h:RpL K kd O H vs ds):∀{ks:List (List Key)},ks.length=vs.length->(∃v d,wZ (ks.zip vs) k=some v/\PM ks ds k=some d/\Rp K kd O H v d)\/(wZ (ks.zip vs) k=none/\PM ks ds k=none):=
 RpL.ind (P:=λvs ds=>∀{ks:List (List Key)},ks.length=vs.length->(∃v d,wZ (ks.zip vs) k=some v/\PM ks ds k=some d/\Rp K kd O H v d)\/(wZ (ks.zip vs) k=none/\PM ks ds k=none)) (λ{ks} e=>by
  cases ks with
  |nil=>exact .inr ⟨rfl,rfl⟩
  |cons=>simp at e) (λ{v d vs ds} a _ ih ks e=>by
  cases ks with
  |nil=>simp at e
  |cons k1 ks=>
   have e':ks.length=vs.length:=by simpa using e
   unfold wZ PM;rw[List.zip_cons_cons,List.zip_cons_cons]
   by_cases hk:k1=k
   . rw[List.find?_cons_of_pos (by simpa using hk),List.find?_cons_of_pos<|by simpa using hk];exact .inl ⟨_,_,rfl,rfl,a⟩
   . rw[List.find?_cons_of_neg (by simpa using hk),List.find?_cons_of_neg<|by simpa using hk];exact ih e') h
def anyF(f:D->Option Bool):List D->Option Bool
 | []=>some false
 |x::r=>(f x).bind λb=>(anyF f r).bind λc=>some (b||c)
def II(b:Bool):R0:=.im<|.bl b
def AN(x:D):D->Option Bool
 | .lst ys=>anyF (λy=>xq 50 y x) ys
 | .tup ys=>anyF (λy=>xq 50 y x) ys
 | .str y=>match x with | .str i=>some (!(Builtin.Str.occurrences y i 0 y.length 1).isEmpty)|_=>none
 | .dct kvs=>(CH x).bind λk=>some (LV kvs k).isSome
 | .dt ks ds=>(QY x).bind λk=>some (PM ks ds k).isSome
 |_=>none
def D_:D->D->Option Bool
 |d,.non=>some (match d with | .non=>true|_=>false)
 |d,.bl b=>match d with | .bl c=>some (c==b)|_=>some false
 |_,_=>none
def B9(f:Int->Int->Bool):D->D->Option R0:=Ah λi j=>some<|II<|f i j
def zB(o:CmpOp)(d e:D):Option R0:=match o with
 | .Eq=>(xq 60 d e).bind λb=>some<|II b
 | .NotEq=>(xq 60 d e).bind λb=>some<|II !b
 | .Lt=>B9 (λi j=>decide (i<j)) d e
 | .LtE=>B9 (λi j=>decide (i<=j)) d e
 | .Gt=>B9 (λi j=>decide (j<i)) d e
 | .GtE=>B9 (λi j=>decide (j<=i)) d e
 | .In=>(AN d e).bind λb=>some<|II b
 | .NotIn=>(AN d e).bind λb=>some<|II !b
 | .Is=>(D_ d e).bind λb=>some<|II b
 | .IsNot=>(D_ d e).bind λb=>some<|II !b
def Wj{o:Option Bool}{f:Bool->Bool}{r:R0}(h:(o.bind λb=>some<|II<|f b)=some r):∃k,r = .im (.bl k):=by
 obtain⟨b,_,h⟩:=bS_ h;cases h;exact⟨_,rfl⟩
def RJ(h:B9 f x y=some r):∃k,r = .im (.bl k):=by
 obtain⟨i,_,h⟩:=bS_<|show(Nh x).bind _=_ from h;obtain⟨j,_,h⟩:=bS_ h;cases h;exact⟨_,rfl⟩
def FC(op:CmpOp)(x y:D)(r:R0)(h:zB op x y=some r):∃k,r = .im (.bl k):=by
 cases op with
 |Eq=>exact Wj (f:=id) h
 |NotEq=>exact Wj (f:=not) h
 |Lt=>exact RJ h
 |LtE=>exact RJ h
 |Gt=>exact RJ h
 |GtE=>exact RJ h
 |In=>exact Wj (f:=id) h
 |NotIn=>exact Wj (f:=not) h
 |Is=>exact Wj (f:=id) h
 |IsNot=>exact Wj (f:=not) h
section
variable{X:Cx}{kd:KD}{pins:List (Addr×Obj)}{σ:St}{H:Hp}{s:Shared}{O:Addr->Prop}
noncomputable def Na(K:zzA)(kd:KD)(O:Addr->Prop)(H:Hp)(n:Nat)(x:D)(u:Value):Bool:=@decide (∃v d,RelV v u/\Rp K kd O H v d/\xq n d x=some true)<|Classical.propDecidable _
def La(I:Inv X pins σ H s)(hk:KdOk X kd)(r:RelV v u)(p:Rp X.K kd O H v d)(e:xq n d x=some b):Na X.K kd O H n x u=b:=by
 unfold Na;cases b with
 |true=>exact @zyO _ (Classical.propDecidable _) ⟨v,d,r,p,e⟩
 |false=>
  refine @zyG _ (Classical.propDecidable _) λ⟨v',d',r',p',e'⟩=>?_;have:=r.inj r';subst this;exact Bool.noConfusion<|S_ I n _ _ _ _ _ _ p.vw p'.vw e e'
def Pb(I:Inv X pins σ H s)(hk:KdOk X kd)(hv:yd vs us)(h:RpL X.K kd O H vs ds)(e:anyF (λy=>xq n y x) ds=some b):us.any (Na X.K kd O H n x)=b:=
 RpL.ind (P:=λvs ds=>∀us b,yd vs us->anyF (λy=>xq n y x) ds=some b->us.any (Na X.K kd O H n x)=b) (λus b hv e=>by cases e;cases hv;rfl) (λ{v d vs ds} a _ ih us b hv h=>by
  cases hv with
  |cons r t=>
   obtain⟨b1,h1,h⟩:=bS_<|show(xq n _ x).bind _=_ from h;obtain⟨c1,h2,h⟩:=bS_ h;cases h;rw[List.any_cons,La I hk r a h1,ih _ _ t h2]) h us b hv e
theorem Yh:∀{ds:List D}{b:Bool},anyF f ds=some b->∀d ∈ ds,∃c,f d=some c
 | [],_,_,d,hd=>by simp at hd
 |x::r,b,h,d,hd=>by
  obtain⟨b1,h1,h⟩:=bS_<|show(f x).bind _=_ from h;obtain⟨c1,h2,h⟩:=bS_ h
  rcases zzC.mp hd with e|e
  . subst e;exact⟨b1,h1⟩
  . exact Yh h2 d e
def Qc(I:Inv X pins σ H s)(hk:KdOk X kd)(hu:A.units+n<cLine)(vx:Vw X.K kd O H x d)(rx:RelV x v)(hv:yd vs us)(h:RpL X.K kd O H vs ds)(k:∀e ∈ ds,∃c,xq n e d=some c):∀u ∈ us,SeqAt.EqAt A s u v (Na X.K kd O H n d u):=
 RpL.ind (P:=λvs ds=>∀us,yd vs us->(∀e ∈ ds,∃c,xq n e d=some c)->∀u ∈ us,SeqAt.EqAt A s u v<|Na X.K kd O H n d u) (λus hv _ u hu=>by cases hv;simp at hu) (λa q ih us hv h u hm=>by
  cases hv with
  |cons r t=>
   rcases zzC.mp hm with e|e
   . subst e;obtain⟨c,hc⟩:=h _ zzF;rw[La I hk r a hc];exact(Lr I n A _ _ _ _ _ _ _ hu a.vw vx r rx hc).eq
   . exact ih _ t (λe he=>h e<|zzD _ he) u e) h us hv k
def P6(vx:Vw X.K kd O H x d)(rx:RelV x v)(e:D_ d (.bl b)=some c)(h:Q c s):wpAny (model X.prog X.w) A (isSame v<|.bool b) Q E s:=by
 cases vx with
 |non=>cases rx;cases e;exact zxH h
 |bl k=>
  cases rx;have e:some (k==b)=some c:=e;cases e;refine zxH ?_;cases k<;>cases b<;>exact h
 |int=>obtain⟨t,rfl⟩:=rx;cases e;exact zxH h
 |str=>obtain⟨t,rfl⟩:=rx;cases e;exact zxH h
 |tup=>cases rx;cases e;exact zxH h
 |lst=>cases rx;cases e;exact zxH h
 |dct=>cases rx;cases e;exact zxH h
 |cl=>cases rx;cases e;exact zxH h
 |ob=>cases rx;cases e;exact zxH h
 |dt=>cases rx;cases e;exact zxH h
 |er=>cases rx;cases e;exact zxH h
def Mz(hk:KdOk X kd)(hu:X.A.units+100<cLine)(op:CmpOp):uB X kd (compareOp op) (zB op):=by
 intro pins s σ H x y v u Q I rx ry h;obtain⟨O,d,e,r,ht,vx,vy,he,q⟩:=h;cases op with
 |Eq=>
  obtain⟨b,h1,he⟩:=bS_<|show(xq 60 d e).bind _=_ from he;cases he;exact(Lr I 60 X.A x y d e v u b (by omega) vx vy rx ry h1).rc _ _ _ _ (xu I (yk q<|.bl _) rfl)
 |NotEq=>
  obtain⟨b,h1,he⟩:=bS_<|show(xq 60 d e).bind _=_ from he;cases he;exact(Lr I 60 X.A x y d e v u b (by omega) vx vy rx ry h1).ne _ _ _ _ (xu I (yk q<|.bl _) rfl)
 |Lt=>
  obtain⟨i,j,rfl,rfl,he⟩:=YU vx vy he;cases he;exact tM pins s σ H _ _ v u Q I rx ry ⟨_,_,rfl,rfl,yk q<|.bl _⟩
 |LtE=>
  obtain⟨i,j,rfl,rfl,he⟩:=YU vx vy he;cases he;exact uY pins s σ H _ _ v u Q I rx ry ⟨_,_,rfl,rfl,yk q<|.bl _⟩
 |Gt=>
  obtain⟨i,j,rfl,rfl,he⟩:=YU vx vy he;cases he;exact uG pins s σ H _ _ v u Q I rx ry ⟨_,_,rfl,rfl,yk q<|.bl _⟩
 |GtE=>
  obtain⟨i,j,rfl,rfl,he⟩:=YU vx vy he;cases he;exact uA pins s σ H _ _ v u Q I rx ry ⟨_,_,rfl,rfl,yk q<|.bl _⟩
 |In=>
  obtain⟨b,h1,he⟩:=bS_<|show(AN d e).bind _=_ from he;cases he;cases vy with
  |lst hs rl=>
   cases ry;obtain⟨its,rv,p,_⟩:=I.list hs.sq;refine SeqAt.in_listAt (Na X.K kd O H 50 d) p.isList (λw hw=>Qc I hk (by show X.A.units+1+50<cLine;omega) vx rx rv rl (Yh h1) w<|by simpa using hw) ?_;have:=Pb I hk rv rl h1;rw[show its.toArray.any (Na X.K kd O H 50 d)=b by rw[<-this];simp];exact xu (I) (yk q<|.bl _) rfl
  |tup rp hs rl=>
   cases ry;obtain⟨its,rv,p,_⟩:=I.tuple hs;refine SeqAt.in_tupleAt (Na X.K kd O H 50 d) p (λw hw=>Qc I hk (by show X.A.units+1+50<cLine;omega) vx rx rv rl (Yh h1) w<|by simpa using hw) ?_;have:=Pb I hk rv rl h1;rw[show its.toArray.any (Na X.K kd O H 50 d)=b by rw[<-this];simp];exact xu (I) (yk q<|.bl _) rfl
  |str z=>
   cases vx with
   |str i=>cases h1;exact Bo pins s σ H _ _ v u Q I rx ry ⟨_,_,rfl,rfl,yk q<|.bl _⟩
   |_=>cases h1
  |dct hs rm=>
   cases ry;obtain⟨k,k1,h1⟩:=bS_ h1;cases h1;obtain⟨z,hd,vs,rel,dd⟩:=G8 I hk hs;have ek:x=kV k:=by
    cases vx with
    |int i=>cases k1;rfl
    |str i=>cases k1;rfl
    |_=>cases k1
   subst ek;refine wpAny_in_of (Ut rx) hd dd.mapOf ?_;rw[<-(rel.val k).isSome_eq]
   rcases LA k rm with⟨v1,d1,e1,e2,_⟩|⟨e1,e2⟩
   . rw[e1];rw[e2]at q;exact xu (I.tok _) (yk q<|.bl _) rfl
   . rw[e1];rw[e2]at q;exact xu (I.tok _) (yk q<|.bl _) rfl
  |dt hH l rl=>
   cases ry;obtain⟨k,k1,h1⟩:=bS_ h1;cases h1;obtain⟨b,rfl,hb⟩:=RM vx k1;refine rO (by show X.A.units+1<cLine;omega) I (NO.t hH hb) rx λs' I'=>?_
   rcases TC k rl l with⟨v1,d1,e1,e2,_⟩|⟨e1,e2⟩
   . rw[e1];rw[e2]at q;exact xu I' (yk q<|.bl _) rfl
   . rw[e1];rw[e2]at q;exact xu I' (yk q<|.bl _) rfl
  |_=>cases h1
 |NotIn=>
  obtain⟨b,h1,he⟩:=bS_<|show(AN d e).bind _=_ from he;cases he;cases vy with
  |lst hs rl=>
   cases ry;obtain⟨its,rv,p,_⟩:=I.list hs.sq;refine SeqAt.notIn_listAt (Na X.K kd O H 50 d) p.isList (λw hw=>Qc I hk (by show X.A.units+1+50<cLine;omega) vx rx rv rl (Yh h1) w<|by simpa using hw) ?_;have:=Pb I hk rv rl h1;rw[show its.toArray.any (Na X.K kd O H 50 d)=b by rw[<-this];simp];exact xu (I) (yk q<|.bl _) rfl
  |tup rp hs rl=>
   cases ry;obtain⟨its,rv,p,_⟩:=I.tuple hs;refine SeqAt.notIn_tupleAt (Na X.K kd O H 50 d) p (λw hw=>Qc I hk (by show X.A.units+1+50<cLine;omega) vx rx rv rl (Yh h1) w<|by simpa using hw) ?_;have:=Pb I hk rv rl h1;rw[show its.toArray.any (Na X.K kd O H 50 d)=b by rw[<-this];simp];exact xu (I) (yk q<|.bl _) rfl
  |str z=>
   cases vx with
   |str i=>cases h1;exact L0 pins s σ H _ _ v u Q I rx ry ⟨_,_,rfl,rfl,yk q<|.bl _⟩
   |_=>cases h1
  |dct hs rm=>
   cases ry;obtain⟨k,k1,h1⟩:=bS_ h1;cases h1;obtain⟨z,hd,vs,rel,dd⟩:=G8 I hk hs;have ek:x=kV k:=by
    cases vx with
    |int i=>cases k1;rfl
    |str i=>cases k1;rfl
    |_=>cases k1
   subst ek;refine wpAny_notIn_of (Ut rx) hd dd.mapOf ?_;rw[<-(rel.val k).isSome_eq]
   rcases LA k rm with⟨v1,d1,e1,e2,_⟩|⟨e1,e2⟩
   . rw[e1];rw[e2]at q;exact xu (I.tok _) (yk q<|.bl _) rfl
   . rw[e1];rw[e2]at q;exact xu (I.tok _) (yk q<|.bl _) rfl
  |dt hH l rl=>
   cases ry;obtain⟨k,k1,h1⟩:=bS_ h1;cases h1;obtain⟨b,rfl,hb⟩:=RM vx k1;refine Ie (by show X.A.units+1<cLine;omega) I (NO.t hH hb) rx λs' I'=>?_
   rcases TC k rl l with⟨v1,d1,e1,e2,_⟩|⟨e1,e2⟩
   . rw[e1];rw[e2]at q;exact xu I' (yk q<|.bl _) rfl
   . rw[e1];rw[e2]at q;exact xu I' (yk q<|.bl _) rfl
  |_=>cases h1
 |Is=>
  obtain⟨b,h1,he⟩:=bS_<|show(D_ d e).bind _=_ from he;cases he;cases vy with
  |non=>
   refine JT pins s σ H _ _ v u Q I rx ry ⟨rfl, ?_⟩;have:decide (x=V.non)=b:=by cases vx<;>(cases h1;rfl)
   rw[this];exact yk q (.bl b)
  |bl c=>
   cases ry;exact zxG (P6 vx rx h1<|zxH<|xu I (yk q<|.bl _) rfl)
  |_=>cases h1
 |IsNot=>
  obtain⟨b,h1,he⟩:=bS_<|show(D_ d e).bind _=_ from he;cases he;cases vy with
  |non=>
   refine C7 pins s σ H _ _ v u Q I rx ry ⟨rfl, ?_⟩;have:decide (x=V.non)=b:=by cases vx<;>(cases h1;rfl)
   rw[this];exact yk q (.bl _)
  |bl c=>
   cases ry;exact zxG (P6 vx rx h1<|zxH<|xu I (yk q<|.bl _) rfl)
  |_=>cases h1
end
def FS{K}{kd}{O}{H}{vs}{ds}{i}{d}(r:RpL K kd O H vs ds)(h:atI ds i=some d):∃v,atI vs i=some v/\Rp K kd O H v d:=by
 unfold atI at h ⊢;obtain⟨j,h1,h2⟩:=bS_ h;rw[r.length,h1];exact r.get h2
def B5(o:Option D):Option R0:=o.bind λd=>some<|.im d
def zg(x y:D):Option R0:=match x with
 | .lst xs=>(Nh y).bind λi=>B5<|atI xs i
 | .tup xs=>(Nh y).bind λi=>B5<|atI xs i
 | .str x=>(Nh y).bind λi=>if x.length<=sizeLine then(atI x.cps.toList i).bind λc=>some (.im<|.str ⟨#[c]⟩)else none
 | .dct kvs=>(CH y).bind λk=>B5 (LV kvs k)
 |_=>none
def Qm(h:B5 o=some r):∃d,o=some d/\r = .im d:=by
 obtain⟨d,h1,h2⟩:=bS_<|h;cases h2;exact⟨d,h1,rfl⟩
section
variable{X:Cx}{kd:KD}
def AJ{K}{O}{H}{x}{d}{k}(vx:Vw K kd O H x d)(e:CH d=some k):x=kV k:=by
 cases vx with
 |int i=>cases e;rfl
 |str i=>cases e;rfl
 |_=>cases e
def qY(hk:KdOk X kd):qj X kd zg:=by
 intro value slice pins s σ H x y v u Q I rx ry h hs;obtain⟨O,d,e,r,ht,vx,vy,he,q⟩:=h;cases vx with
 |lst hr rl=>
  obtain⟨i,h0,he⟩:=bS_<|he;obtain⟨rfl,rfl⟩:=YF vy h0;obtain⟨d,h1,rfl⟩:=Qm he;obtain⟨w,hw,rw'⟩:=FS rl h1;exact ZM value slice pins s σ H _ _ v u Q I rx ry ⟨_,_,_,w,rfl,rfl,hr.sq,hw,yk q rw'⟩ hs
 |tup rp hr rl=>
  obtain⟨i,h0,he⟩:=bS_<|he;obtain⟨rfl,rfl⟩:=YF vy h0;obtain⟨d,h1,rfl⟩:=Qm he;obtain⟨w,hw,rw'⟩:=FS rl h1;exact Z3 value slice pins s σ H _ _ v u Q I rx ry ⟨_,_,_,w,rfl,rfl,hr,hw,yk q rw'⟩ hs
 |str z=>
  obtain⟨i,h0,he⟩:=bS_<|he;obtain⟨rfl,rfl⟩:=YF vy h0;obtain⟨hz,he⟩:=ite_some' he;obtain⟨c,h1,he⟩:=bS_ he;cases he;exact A8 value slice pins s σ H _ _ v u Q I rx ry ⟨_,_,c,rfl,rfl,hz,h1,yk q<|.str _⟩ hs
 |dct hr rm=>
  obtain⟨k,h1,he⟩:=bS_<|he;obtain⟨d,h2,rfl⟩:=Qm he;cases rx;obtain⟨z,hd,vs,rel,dd⟩:=G8 I hk hr;have:=AJ vy h1;subst this
  rcases LA k rm with⟨v1,d1,e1,e2,rp⟩|⟨e1,e2⟩
  . rw[h2]at e2;cases e2;obtain⟨w',hw,rw'⟩:=PZ.some_of (by rw[<-e1];exact rel.val k);exact tail_any dd.typeIs PySem.F.slot_dict_getitem.lookup (wpAny_getItem_of (Ut ry) dd.mapOf hw ⟨v1,H,I.tok _,rw',yk q rp⟩) hs
  . rw[h2]at e2;cases e2
 |_=>cases he
def cutD(xs:List D)(lo hi:Option Int):List D:=(xs.drop<|HT.sIx xs.length 0 lo).take<|HT.sIx xs.length xs.length hi-HT.sIx xs.length 0 lo
def E5{K}{O}{H}{vs}{ds}(r:RpL K kd O H vs ds)(lo hi):RpL K kd O H (BA vs lo hi) (cutD ds lo hi):=by
 unfold BA cutD;rw[r.length];exact(r.drop _).take _
def ZO(x:D)(lo hi:Option Int):Option R0:=match x with
 | .lst xs=>some<|.fl<|cutD xs lo hi
 | .tup xs=>if HT.sIx xs.length 0 lo=0/\HT.sIx xs.length xs.length hi=xs.length then none else some (.im<|.tup<|cutD xs lo hi)
 |_=>none
abbrev OF:=AS->Option (Option Int×AS)
def oN:OF:=λas=>some (none,as)
def oS(f:EF):OF:=λas=>(f as).bind λp=>(pB p.1).bind λi=>some (some i,p.2)
def v_(fa:EF)(fl fh:OF)(g:D->Option Int->Option Int->Option R0):EF:=λas=>(fa as).bind λp=>(fl p.2).bind λl=>(fh l.2).bind λh=>(p.1.frz.view h.2).bind λx=>(g x.1 l.1 h.1).bind λr=>(wrap x.2 r).bind λz=>some (z,h.2)
def oM(K:zzA)(kd:KD)(f:OF):TO:=λσ H Q=>∃F B ad as o as',Rel K kd F B [] ad as σ H/\f as=some (o,as')/\
 ∀ad' H',Rel K kd F B [] ad' as' σ H'->Grow (Gw [] ad) H (Gw [] ad') H'->Q o H'
@[irreducible] def AO(X:Cx)(kd:KD)(e:Option Expr)(f:OF):Prop:=PO X e<|oM X.K kd f
def SL(h:PO X e t)(k:∀σ H Q,t' σ H Q->t σ H Q):PO X e t':=λpins s σ H Q I q=>h pins s σ H Q I<|k σ H Q q
def wO:AO X kd none oN:=by with_unfolding_all exact(SL CW λσ H Q h=>by
 obtain⟨F,B,ad,as,o,as',R,e,q⟩:=h;cases e;exact q ad H R Grow.refl)
def Al{K}{F B}{T}{ad}{σ}{H}{v}{st}{c}(h:x_ K kd F B T ad σ H v (.ow<|.lf st<|.int c)):T=[]/\v = .int c:=by
 have h:=h;generalize hT:Gw T ad=G at h;cases h with
 |lf rp=>cases rp;exact⟨rfl,rfl⟩
def vC{a}{fa}(ha:AE X kd a fa):AO X kd (some a) (oS fa):=by with_unfolding_all exact(SL (Ir ha) λσ H Q h=>by
 obtain⟨F,B,ad,as,o,as',R,e,q⟩:=h;obtain⟨⟨p,as1⟩,h1,e⟩:=bS_<|e;obtain⟨i,e1,e⟩:=bS_ e;obtain⟨st,rfl⟩:=DV e1;cases e;refine⟨F,B,ad,as,_,_,R,h1,λv T' ad1 H1 R1 rv1 g1=>?_⟩;obtain⟨rfl,rfl⟩:=Al rv1;exact⟨i,rfl,q ad1 H1 R1 g1⟩)
def rP:D5 X (λx lo hi H Q=>∃O d r,(∀a,O a->H a≠none)/\Vw X.K kd O H x d/\ZO d lo hi=some r/\RQ X.K kd O H Q r):=by
 intro pins s σ H x v vl vu lo hi sl Q I rx hs pl pu h;obtain⟨O,d,r,ht,vx,he,q⟩:=h;cases vx with
 |lst hr rl=>cases he;exact Cv pins s σ H _ v vl vu lo hi sl Q I rx hs pl pu ⟨_,_,rfl,hr.sq,QV q<|E5 rl lo hi⟩
 |tup rp hr rl=>
  have he:(if _ then none else some _:Option R0)=_:=he
  split at he
  . cases he
  . rename_i hw;cases he;exact Dw pins s σ H _ v vl vu lo hi sl Q I rx hs pl pu ⟨_,_,rfl,hr,by rw[rl.length];exact hw,Pi ht q<|E5 rl lo hi⟩
 |_=>cases he
def xT{a}{lo hi}{fa}{fl fh}{pos p2}(ha:AE X kd a fa)(hl:AO X kd lo fl)(hh:AO X kd hi fh):AE X kd (.Subscript a (.Slice lo hi none p2) pos) (v_ fa fl fh ZO):=by with_unfolding_all exact(yM (Nz rP ha hl hh) λσ H Q h=>by
 obtain⟨F,B,ad,as,r,as',R,e,q⟩:=h;obtain⟨⟨p,as1⟩,h1,e⟩:=bS_<|e;obtain⟨⟨l,as2⟩,h2,e⟩:=bS_ e;obtain⟨⟨u,as3⟩,h3,e⟩:=bS_ e;obtain⟨⟨d,lv⟩,h4,e⟩:=bS_ e;obtain⟨r',h5,e⟩:=bS_ e;obtain⟨z,h6,e⟩:=bS_ e;cases e;refine YO R h1 λv ad1 H1 R1 rv1 g1=>⟨F,B,ad1,as1,l,as2,R1,h2,λad2 H2 R2 g2=>⟨F,B,ad2,as2,u,_,R2,h3,λad3 H3 R3 g3=>?_⟩⟩;exact⟨_,d,r',R3.tr _,x_.vw R3 ((rv1.grow g2).grow g3) h4,h5,ZF R3 h6 λw T' H' R' rv' g'=>q w T' ad3 H' R' rv'<|((g1.trans g2).trans g3).trans g'⟩)
def NI:D->Option R0
 | .int i=>some (.im<|.int (-i))
 |_=>none
def qH:pV X kd (unaryOp .USub) NI:=by
 intro pins s σ H x v Q I rx h;obtain⟨O,d,r,ht,vx,he,q⟩:=h;cases vx with
 |int i=>cases he;exact DS pins s σ H _ v Q I rx ⟨i,rfl,yk q<|.int _⟩
 |_=>cases he
def Dt:D->String
 | .non=>"NoneType" | .bl _=>"bool" | .int _=>"int" | .str _=>"str" | .tup _=>"tuple" | .lst _=>"list" | .dct _=>"dict"|_=>""
def Eg:D->Bool
 | .cl _=>false | .ob _ _ _=>false | .dt _ _=>false | .er _ _ _=>false|_=>true
def KG(t c:String):Bool:=t==c||(t=="bool"&&c=="int")
def QH(c:String):Bool:=c=="int"||c=="bool"||c=="str"||c=="list"||c=="tuple"||c=="dict"
def Dz(K)(d)(c)(h:QH c=true)(ho:Eg d=true):W.kitOne K (.type<|Dt d) (.type c)=some (KG (Dt d) c):=by
 have:c="int"\/c="bool"\/c="str"\/c="list"\/c="tuple"\/c="dict":=by
  unfold QH at h;simp only[Bool.or_eq_true,beq_iff_eq]at h
  rcases h with((((h|h)|h)|h)|h)|h<;>simp[h]
 rcases this with rfl|rfl|rfl|rfl|rfl|rfl<;>cases d<;>first|rfl|cases ho
def DC(hk:KdOk X kd){pins}{σ}{H}{s}{O}{A}{E}{Q}{c}{x}{u}{d}(I:Inv X pins σ H s)(rx:RelV x u)(vx:Vw X.K kd O H x d)(hc:QH c=true)(ho:Eg d=true)
 (h:∀tk,Q (.bool<|KG (Dt d) c) {s with toks:=tk}):wpAny (model X.prog X.w) A (call (.builtin "isinstance") [u,.type c]) Q E s:=by
 have e:=Dz X.K d c hc ho;cases vx with
 |non=>cases rx;exact W.kia_one W.kitx_none I.kIn True.intro e (λz=>nomatch z) h
 |bl y=>cases rx;exact W.kia_one W.kitx_bool I.kIn True.intro e (λz=>nomatch z) h
 |int i=>obtain⟨t,rfl⟩:=rx;exact W.kia_one W.kitx_int I.kIn True.intro e (λz=>nomatch z) h
 |str y=>obtain⟨t,rfl⟩:=rx;exact W.kia_one W.kitx_str I.kIn True.intro e (λz=>nomatch z) h
 |lst hr rl=>
  cases rx;obtain⟨its,rv,⟨o,n,h1,h2,_⟩,_⟩:=I.list hr.sq;exact W.kia_one W.kitx_list I.kIn ⟨o,h1,h2⟩ e (λz=>nomatch z) h
 |tup rp hr rl=>
  cases rx;obtain⟨its,rv,⟨o,h1,h2,_⟩,_⟩:=I.tuple hr;exact W.kia_one W.kitx_tuple I.kIn ⟨o,h1,h2⟩ e (λz=>nomatch z) h
 |dct hr rm=>
  cases rx;obtain⟨z,hd,vs,rel,⟨o,es,ep,h1,h2,_⟩⟩:=G8 I hk hr;exact W.kia_one W.kitx_dict I.kIn ⟨o,h1,h2.1⟩ e (λz=>nomatch z) h
 |cl=>cases ho
 |ob=>cases ho
 |dt=>cases ho
 |er=>cases ho
end
def vZ:List D->Option (List Int)
 | []=>some []
 | .int i::r=>(vZ r).bind λs=>some (i::s)
 |_::_=>none
def OS:List Int->Int
 | []=>0
 |x::r=>r.foldl (λa b=>if a<b then b else a) x
theorem GU:∀(r:List Int) (x:Int),r.foldl (λa b=>if a<b then b else a) x ∈ x::r/\∀a ∈ x::r,a<=r.foldl (λa b=>if a<b then b else a) x
 | [],x=>⟨by simp,by simp⟩
 |y::r,x=>by
  rw[List.foldl_cons];obtain⟨h1,h2⟩:=GU r (if x<y then y else x);refine⟨?_,λa ha=>?_⟩
  . rcases zzC.mp h1 with e|e
    . rw[e];split<;>simp
    . exact zzD _<|zzD _ e
  . have h3:=h2 _ zzF
    rcases zzC.mp ha with e|e
    . subst e;exact Int.le_trans (by split<;>omega) h3
    . rcases zzC.mp e with e|e
      . subst e;exact Int.le_trans (by split<;>omega) h3
      . exact h2 a<|zzD _ e
def O6(h1:M ∈ ns)(h2:∀a ∈ ns,a<=M):OS ns=M:=by
 cases ns with
 |nil=>simp at h1
 |cons x r=>
  obtain⟨k1,k2⟩:=GU r x;have a1:=k2 M h1;have a2:=h2 _ k1;show r.foldl _ x=M;omega
def JK(f:D->Option R0)(ds:List D):Option R0:=match ds with
 | [x]=>f x
 |_=>none
def Q1{K}{kd}{O}{H}{f}{xs}{ds}{r}(vl:VwL K kd O H xs ds)(h:JK f ds=some r):∃x d,xs=[x]/\Vw K kd O H x d/\f d=some r:=by
 cases vl with
 |nil=>cases h
 |cons a b=>
  cases b with
  |nil=>exact⟨_,_,rfl,a,h⟩
  |cons _ _=>cases h
def rS:D->Option R0
 | .lst ds=>some<|.im<|.int ds.length
 | .tup ds=>some<|.im<|.int ds.length
 | .str x=>if x.length<=sizeLine then some (.im<|.int x.length)else none
 | .dct kvs=>some<|.im<|.int kvs.length
 | .dt _ ds=>some (.im<|.int ds.length)
 |_=>none
def xN:List D->Option R0:=JK rS
def qw:D->Option R0
 | .int i=>some<|.im<|.int i
 | .bl b=>some (.im<|.int (if b then 1 else 0))
 |_=>none
def tupP:List D->Option R0
 | [.lst ds]=>some<|.im<|.tup ds
 | [.tup ds]=>some (.im<|.tup ds)
 |_=>none
def s_:D->Option R0
 | .lst ds=>some<|.fl ds
 | .tup ds=>some (.fl ds)
 |_=>none
def lstP:List D->Option R0:=JK s_
def MP(ds:List D):Option R0:=match ds with
 | [x,y]=>Ah (λi j=>some<|.im<|.int (if j > i then j else i)) x y
 | [x]=>(IH x).bind λds=>(vZ ds).bind λns=>if 0<ns.length then some (.im<|.int<|OS ns)else none
 |_=>none
def Pa{K}{kd}{O}{H}{xs}{d}(h:VwL K kd O H xs [d]):∃x,xs=[x]/\Vw K kd O H x d:=by
 cases h with
 |cons a b=>cases b;exact⟨_,rfl,a⟩
def CK{K}{kd}{O}{H}{xs}{d e}(h:VwL K kd O H xs [d,e]):∃x y,xs=[x,y]/\Vw K kd O H x d/\Vw K kd O H y e:=by
 cases h with
 |cons a b=>
  cases b with
  |cons b c=>cases c;exact⟨_,_,rfl,a,b⟩
def SM{K}{kd}{O}{H}{vs}{ds}{ns}(h:RpL K kd O H vs ds)(e:vZ ds=some ns):vs=ns.map V.int:=
 RpL.ind (P:=λvs ds=>∀ns,vZ ds=some ns->vs=ns.map V.int) (λns e=>by cases e;rfl) (λ{v d vs ds} a _ ih ns e=>by
  cases d with
  |int i=>
   obtain⟨s,h1,h2⟩:=bS_<|e;cases h2;cases a;rw[ih _ h1];rfl
  |_=>cases e) h ns e
section
variable{X:Cx}{kd:KD}
def JV(I:Inv X pins σ H s)(hH:H a=some (.dT kvs))(q:∀t s',Inv X pins σ H s'->Q (.int kvs.length t) s'):wpAny (model X.prog X.w) A (call (.builtin "len") [.ref a]) Q E s:=by
 obtain⟨hz,hd,xs,rel,dd⟩:=Jl I.hok hH;have ty:=dd.typeIs;obtain⟨o,es,ep,ho,_,hdat,h4,_,_⟩:=dd;have sz:es.size=kvs.length:=by rw[show kvs.length=xs.length from Paired.length rel,<-zyT,h4,zzB]
 have body:MeetsIn X.prog X.w (Builtin.«dict.__len__» ⟨[.ref a],[]⟩) (λ_ R s'=>s'=s/\R (.ok<|.ret<|.int kvs.length s.toks) {s with toks:=s.toks+1}):=.of_wp λA' R s' z=>by
  obtain⟨rfl,z⟩:=z;show wpAny _ _ (dictSize a >>= _) _ _ s';unfold dictSize;exact zxG (zxG<|wpAny_dictEntries ho hdat<|zxH<|zxG<|wpAny_pendingCount_other hd<|wpAny_ret_mkInt<|by rw[Nat.add_zero,sz];exact z)
 refine Calls.call_function_entry kind_len plain_len entry_len (args_len1 _) ?_;unfold Builtin.«len»;exact zxG<|zxH<|zxG<|wpAny_callSpecial?_slot ty PySem.F.slot_dict_len<|call_meetsIn PySem.F.slot_dict_len ty PySem.F.entry_dict_len (PySem.F.args_dict_len_1 _) body ⟨rfl,show wpAny _ _ _ _ _ {s with toks:=s.toks+1}from zxG<|zxM<|zxH<|zxG<|wpAny_letGo<|by
  rw[if_neg<|by omega];rw[if_neg<|by rw[sizeLine_eq]at hz;omega];exact zxG<|wpAny_mkInt<|zxH ⟨_,rfl,q _ _<|(I.tok _).tok _⟩⟩
def Wr(hk:KdOk X kd):Xe X kd (.builtin "len") xN:=by
 intro pins s σ H xs us Q I r h;obtain⟨O,ds,z,ht,vl,he,q⟩:=h;obtain⟨x,d,rfl,vx,he⟩:=Q1 vl he;cases vx with
 |lst hr rl=>cases he;exact Y3 pins s σ H _ us Q I r ⟨_,_,rfl,.inl hr.sq,by rw[rl.length];exact yk q<|.int _⟩
 |tup rp hr rl=>cases he;exact Y3 pins s σ H _ us Q I r ⟨_,_,rfl,.inr hr,by rw[rl.length];exact yk q<|.int _⟩
 |str y=>
  obtain⟨c,rfl⟩:=zM he;exact Ld pins s σ H _ us Q I r ⟨_,rfl,c,yk q<|.int _⟩
 |dct hr rm=>
  cases he;obtain⟨u,rfl,ru⟩:=vals1 r;cases ru;obtain⟨z,hd,vs,rel,dd⟩:=G8 I hk hr;refine call_len_dict hd dd (by rw[<-rel.length];rw[sizeLine_eq]at z;omega) ?_;rw[<-rel.length,rm.length];exact⟨.int _,H,I.tok _,⟨_,rfl⟩,yk q<|.int _⟩
 |dt hH l rl=>
  cases he;obtain⟨u,rfl,ru⟩:=vals1 r;cases ru;refine JV I hH λt s' I'=>⟨.int _,H,I',⟨_,rfl⟩, ?_⟩;rw[List.length_zip,l,Nat.min_self,rl.length];exact yk q (.int _)
 |_=>cases he
def Ud:Xe X kd (.type "tuple") tupP:=by
 intro pins s σ H xs us Q I r h;obtain⟨O,ds,z,ht,vl,he,q⟩:=h;unfold tupP at he
 split at he
 . cases he;obtain⟨x,rfl,vx⟩:=Pa vl;cases vx with
   |lst hr rl=>exact WS pins s σ H _ us Q I r ⟨_,_,rfl,.inl ⟨hr.sq,Pi ht q rl⟩⟩
 . cases he;obtain⟨x,rfl,vx⟩:=Pa vl;cases vx with
   |tup rp hr rl=>exact WS pins s σ H _ us Q I r ⟨_,_,rfl,.inr ⟨hr,yk q rp⟩⟩
 . cases he
def Bc:Xe X kd (.type "list") lstP:=by
 intro pins s σ H xs us Q I r h;obtain⟨O,ds,z,ht,vl,he,q⟩:=h;obtain⟨x,d,rfl,vx,he⟩:=Q1 vl he;cases vx with
 |lst hr rl=>cases he;exact VV pins s σ H _ us Q I r ⟨_,_,rfl,.inl hr.sq,QV q rl⟩
 |tup rp hr rl=>cases he;exact VV pins s σ H _ us Q I r ⟨_,_,rfl,.inr hr,QV q rl⟩
 |_=>cases he
def Be(hc:X.calm=true):Xe X kd (.builtin "max") MP:=by
 intro pins s σ H xs us Q I r h;obtain⟨O,ds,z,ht,vl,he,q⟩:=h;cases vl with
 |nil=>cases he
 |cons vx vl=>
  cases vl with
  |nil=>
   obtain⟨ds,h0,he⟩:=bS_<|he;cases VF h0;obtain⟨ns,h1,he⟩:=bS_ he;obtain⟨c,rfl⟩:=zM he;cases vx with
   |lst hr rl=>
    obtain⟨u,rfl,ru⟩:=vals1 r;cases ru;obtain⟨its,rv,p,_⟩:=I.list hr.sq;rw[SM rl h1]at rv;have hi:=intsAre_of rv;obtain⟨ys,e⟩:=hi.allInts.items;have hns:ns=ys.toList.map (·.1):=by rw[<-hi.numsOf,<-nums_intItems,<-e]
    have hsz:0<ys.size:=by
     have h3:=c;rw[hns,zzB,zyT]at h3;exact h3
    have hl:=p.isList;rw[e]at hl;refine max_intList (I.ok.hd hc) hl hsz λv h' tk hv kp=>?_;obtain⟨t,rfl⟩:=intItems_at hv;obtain⟨k1,k2⟩:=argBest_gt (numAt ys)<|ys.size-1;refine⟨.int<|OS ns,H,I.kept kp,⟨t, ?_⟩,yk q<|.int _⟩
    congr 1
    refine(O6 ?_ λa ha=>?_).symm
    . rw[hns,numAt_eq];have hlt:argBest (λi j=>decide (numAt ys i > numAt ys j)) (ys.size-1)<(ys.toList.map (·.1)).length:=by rw[zzB,zyT];omega
      rw[zyF,zzE hlt];exact zxA hlt
    . rw[hns]at ha;obtain⟨j,hj,rfl⟩:=List.getElem_of_mem ha;have hj':=hj;rw[zzB,zyT]at hj;have:=k2 j (by omega);rw[numAt_eq ys j,zyF,zzE hj']at this;exact this
  |cons vy vl=>
   cases vl with
   |nil=>
    obtain⟨i,j,rfl,rfl,he⟩:=YU vx vy he;cases he;exact Bf hc pins s σ H _ us Q I r ⟨_,_,rfl,yk q<|.int _⟩
   |cons _ _=>cases he
end
def vH(env:Env):List (Str×NameKind)->List (Str×Addr)->List (Str×Addr)
 | [],cs=>cs
 |(n,k)::r,cs=>vH env r (if k == .free then((n,(env.cells.lookup n).getD 0)::cs)else cs)
def Ww(h:∀x ∈ scope.names,x.2 = .free->∃c,env.cells.lookup x.1=some c):closureFor scope env=pure (vH env scope.names []):=by
 have s:∀b i f,
  (∀d g i,f (d,g) i=if g == .free then(do let a <-cellOf env d;pure (.yield ((d,a)::i)))else pure<|.yield i)->
  (∀x ∈ b,x.2 = .free->∃c,env.cells.lookup x.1=some c)->(forIn b i f:Sem _)=pure (vH env b i):=by
  intro b
  induction b with
  |nil=>intro i f _ _;rfl
  |cons x r p=>
   intro i f l m;obtain⟨n,k⟩:=x;rw[List.forIn_cons,l];unfold vH
   by_cases j:(k == .free)=true
   . obtain⟨c,q⟩:=m (n,k) zzF (by simpa using j);rw[if_pos j,if_pos j];have e:cellOf env n=pure c:=by unfold cellOf;rw[q]
     rw[e,q];exact p _ f l λy o=>m y<|zzD _ o
   . rw[if_neg j,if_neg j];exact p _ f l λy o=>m y<|zzD _ o
 simp only[closureFor];rw[s scope.names [] _ (λd g i=>?_) h]
 . rfl
 . rfl
theorem Kw:∀(names:List (Str×NameKind)) (cs:List (Str×Addr)) (p:Str×Addr),p ∈ vH env names cs->p ∈ cs\/((p.1,NameKind.free) ∈ names/\p.2=(env.cells.lookup p.1).getD 0)
 | [],_,_,h=>.inl h
 |(n,k)::r,b,p,h=>by
  unfold vH at h
  rcases Kw r _ p h with h|h
  . by_cases a:(k == .free)=true
    . rw[if_pos a]at h
      rcases zzC.mp h with e|h
      . subst e;have:k = .free:=by simpa using a
        subst this;exact .inr ⟨zzF,rfl⟩
      . exact .inl h
    . rw[if_neg a]at h;exact .inl h
  . exact .inr ⟨zzD _ h.1,h.2⟩
theorem PV:∀(names:List (Str×NameKind)) (cs:List (Str×Addr)) (p:Str×Addr),p ∈ cs->p ∈ vH env names cs
 | [],_,_,h=>h
 |(n,k)::r,a,p,h=>by
  unfold vH;refine PV r _ p ?_
  split
  . exact zzD _ h
  . exact h
theorem KF:∀(names:List (Str×NameKind)) (cs:List (Str×Addr)) (x:Str),(x,NameKind.free) ∈ names->(x,(env.cells.lookup x).getD 0) ∈ vH env names cs
 |(n,k)::r,a,x,h=>by
  unfold vH
  rcases zzC.mp h with e|h
  . cases e;exact PV r _ _ (by simp)
  . exact KF r _ x h
theorem Z9:∀{l:List (Str×α)},(∀p ∈ l,p.1=x->p.2=a)->(∃b,(x,b) ∈ l)->l.lookup x=some a
 | [],_,h=>by obtain⟨_,h⟩:=h;cases h
 |(k,v)::r,u,h=>by
  rw[List.lookup_cons];cases hb:x==k with
  |true=>
   have:=u (k,v) zzF (beq_iff_eq.mp hb).symm;exact congrArg some this
  |false=>
   refine Z9 (λp c=>u p<|zzD _ c) ?_;obtain⟨b,h⟩:=h
   rcases zzC.mp h with e|h
   . cases e;simp at hb
   . exact⟨b,h⟩
theorem Q_:∀(names:List (Str×NameKind)) (h:Heap) (acc:List (Str×Addr)) (p:Str×Addr),p ∈ cellsFrom h.objs.size names acc->
 p ∈ acc\/((p.1,NameKind.cell) ∈ names/\(pushCells h names).IsCell p.2 none/\h.objs.size<=p.2)
 | [],_,_,_,m=>.inl m
 |(n,k)::r,h,b,p,m=>by
  unfold cellsFrom at m;unfold pushCells
  split at m
  . rename_i a;rw[if_pos a];have e:(h.push {cls:=.type "cell",data:=.cell none}).objs.size=h.objs.size+1:=zxN ..;rw[<-e]at m
    rcases Q_ r _ _ p m with m|⟨c,d,f⟩
    . rcases zzC.mp m with g|m
      . subst g;have:k = .cell:=by simpa using a
        subst this;refine .inr ⟨zzF, ?_,zzN _⟩;have z:(h.push {cls:=.type "cell",data:=.cell none}).IsCell h.objs.size none:=⟨_,zxK _ rfl,rfl⟩;exact z.keeps<|pushCells_keeps r _
      . exact .inl m
    . exact .inr ⟨zzD _ c,d,by rw[e]at f;omega⟩
  . rename_i a;rw[if_neg a]
    rcases Q_ r h b p m with m|⟨c,d,f⟩
    . exact .inl m
    . exact .inr ⟨zzD _ c,d,f⟩
theorem Yv:∀(names:List (Str×NameKind)) (n:Nat) (acc:List (Str×Addr)) (p:Str×Addr),p ∈ acc->p ∈ cellsFrom n names acc
 | [],_,_,_,m=>m
 |(_,k)::r,n,a,p,m=>by
  unfold cellsFrom
  split
  . exact Yv r _ _ p<|zzD _ m
  . exact Yv r _ _ p m
theorem Ug:∀(names:List (Str×NameKind)) (n:Nat) (acc:List (Str×Addr)) (x:Str),(x,NameKind.cell) ∈ names->∃c,(x,c) ∈ cellsFrom n names acc
 |(y,k)::r,n,a,x,m=>by
  unfold cellsFrom
  rcases zzC.mp m with e|m
  . cases e;rw[if_pos<|by decide];exact⟨n,Yv r _ _ _ zzF⟩
  . split
    . exact Ug r _ _ x m
    . exact Ug r _ _ x m
theorem QS:∀(names:List (Str×NameKind)) (n:Nat) (acc:List (Str×Addr)),(∀p ∈ acc,p.2<n)->(∀p ∈ acc,∀q ∈ acc,p.2=q.2->p.1=q.1)->∀p ∈ cellsFrom n names acc,∀q ∈ cellsFrom n names acc,p.2=q.2->p.1=q.1
 | [],_,_,_,h=>h
 |(y,k)::r,n,c,b,h=>by
  unfold cellsFrom
  split
  . refine QS r (n+1) _ (λp m=>?_) λp m q a e=>?_
    . rcases zzC.mp m with z|m
      . subst z;exact Nat.lt_succ_self _
      . exact zxB<|b p m
    . rcases zzC.mp m with z|m
      . rcases zzC.mp a with d|a
        . rw[z,d]
        . subst z;have:=b q a;rw[<-e]at this;exact absurd this<|Nat.lt_irrefl _
      . rcases zzC.mp a with d|a
        . subst d;have:=b p m;rw[e]at this;exact absurd this<|Nat.lt_irrefl _
        . exact h p m q a e
  . exact QS r n c b h
section
variable{M:Model}{A:Around}{E:Value->Shared->Prop}{s:Shared}
def XT(scope:Scope)(env:Env)(cl:List (Str×Addr))(L:Addr):Env:=
 {scope:=relabel scope env,locals:=L,globals:=env.globals,cells:=cellsFrom (L+1) scope.names cl,qual:=env.qual,func:=none,code:=env.code,frame:=env.frame,builtins:=env.builtins}
def KU
 (h:∀h' env',{env' with scope:=relabel scope env}=XT scope env cl s.heap.objs.size->env'.locals=s.heap.objs.size->(∀b o,s.heap.get? b=some o->h'.get? b=some o)->h'.Ns s.heap.objs.size (λ_=>none)->
  (∀p ∈ cellsFrom (s.heap.objs.size+1) scope.names cl,p ∈ cl\/((p.1,NameKind.cell) ∈ scope.names/\h'.IsCell p.2 none/\s.heap.objs.size+1<=p.2))->Q env' {s with heap:=h'}):
 wpAny M A (newFunctionEnv scope env.globals cl [] env.qual none .none<|some env) Q E s:=by
 simp only[newFunctionEnv,Option.isSome_some,if_true];refine zxG<|wpAny_alloc ?_;refine zxG<|wpAny_layCells _ (λd a c=>by cases hkc:a==NameKind.cell<;>simp[hkc]) _ _ _ _ ?_;have e:(s.heap.push {cls:=.type "dict",data:=.dict #[]}).objs.size=s.heap.objs.size+1:=zxN ..;refine zxG<|zxH<|zxH<|h _ _ ?_ rfl (λb o q=>pushCells_keeps _ _ b o<|zxI _ q) ((Heap.Ns.new s.heap _).keeps<|pushCells_keeps _ _) λp m=>?_
 . unfold XT;rw[<-e]
 . rw[<-e]at m
   rcases Q_ _ _ _ p m with m|⟨g,i,f⟩
   . exact .inl m
   . exact .inr ⟨g,i,by rw[e]at f;exact f⟩
end
abbrev xa(X:Cx)(N:List Str)(scope:Scope)(cl:List (Str×Addr))(s:Shared)(H:Hp)(fp:List Addr):Cx:=
 {X with N:=N,s₀:=s,H₀:=H,env:=XT scope X.env cl<|s.heap.objs.size+1,outer:=X.stack,ex:=fp,fn:=λx=>scope.names.lookup x==some .cell,pn:=[],xe:=λ_ _=>False}
def u6(σ:St):Option Nat->Option V
 |none=>none
 |some j=>(σ[j]?).getD none
def Zc(cap:List (Option Nat))(σ:St):St:=cap.map<|u6 σ
def Za(N XN:List Str)(names:List (Str×NameKind))(envNames:List (Str×NameKind))(cap:List (Option Nat)):Bool:=
 N.length==cap.length&&(N.zip cap).all (λp=>match p.2 with|none=>true|some j=>XN[j]? == some p.1&&names.contains (p.1,NameKind.free)) &&
 names.all (λp=>p.2 != .free||envNames.lookup p.1==some .cell||envNames.lookup p.1==some .free)&&decide (names.map (·.1)).Nodup
def B6(X:Cx)(ifs:List Expr)(t:TT):Prop:=
 ∀(pins:List (Addr×Obj)) (s:Shared) (σ:St) (H:Hp) (Q:Bool->Hp->Prop),Inv X pins σ H s->t σ H Q->
  wpAny (model X.prog X.w) X.A (forIn ifs true λc r=>if r=true then do let ok <-isTrue c X.env (eval c X.env);pure (ForInStep.yield ok)else pure<|ForInStep.yield r) (TP X pins σ Q) X.xe s
def O5:B6 X [] (λ_ H Q=>Q true H):=λa s σ H Q I h=>wpAny_tests_nil ⟨H,I,h⟩
def Iv(h:PT X c t):B6 X [c] t:=λa s σ H Q I q=>wpAny_tests_one<|h a s σ H Q I q
def H9(wi:TI)(cap:List (Option Nat))(g:TG)(tt:TT)(te:TE):TE:=λσ H Q=>wi σ H λJ H1=>∃W:Nat->Nat->List V->Hp->Prop,(∃m,W 0 m [] H1)/\∀i m ys H,W i m ys H->ys.length<=sizeLine/\
 ((J.stop i H/\∀p,H p=none->Q (.ref p) (upd H p<|.lst ys))\/(J.go i H/\∀x H',J.yld i H x H'->g x (Zc cap σ) H' λσ2 H2=>(∀(j:Nat) v,(Zc cap σ)[j]? = some (some v)->σ2[j]? = some (some v))/\
   tt σ2 H2 λb H3=>if b=true then ys.length<sizeLine/\te σ2 H3 λy H4=>∃m',m'<m/\W (i+1) m' (ys++[y]) H4 else ∃m',m'<m/\W (i+1) m' ys H3))
section
variable{prog:Program}{w:World}{A:Around}{E:Value->Shared->Prop}{R:Result->Shared->Prop}{s:Shared}
def KS(I:Nat->Shared->Prop)
 (turn:∀n s (E:Value->Shared->Prop),I n s->wpAny (model prog w) A (pyNext it) (λr s₁=>match r with
  |none=>R (.ok .next) s₁
  |some v=>wpAny (model prog w) A (letOwnedTupleGo target it v) (λ_ s₁=>wpAny (model prog w) A (assign target env v) (λ_ s₂=>
   wpAny (model prog w) A (forIn ifs true λc r=>if r=true then do let ok <-isTrue c env (eval c env);pure (ForInStep.yield ok)else pure<|ForInStep.yield r) (λok s₃=>
            if ok=true then wpAny (model prog w) A (eval elt env) (λx s₄=>
             wpAny (model prog w) A (call (.builtin "list.append") [acc,x]) (λ_ s₅=>∃m,m<n/\I m s₅) E s₄) E s₃
            else ∃m,m<n/\I m s₃) E s₂) E s₁) E s₁) E s)
 (n:Nat) (h:I n s):
 codeAny (model prog w) A (.compLoop (.ListComp elt [⟨target,iter,ifs,0⟩] scope pos) 0 it acc env) R s:=by
 refine codeAny_loop rfl I (λn s e=>?_) n h;refine wpAny_noted ?_;rw[compTurn_list];refine zxG<|wpAny_standAt<|zxG<|zxO (turn n s _ e) (λr f b=>?_) λ_ _ a=>a;cases r with
 |none=>exact zxH b
 |some v=>
  refine zxG<|zxO b (λ_ f b=>?_) λ_ _ a=>a;refine zxG<|zxO b (λ_ k g=>zxG<|zxO g (λok l d=>?_) λ_ _ a=>a) λ_ _ a=>a;cases ok with
  |false=>exact zxH ⟨rfl,d⟩
  |true=>
   exact zxG<|zxG<|zxO d (λx o i=>zxG<|zxO i (λ_ p j=>zxH<|zxH ⟨rfl,j⟩) λ_ _ a=>a) λ_ _ a=>a
end
structure CapOk(N XN:List Str)(names:List (Str×NameKind))(envNames:List (Str×NameKind))(cap:List (Option Nat)):Prop where
 len:N.length=cap.length
 at_:∀(i:Nat) x (j:Nat),N[i]? = some x->cap[i]? = some (some j)->XN[j]? = some x/\(x,NameKind.free) ∈ names
 fr:∀p ∈ names,p.2 = .free->envNames.lookup p.1=some .cell\/envNames.lookup p.1=some .free
 nd:(names.map (·.1)).Nodup
def Mm(h:Za N XN names envNames cap=true):CapOk N XN names envNames cap:=by
 unfold Za at h;simp only[zyC,beq_iff_eq,List.all_eq_true,decide_eq_true_eq]at h;obtain⟨⟨⟨a,b⟩,c⟩,d⟩:=h;refine⟨a,λi x j f g=>?_,λp k e=>?_,d⟩
 . have m:(x,some j) ∈ N.zip cap:=zyA (by rw[List.getElem?_zip_eq_some];exact⟨f,g⟩);have:=b _ m;simp only[zyC,beq_iff_eq]at this;exact⟨this.1,by simpa using this.2⟩
 . have:=c p k;rw[e]at this;simpa using this
def KZ{names:List (Str×NameKind)}(h:(names.map (·.1)).Nodup)(m:(x,k) ∈ names)(m':(x,k') ∈ names):k=k':=by
 induction names with
 |nil=>cases m
 |cons p r ih=>
  obtain⟨h1,h2⟩:=zzW.mp<|h
  rcases zzC.mp m with e|m
  . rcases zzC.mp m' with e'|m'
    . rw[<-e]at e';cases e';rfl
    . exact absurd (zxE.mpr ⟨_,m',by rw[<-e]⟩) h1
  . rcases zzC.mp m' with e'|m'
    . exact absurd (zxE.mpr ⟨_,m,by rw[<-e']⟩) h1
    . exact ih h2 m m'
def QX{names:List (Str×NameKind)}(h:(names.map (·.1)).Nodup)(m:(x,k) ∈ names):names.lookup x=some k:=
 Z9 (λp a e=>by obtain⟨y,b⟩:=p;cases(e);exact KZ h a m) ⟨k,m⟩
def Xs(x):(relabel scope env).names.lookup x=(scope.names.lookup x).map λk=>if(k == .free&&env.scope.kind == .function&&env.kindOf x==some .cell)=true then NameKind.cell else k:=by
 unfold relabel;generalize scope.names=a
 induction a with
 |nil=>rfl
 |cons p r b=>
  obtain⟨n,k⟩:=p;rw[zyS,List.lookup_cons (k:=n)];cases hb:x==n with
  |true=>
   have e:=beq_iff_eq.mp hb;subst e;show List.lookup x ((if _=true then _ else _)::_)=_;show _=some (if _=true then NameKind.cell else k)
   split
   . rw[List.lookup_cons,hb]
   . rw[List.lookup_cons,hb]
  |false=>
   show List.lookup x ((if _=true then _ else _)::_)=_
   split
   . rw[List.lookup_cons,hb];exact b
   . rw[List.lookup_cons,hb];exact b
def EA(I:Inv X pins σ H s)(C:CapOk N X.N scope.names X.env.scope.names cap)(hk:scope.kind = .function)
 (hf:∀b ∈ fp,RA X pins H b) (ho:∀b ∈ fp,∃o,s.heap.get? b=some o)
 (old:∀b o,s.heap.get? b=some o->h'.get? b=some o) (ns:h'.Ns (s.heap.objs.size+1) (λ_=>none))
 (hc:∀p ∈ cellsFrom (s.heap.objs.size+1+1) scope.names (vH X.env scope.names []),p ∈ vH X.env scope.names []\/((p.1,NameKind.cell) ∈ scope.names/\h'.IsCell p.2 none/\s.heap.objs.size+1+1<=p.2)):
 Inv (xa X N scope (vH X.env scope.names []) s H fp) [] (Zc cap σ) H {s with heap:=h'}:=by
 have has:∀x,(x,NameKind.free) ∈ scope.names->∃c,X.env.cells.lookup x=some c:=λx m=>I.ok.has x<|C.fr _ m rfl;have clo:∀p ∈ vH X.env scope.names [],X.env.cells.lookup p.1=some p.2/\(p.1,NameKind.free) ∈ scope.names:=λp m=>by
  rcases Kw _ _ p m with z|⟨z1,z2⟩
  . cases z
  . obtain⟨c,e⟩:=has _ z1;rw[e]at z2;exact⟨by rw[e];exact congrArg some z2.symm,z1⟩
 have look:∀x c,(cellsFrom _ scope.names _).lookup x=some c->_\/_:=λx c e=>by
  rcases hc _ (mem_of_lookup e)with m|m
  . exact .inl<|clo _ m
  . exact .inr m
 have lt:∀x c,X.env.cells.lookup x=some c->c<s.heap.objs.size:=λx c e=>by obtain⟨v,z⟩:=I.cell x c e;exact z.lt
 have lookF:∀x,(x,NameKind.free) ∈ scope.names->∃c,(cellsFrom _ scope.names _).lookup x=some c/\X.env.cells.lookup x=some c:=λx m=>by
  obtain⟨c,e⟩:=has x m;have m1:=Yv scope.names (s.heap.objs.size+1+1) _ _<|KF (env:=X.env) scope.names [] x m;refine⟨c,Z9 (λp hp ep=>?_) ⟨_,m1⟩,e⟩
  rcases hc p hp with z|z
  . have:=(clo p z).1;rw[ep,e]at this;exact(zzZ this).symm
  . rw[ep]at z;exact absurd (KZ C.nd z.1 m) (by decide)
 have kinds:∀x,((relabel scope X.env).names.lookup x=some .cell\/(relabel scope X.env).names.lookup x=some .free)->(x,NameKind.free) ∈ scope.names\/(x,NameKind.cell) ∈ scope.names:=λx h=>by
  rw[Xs]at h;cases e:scope.names.lookup x with
  |none=>rw[e]at h;rcases h with h|h<;>cases h
  |some k=>
   have m:=mem_of_lookup e;cases k with
   |free=>exact .inl m
   |cell=>exact .inr m
   |_=>rw[e]at h;rcases h with h|h<;>(simp at h)
 have lsz:=ns.lt;refine⟨⟨I.ok.mod,hk,I.ok.glob,I.ok.blt,zyX _, ?_, ?_, ?_,I.ok.hd,I.ok.frames,.inl rfl, ?_,I.bs,zzO I.ok.bsz I.sz, ?_, ?_,I.stack,I.stkFree⟩,rfl,I.bare,(Un.kept old),⟨_,ns, ?_⟩, ?_,I.hok.fresh<|zyX _, ?_,(λ_ z=>nomatch z),I.hok.kept old, ?_⟩
 . intro x y c e1 e2;refine QS scope.names _ _ (λp m=>?_) (λp m q m' e=>?_) (x,c) (mem_of_lookup e1) (y,c) (mem_of_lookup e2) rfl
   . exact zxB<|zxB<|lt _ _ (clo p m).1
   . refine I.ok.inj _ _ _ (clo p m).1 ?_;rw[e];exact(clo q m').1
 . intro x h
   rcases kinds x h with m|m
   . obtain⟨c,e,_⟩:=lookF x m;exact⟨c,e⟩
   . obtain⟨c,e⟩:=Ug scope.names _ _ x m;cases q:(cellsFrom _ scope.names _).lookup x with
     |some c'=>exact⟨c',q⟩
     |none=>
      exfalso;have:=List.lookup_eq_none_iff.mp q (x,c) e;simp at this
 . intro x c hx e;have hx:=hx;have m:=mem_of_lookup<|beq_iff_eq.mp hx
   rcases look x c e with z|z
   . exact absurd (KZ C.nd z.2 m) (by decide)
   . exact zzO (zzO (zyX _)<|zyX _) z.2.2
 . intro b hb;obtain⟨o,e⟩:=ho b hb;refine⟨zzQ<|zxB<|zxJ e,λx c ec=>?_⟩
   rcases look x c ec with z|z
   . exact(hf b hb).2.2.2.2.1 x c z.1
   . have:=zxJ e;intro q;subst q;exact absurd (zzK this<|zzO (zzO (zyX _)<|zyX _) z.2.2)<|Nat.lt_irrefl _
 . intro b o e hb
   rcases(hf b hb).2.2.2.1 with z|z
   . exact I.ok.noex b o e z
   . exact absurd (zzK (zxJ e)<|zzO I.ok.bsz z)<|Nat.lt_irrefl _
 . intro b hb hm
   rcases zzC.mp (I.stkSub b hm)with z|z
   . exact(hf b hb).2.1 z
   . exact(hf b hb).2.2.1 z
 . intro i x v e1 e2 e3;have e2:=e2;unfold Zc at e2;rw[zzI]at e2;cases ec:cap[i]? with
   |none=>rw[ec]at e2;cases e2
   |some c=>
    cases c with
    |none=>rw[ec]at e2;cases e2
    |some j=>
     rw[ec]at e2;have e2:(σ[j]?).getD none=some v:=zzZ e2;obtain⟨xn,m⟩:=C.at_ i x j e1 ec;have es:σ[j]? = some (some v):=by
      cases q:σ[j]? with
      |none=>rw[q]at e2;cases e2
      |some y=>rw[q]at e2;exact congrArg some e2
     have kf:=C.fr _ m rfl;obtain⟨mm,hn,hl⟩:=I.loc;obtain⟨u,r,l⟩:=hl j x v xn es (by rcases kf with k|k;exact .inr<|.inl k;exact .inr<|.inr k);refine⟨u,r,.inr ⟨?_, ?_⟩⟩
     . show(relabel scope X.env).names.lookup x=some .cell\/(relabel scope X.env).names.lookup x=some .free;rw[Xs,QX C.nd m];show some (if _ then _ else _)=_\/some (if _ then _ else _)=_
       split
       . exact .inl rfl
       . exact .inr rfl
     . obtain⟨c,ec,eo⟩:=lookF x m;refine⟨c,ec, ?_⟩
       rcases l with⟨k1,_⟩|⟨_,c2,e4,z⟩
       . have k1:X.env.scope.names.lookup x=some .local:=k1
         rcases kf with k|k<;>(rw[k1]at k;cases k)
       . rw[eo]at e4;cases e4;exact z.keeps old
 . intro x c e
   rcases look x c e with z|z
   . obtain⟨v,q⟩:=I.cell x c z.1;exact⟨v,q.keeps old⟩
   . exact⟨none,z.2.1⟩
 . intro x c e
   rcases look x c e with z|z
   . exact I.freeC x c z.1
   . exact I.hok.fresh<|zzO (zzO (zyX _)<|zyX _) z.2.2
 . show _=_;unfold Zc;rw[zzB,C.len]
abbrev lobj(its:List Value):Obj:={cls:=.type "list",data:=.seq its.toArray its.length}
section
variable{X:Cx}{pins:List (Addr×Obj)}{σ:St}{H2:Hp}{s2:Shared}{elt tg iter:Expr}{ifs:List Expr}{scope:Scope}{pos:Pos}{N:List Str}{cap:List (Option Nat)}{g:TG}{tt:TT}{te:TE}{wi:TI}
set_option maxHeartbeats 1000000
def Tx{Q:VK}{R:Value->Addr->Result->Shared->Prop}
 (hc:X.calm=true) (C:CapOk N X.N scope.names X.env.scope.names cap) (hk:scope.kind = .function)
 (hg:∀cl s H fp,PG (xa X N scope cl s H fp) tg g) (ht:∀cl s H fp,B6 (xa X N scope cl s H fp) ifs tt) (he:∀cl s H fp,PE (xa X N scope cl s H fp) elt te)
 (I2:Inv X pins σ H2 s2) (T:Turn X.prog X.w X.K tg J fp it tn) (st2:tn 0 s2.heap) (f2:∀b ∈ fp,RA X pins H2 b)
 (W:Nat->Nat->List V->Hp->Prop) (m0:Nat) (w0:W 0 m0 [] H2)
 (turn:∀i m ys H,W i m ys H->ys.length<=sizeLine/\((J.stop i H/\∀p,H p=none->Q (.ref p) (upd H p<|.lst ys))\/(J.go i H/\∀x H',J.yld i H x H'->g x (Zc cap σ) H' λσ2 H2=>(∀(j:Nat) v,(Zc cap σ)[j]? = some (some v)->σ2[j]? = some (some v))/\
  tt σ2 H2 λb H3=>if b=true then ys.length<sizeLine/\te σ2 H3 λy H4=>∃m',m'<m/\W (i+1) m' (ys++[y]) H4 else ∃m',m'<m/\W (i+1) m' ys H3)))
 (fin:∀ys H3 s1 m,Inv X pins σ (upd H3 s2.heap.objs.size<|.lst ys) s1->s1.heap.Ns (s2.heap.objs.size+1) m->RA X pins (upd H3 s2.heap.objs.size<|.lst ys) (s2.heap.objs.size+1)->
  Q (.ref s2.heap.objs.size) (upd H3 s2.heap.objs.size<|.lst ys)->R (.ref s2.heap.objs.size) (s2.heap.objs.size+1) (.ok .next) s1):
 wpAny (model X.prog X.w) X.A (newList []) (λacc s₃=>wpAny (model X.prog X.w) X.A (newFunctionEnv scope X.env.globals (vH X.env scope.names []) [] X.env.qual none .none<|some X.env) (λcenv s₄=>
  codeAny (model X.prog X.w) X.A (.compStart (.ListComp elt [⟨tg,iter,ifs,0⟩] scope pos) 0 (.ref it) acc {cenv with scope:=relabel scope X.env}) (R acc cenv.locals) s₄) E s₃) E s2:=by
 refine zxL<|KU λh' env' eE eL old hns hcells=>?_;have e1:(s2.heap.push {cls:=.type "list",dict:=none,data:=.seq ([]:List Value).toArray}).objs.size=s2.heap.objs.size+1:=zxN ..;dsimp only at eE eL old hns hcells;rw[e1]at eE eL hns hcells;have hD0:(s2.heap.push {cls:=.type "list",dict:=none,data:=.seq ([]:List Value).toArray}).get? s2.heap.objs.size=some (lobj []):=zxK _ rfl;have hD:=old _ _ hD0;have old':∀b o,s2.heap.get? b=some o->h'.get? b=some o:=λb o q=>old b o<|zxI _ q;have fex:∀b ∈ fp,∃o,s2.heap.get? b=some o:=λb hb=>by obtain⟨o,e,_⟩:=T.obj _ _ st2 b hb;exact⟨o,e⟩
 have flt:∀b ∈ fp,b<s2.heap.objs.size:=λb hb=>by obtain⟨o,e⟩:=fex b hb;exact zxJ e
 have I':=EA I2 C hk f2 fex old' hns hcells;rw[eE,eL];generalize hX:xa X N scope (vH X.env scope.names []) s2 H2 fp=X' at I';have xP:X'.prog=X.prog:=by rw[<-hX]
 have xw:X'.w=X.w:=by rw[<-hX]
 have xK:X'.K=X.K:=by rw[<-hX]
 have xA:X'.A=X.A:=by rw[<-hX]
 have xe:X'.env=XT scope X.env (vH X.env scope.names []) (s2.heap.objs.size+1):=by rw[<-hX]
 have xL:X'.env.locals=s2.heap.objs.size+1:=by rw[xe];rfl
 have xfs:X'.fs=B7 X.stack:=by rw[<-hX]
 have xex:X'.ex=fp:=by rw[<-hX]
 have xs:X'.s₀=s2:=by rw[<-hX]
 have xH:X'.H₀=H2:=by rw[<-hX]
 have xpn:X'.pn=[]:=by rw[<-hX]
 have xc:X'.calm=true:=by rw[<-hX];exact hc
 have xE:X'.xe=λ_ _=>False:=by rw[<-hX]
 have hg':PG X' tg g:=by rw[<-hX];exact hg _ _ _ _
 have ht':B6 X' ifs tt:=by rw[<-hX];exact ht _ _ _ _
 have he':PE X' elt te:=by rw[<-hX];exact he _ _ _ _
 have H2D:=I2.hok.fresh<|zzN _;have Dfs:s2.heap.objs.size ∉ X'.fs:=by
  rw[xfs];intro hm
  rcases zzC.mp (I2.stkSub _ hm)with z|z
  . exact absurd I2.lt (by rw[<-z];exact Nat.lt_irrefl _)
  . exact I2.nofs (zzN _) z
 have DL:s2.heap.objs.size≠X'.env.locals:=by rw[xL];exact zzQ<|Nat.lt_succ_self _
 have pinD:∀{σ':St}{H':Hp}{s':Shared}{its:List Value}{ps:List (Addr×Obj)},Inv X' ps σ' H' s'->s'.heap.get? s2.heap.objs.size=some (lobj its)->H' s2.heap.objs.size=none->Inv X' [(s2.heap.objs.size,lobj its)] σ' H' s':=λI e n=>
  I.pins_of λp hp=>by
   cases zzR.mp hp;exact⟨e,n,DL,Dfs,λv z=>by cases z⟩
 have stat:∀{H':Hp}{its:List Value},(∀b ∈ fp,H' b=none)->∀b ∈ fp,RA X' [(s2.heap.objs.size,lobj its)] H' b:=λhn b hb=>by
  refine⟨hn b hb, ?_, ?_,.inl (by rw[xex];exact hb),(I'.ok.exf b<|by rw[xex];exact hb).2,λp hp=>?_⟩
  . exact(I'.ok.exf b<|by rw[xex];exact hb).1
  . exact I'.ok.exfs b (by rw[xex];exact hb)
  . rw[xpn,List.nil_append]at hp;cases zzR.mp hp;exact Nat.ne_of_gt<|flt b hb
 have loop:∀n s',(∃i ys its H3,Inv X' [(s2.heap.objs.size,lobj its)] (Zc cap σ) H3 s'/\tn i s'.heap/\(∀b ∈ fp,H3 b=none)/\yd ys its/\W i n ys H3)->
  codeAny (model X.prog X.w) X.A (.compLoop (.ListComp elt [⟨tg,iter,ifs,0⟩] scope pos) 0 (.ref it) (.ref s2.heap.objs.size)<|XT scope X.env (vH X.env scope.names [])<|s2.heap.objs.size+1)
   (R (.ref s2.heap.objs.size)<|s2.heap.objs.size+1) s':=by
  intro n s' h0;refine KS (λn s'=>∃i ys its H3,Inv X' [(s2.heap.objs.size,lobj its)] (Zc cap σ) H3 s'/\tn i s'.heap/\(∀b ∈ fp,H3 b=none)/\yd ys its/\W i n ys H3) ?_ n h0;clear h0 n s'
  rintro n s3 E' ⟨i,ys,its,H3,I3,st3,fr3,rv3,w3⟩
  obtain⟨hz,hstep⟩:=turn i n ys H3 w3
  rcases hstep with⟨stop,qn⟩|⟨go,step⟩
  . have:=T.done X' xP xw xK xc i _ s3 _ H3 E' I3 (stat fr3) st3 stop;rw[xA]at this;refine zxO this (λr s4 ⟨hr,I4⟩=>?_) λ_ _ z=>z;subst hr;obtain⟨gD,nD,_⟩:=I4.pin (s2.heap.objs.size,lobj its) (by rw[xpn];simp);obtain⟨m,hn,_⟩:=I4.loc;rw[xL]at hn;have b4:=I4.base;rw[xfs,xex,xH,xs]at b4;have nL:H3 (s2.heap.objs.size+1)=none:=by have:=I4.free;rw[xL]at this;exact this
    have neD:∀b o,s2.heap.get? b=some o->b≠s2.heap.objs.size:=λb o e=>zzQ<|zxJ e;have neH:∀b u,H2 b=some u->b≠s2.heap.objs.size:=λb u e z=>by rw[z,H2D]at e;cases e
    have ne3:∀b u,H3 b=some u->b≠s2.heap.objs.size:=λb u e z=>by rw[z,nD]at e;cases e
    have hok4:=I4.hok;rw[xP,xw]at hok4;refine fin ys H3 s4 m (I2.call' ?_ ⟨b4.keep,b4.slot,λb o e n hx=>?_,b4.there,λb xs e=>?_,λb o u e=>?_,λb ps e=>?_⟩ ?_ I4.bare λb hb=>?_) hn (I2.fpOk (zyX _)<|by rw[zJ<|Nat.ne_of_gt<|Nat.lt_succ_self _];exact nL)<|qn _ nD
    . have:=I4.os;rw[xs]at this;exact this
    . rw[zJ<|neD b o e];exact b4.free b o e n hx
    . rw[zJ<|neH b _ e];exact b4.tups b xs e
    . rw[zJ<|neH b _ e];exact b4.frzs b o u e
    . rw[zJ<|neH b _ e];exact b4.tbls b ps e
    . intro b u e
      by_cases hb:b=s2.heap.objs.size
      . subst hb;rw[yp]at e;cases e;exact⟨hz,its,its.length,rv3,gD⟩
      . rw[zJ hb]at e;exact(hok4 b u e).stay (λc v _ q=>q) (λc q=>by rw[zJ<|ne3 c _ q];exact q) λc xs q=>by rw[zJ<|ne3 c _ q];exact q
    . obtain⟨f0,f1,f3,f4,f5,f6⟩:=f2 b hb;exact⟨f4,f1,f5,f6⟩
  . have:=T.item X' xP xw xK xc i _ s3 _ H3 E' I3 (stat fr3) st3 go;rw[xA]at this;refine zxO this (λr s4 ⟨u,hr,h4⟩=>?_) λ_ _ z=>z;subst hr;refine zxO h4 (λ_ s5 ⟨x,H5,I5,r5,y5,st5,fr5⟩=>?_) λ_ _ z=>z;have I5':=I5.pinned (stat fr5)<|T.obj _ _ st5;have h6:=hg' _ s5 _ H5 x u _ I5' r5<|step x H5 y5;rw[xP,xw,xA,xe,xE]at h6;refine zxO h6 (λ_ s6 ⟨σ6,H6,I6,cap6,q6⟩=>?_) λ_ _ z=>z.elim;have h7:=ht' _ s6 σ6 H6 _ I6 q6;rw[xP,xw,xA,xe,xE]at h7;refine zxO h7 (λb s7 ⟨H7,I7,q7⟩=>?_) λ_ _ z=>z.elim;have keep:∀{H8:Hp}{s8:Shared},Inv X' _ σ6 H8 s8->Inv X' [(s2.heap.objs.size,lobj its)] (Zc cap σ) H8 s8/\tn (i+1) s8.heap/\∀b ∈ fp,H8 b=none:=λ{H8 s8} I8=>by
     refine⟨I8.unpinned.weak ?_ cap6,T.keep _ _ _ st5 λb hb o e=>(I8.pin (b,o)<|zzL _<|zzL _<|Y5 hb e).1,λb hb=>?_⟩
     . rw[I3.len];exact I8.len.symm
     . obtain⟨o,e,d⟩:=T.obj _ _ st5 b hb;exact(I8.pin (b,o)<|zzL _<|zzL _<|Y5 hb e).2.1
    cases b with
    |false=>
     obtain⟨m',hm,w7⟩:=q7;obtain⟨k1,k2,k3⟩:=keep I7;exact⟨m',hm,i+1,ys,its,H7,k1,k2,k3,rv3,w7⟩
    |true=>
     obtain⟨hz2,q7⟩:=q7;have h8:=he' _ s7 σ6 H7 _ I7 q7;rw[xP,xw,xA,xe,xE]at h8;refine zxO h8 (λyv s8 ⟨y,H8,I8,ry,m',hm,w8⟩=>?_) λ_ _ z=>z.elim;obtain⟨k1,k2,k3⟩:=keep I8;obtain⟨gD,nD,_⟩:=k1.pin (s2.heap.objs.size,lobj its) (by rw[xpn];simp);have hl:=rv3.length;refine append_at gD (λh9 sb gD9=>?_) (by rw[zzH];omega);have I9:=(k1.pins_of (pins':=[]) (λ_ z=>nomatch z)).turned (t':=s8.toks) (λb o hb e=>(sb.2 b hb).trans e) nD DL (.inr<|by rw[xs];exact zzN _) (λx c ec z=>by
      obtain⟨v,o,ho,hd⟩:=k1.cell x c ec;rw[z,gD]at ho;cases ho;cases hd) (λp hp=>by rw[xpn]at hp;cases hp)
     have gD9':h9.get? s2.heap.objs.size=some (lobj<|its++[yv]):=by
      rw[gD9]
      congr 1
      show({cls:=.type "list",data:=.seq _ _}:Obj)={cls:=.type "list",data:=.seq (its++[yv]).toArray (its++[yv]).length};rw[zzJ,List.length_singleton,List.push_toArray]
     refine⟨m',hm,i+1,ys++[y],its++[yv],H8,pinD I9 gD9' nD,T.keep _ _ _ k2 λb hb o e=>(sb.2 b<|zzQ<|flt b hb).trans e,k3,rv3.append<|.cons ry .nil,w8⟩
 have start:∃i ys its H3,Inv X' [(s2.heap.objs.size,lobj its)] (Zc cap σ) H3 {s2 with heap:=h'}/\tn i h'/\(∀b ∈ fp,H3 b=none)/\yd ys its/\W i m0 ys H3:=
  ⟨0,[],[],H2,pinD I' hD H2D,T.keep _ _ _ st2 λb hb o e=>old' b o e,λb hb=>(f2 b hb).1,.nil,w0⟩
 exact codeAny_compStart_list (loop m0 _ start)<|T.self _ 0 _ _ _ (T.keep _ _ _ st2 λb hb o e=>old' b o e)<|loop m0 _ start
def Ik(hc:X.calm=true)(hi:PI X tg iter wi)(hk:scope.kind = .function)(hcap:Za N X.N scope.names X.env.scope.names cap=true)
 (hg:∀cl s H fp,PG (xa X N scope cl s H fp) tg g) (ht:∀cl s H fp,B6 (xa X N scope cl s H fp) ifs tt) (he:∀cl s H fp,PE (xa X N scope cl s H fp) elt te)
 (hs:∀x,foldedSetIterable iter X.env x=pure x):PE X (.ListComp elt [⟨tg,iter,ifs,0⟩] scope pos) (H9 wi cap g tt te):=by
 intro a s σ H Q I h;have C:=Mm hcap;rw[eval_ListComp];refine wpAny_comprehension_free rfl hs (Ww λx m e=>I.ok.has x.1<|C.fr x m e) hk (λy m e=>QX C.nd<|by rw[<-e];exact m) ?_;refine thn (hi a s σ H _ I h) λv O i=>thn i λj k l=>?_;obtain⟨P,S,U,J,V,e,n,T,d,f2,W,⟨p,t⟩,c⟩:=l;subst e;refine Tx hc C hk hg ht he n T d f2 W p t c λY Z z m B D fl q=>?_;refine⟨m,D,λh' E=>?_⟩;obtain⟨F,f1,f3,G,K,L⟩:=fl;exact⟨.ref k.heap.objs.size,_,B.turned (t':=z.toks) (λb o M e=>(E.2 b M).trans e) F f1 G K L,rfl,q⟩
def Cy(hN:X.N.Nodup)(hiy:X.N[i]? = some y)(hy:Loc X.env.scope y)(hf:X.fn y=true\/X.env.scope.names.lookup y=some .local)
 (hsw:swapsWith (.ListComp elt [⟨tg,iter,ifs,0⟩] scope pos) (some<|.Name y py) spos.line X.env=pure true)
 (hc:X.calm=true) (hi:PI X tg iter wi) (hk:scope.kind = .function) (hcap:Za N X.N scope.names X.env.scope.names cap=true)
 (hg:∀cl s H fp,PG (xa X N scope cl s H fp) tg g) (ht:∀cl s H fp,B6 (xa X N scope cl s H fp) ifs tt) (he:∀cl s H fp,PE (xa X N scope cl s H fp) elt te)
 (hs:∀x,foldedSetIterable iter X.env x=pure x):PS X (.Assign [.Name y py] (.ListComp elt [⟨tg,iter,ifs,0⟩] scope pos) spos) (DW (H9 wi cap g tt te)<|EV i):=by
 intro c s σ H D I h;have C:=Mm hcap;rw[exec_Assign_Name_used _ _ _ _ hsw];refine zxG<|wpAny_standAt<|zxG ?_;refine zxG<|zxO (wpAny_comprehension_free rfl hs (Ww λx m e=>I.ok.has x.1<|C.fr x m e) hk (λy m e=>QX C.nd<|by rw[<-e];exact m) ?_) (λ_ d t=>zxH<|zxH t) λ_ _ e=>e;refine thn (hi c s σ H _ I h) λv s1 u=>thn u λB E F=>?_;obtain⟨it,fp,tn,J,H2,e,G,T,k,f2,W,⟨K,L⟩,f⟩:=F;subst e;refine Tx (Q:=λx M=>EV i x σ M D.nx) hc C hk hg ht he G T k f2 W K L f λys H3 s3 m O P fl q=>?_;obtain⟨S,f1,f3,U,p,V⟩:=fl;refine wpAny_assign_Name<|G9 O hN hiy hy (v:=.ref E.heap.objs.size) rfl (λY Z ⟨a,sb,j⟩=>?_) hf;refine⟨m,P.sameBut sb λz=>?_,λh' n=>?_⟩
 . rcases j with j|j
   . exact f1<|z.trans j
   . exact p y a j z.symm
 . exact⟨_,_,Z.turned (t':=Y.toks) (λb o hb e=>(n.2 b hb).trans e) S f1 U p V,q⟩
end
structure ItC(K:zzA)(kd:KD)(F:Addr->Prop)(H:Hp)(J:It)(ds:List Z_):Prop where
 all:∀(H2:Hp) (T:Addr->Prop),(∀b u,H b=some u->H2 b=some u)->(∀a,T a->H a=none/\H2 a≠none)->∀i,(i<ds.length->J.go i H2)/\(ds.length<=i->J.stop i H2)/\
  ∀v H3,J.yld i H2 v H3->(∀b o,H2 b=some o->H3 b=some o)/\∀x,ds[i]? = some x->Rp K kd (λa=>x.1=true/\(F a\/T a)) H3 v x.2
def pK(K:zzA)(kd:KD)(f:IF):TI:=λσ H R=>∃F B ad as ds as',Rel K kd F B [] ad as σ H/\f as=some (ds,as')/\
 ∀J ad' H',Rel K kd F B [] ad' as' σ H'->Grow (Gw [] ad) H (Gw [] ad') H'->ItC K kd (Lv F B (Gw [] ad') true) H' J ds->R J H'
@[irreducible] def Ja(X:Cx)(kd:KD)(tg iter:Expr)(f:IF):Prop:=PI X tg iter<|pK X.K kd f
def QO(os:List O):List Z_:=os.map λo=>match o with | .lf st d=>(st,d)|o=>(false,o.toD)
def rj(as:AS):RV->Option (List Z_)
 | .ow o=>N7 (o.str,o.toD)
 | .bo i=>match as[i]? with
  |some (some (.nd .ls os))=>some (QO os)
  |some (some (.nd .tp os))=>some (QO os)
  |_=>none
def yA(f:EF):IF:=λas=>(f as).bind λp=>(rj p.2 p.1).bind λds=>some (ds,p.2)
section
variable{K:zzA}{kd:KD}{F B:Addr->Prop}{G:Addr->Prop}{T:List Addr}{ad:Ad}{as:AS}{σ:St}{H H':Hp}
inductive RpC(K:zzA)(kd:KD)(F:Addr->Prop)(H:Hp):List V->List Z_->Prop
 |nil:RpC K kd F H [] []
 |cons {v:V}{x:Z_}{vs:List V}{ds:List Z_}:Rp K kd (λa=>x.1=true/\F a) H v x.2->RpC K kd F H vs ds->RpC K kd F H (v::vs) (x::ds)
theorem RpC.length(h:RpC K kd F H vs ds):vs.length=ds.length:=by
 induction h with
 |nil=>rfl
 |cons _ _ ih=>exact congrArg (· + 1) ih
def RpC.get{vs}{ds}{i:Nat}{x}(h:RpC K kd F H vs ds)(e:ds[i]? = some x):∃v,vs[i]? = some v/\Rp K kd (λa=>x.1=true/\F a) H v x.2:=by
 induction h generalizing i with
 |nil=>simp at e
 |cons h r ih=>
  cases i with
  |zero=>simp at e;subst e;exact⟨_,rfl,h⟩
  |succ i=>
   obtain⟨v,h1,h2⟩:=ih (by simpa using e);exact⟨v,by simpa using h1,h2⟩
def Rp.since{Ob}{v}{d}{T}(k:∀b u,H b=some u->H' b=some u)(hT:∀a,T a->H a=none)(h:Rp K kd Ob H v d):Rp K kd (QK Ob T) H' v d:=
 Rp.grow (W':=T) (H':=H') ⟨λb u q _=>k b u q,λb z=>.inr<|hT b z⟩ (h.less λa z=>z.elim id False.elim)
def Gh{st}{vs}{ds}(h:RpL K kd (Lv F B G st) H vs ds):RpC K kd (Lv F B G true) H vs (kids st ds):=
 RpL.ind (P:=λvs ds=>RpC K kd (Lv F B G true) H vs<|kids st ds) .nil (λ{v d vs ds} h _ ih=>by
  refine .cons (x:=(zR d||st,d)) ?_ ih;cases e:zR d with
  |true=>exact h.flat e
  |false=>
   refine h.less λa z=>?_;have zs:st=true:=z.1;rw[zs];exact z.2) h
def IS{vs}{os}{fp}(h:vG K kd F B G H vs os fp):RpC K kd (Lv F B G true) H vs (QO os):=
 RoL.ind (P:=λvs os _=>RpC K kd (Lv F B G true) H vs<|QO os) .nil (λ{v o vs os fp fq} h _ ih=>by
  have ha:=LR h;refine .cons ?_ ih;cases h with
  |lf rp=>exact rp.less λa z=>(by have zs:=z.1;dsimp only at zs;rw[zs];exact z.2)
  |ls=>exact ha.less λa z=>nomatch z.1
  |dc=>exact ha.less λa z=>nomatch z.1
  |ob=>exact ha.less λa z=>nomatch z.1
  |dt=>exact ha.less λa z=>nomatch z.1
  |tp=>exact ha.less λa z=>nomatch z.1) h
def Pt{a}{vs}{ds}(h:Xr K H a vs)(r:RpC K kd F H vs ds):ItC K kd F H (sE K a) ds:=⟨λH3 T k hT i=>by
 have hr3:Xr K H3 a vs:=by
  rcases h with(h|⟨o,h⟩)|h
  . exact .inl<|.inl<|k _ _ h
  . exact .inl<|.inr ⟨o,k _ _ h⟩
  . exact .inr h
 refine⟨λhi=>?_,λhi=>⟨_,hr3,by rw[r.length];exact hi⟩,λv H4 hy=>?_⟩
 . obtain⟨u,hu,_⟩:=r.get<|zzE hi;exact⟨_,u,hr3,hu⟩
 . obtain⟨rfl,hv⟩:=hy;refine⟨λ_ _ z=>z,λd hd=>?_⟩;obtain⟨u,hu,ru⟩:=r.get hd;have:=hv _ hr3;rw[hu]at this;cases this;exact(ru.since k λa z=>(hT a z).1).less λa z=>z.2.elim (λy=>.inl ⟨z.1,y⟩) .inr⟩
def Ff{a}{vs}{ds}(h:Q8 K H a vs)(r:RpC K kd F H vs ds):ItC K kd F H (sH K a) ds:=⟨λH3 T k hT i=>by
 have hr3:Q8 K H3 a vs:=by
  rcases h with(h|⟨o,h⟩)|h
  . exact .inl<|.inl<|k _ _ h
  . exact .inl<|.inr ⟨o,k _ _ h⟩
  . exact .inr h
 refine⟨λhi=>?_,λhi=>⟨_,hr3,by rw[r.length];exact hi⟩,λv H4 hy=>?_⟩
 . obtain⟨u,hu,_⟩:=r.get<|zzE hi;exact⟨_,u,hr3,hu⟩
 . obtain⟨rfl,hv⟩:=hy;refine⟨λ_ _ z=>z,λd hd=>?_⟩;obtain⟨u,hu,ru⟩:=r.get hd;have:=hv _ hr3;rw[hu]at this;cases this;exact(ru.since k λa z=>(hT a z).1).less λa z=>z.2.elim (λy=>.inl ⟨z.1,y⟩) .inr⟩
def CT(lo)(n:Nat):ItC K kd F H (sf lo n) (xb lo n):=⟨λH2 T k hT i=>by
 have hl:(xb lo n).length=n:=by unfold xb;simp
 refine⟨λhi=>by rw[hl]at hi;exact hi,λhi=>by rw[hl]at hi;exact hi,λv H3 hy=>?_⟩;obtain⟨rfl,rfl⟩:=hy;refine⟨λ_ _ z=>z,λd hd=>?_⟩;have hi:i<n:=by rw[<-hl];exact(zzG.mp hd).1
 unfold xb at hd;rw[zzI,List.getElem?_range hi]at hd;cases hd;exact .int _⟩
end
def vB(he:AE X kd e fa):Ja X kd tg e (yA fa):=by
 with_unfolding_all (
 intro pins s σ H R I h;obtain⟨F,B,ad,as,ds,as',Rl,e,q⟩:=h;obtain⟨⟨p,as1⟩,h1,e⟩:=bS_<|e;obtain⟨ys,h2,e⟩:=bS_ e;cases e;cases p with
 |ow o=>
  have h2:N7 (o.str,o.toD)=some ds:=h2;generalize hd:o.toD=d at h2;cases d with
  |lst xs=>
   cases h2;refine KR he pins s σ H R I ⟨F,B,ad,as,_,as1,Rl,h1,λv T1 ad1 H1 R1 rv1 g1=>?_⟩;have rp:=MA R1 rv1;rw[hd]at rp;cases rp with
   |lst hn hr rl=>exact⟨_,rfl,⟨_,.inl hr⟩,q _ ad1 H1 R1.drop (g1.trans<|Grow.less Gw.drop)<|Pt (.inl hr)<|Gh rl⟩
   |lstK a b c rl=>exact⟨_,rfl,⟨_,.inr ⟨_,_,_,a,rfl,rfl,rfl,b,c⟩⟩,q _ ad1 H1 R1.drop (g1.trans<|Grow.less Gw.drop)<|Pt (.inr ⟨_,_,_,a,rfl,rfl,rfl,b,c⟩)<|Gh rl⟩
  |tup xs=>
   cases h2;refine Er he pins s σ H R I ⟨F,B,ad,as,_,as1,Rl,h1,λv T1 ad1 H1 R1 rv1 g1=>?_⟩;have rp:=MA R1 rv1;rw[hd]at rp;have go:∃a ys,v = .ref a/\Q8 X.K H1 a ys/\RpL X.K kd (Lv F B (Gw [] ad1) o.str) H1 ys xs:=by
    cases rp with
    |tup n h r=>exact⟨_,_,rfl,.inl<|.inl h,r⟩
   obtain⟨a,ys,rfl,hs,rl⟩:=go;exact⟨_,rfl,⟨_,hs⟩,q _ ad1 H1 R1.drop (g1.trans<|Grow.less Gw.drop)<|Ff hs<|Gh rl⟩
  |_=>cases h2
 |bo i=>
  have h2:(match as1[i]? with|some (some<|.nd .ls os)=>some (QO os)|some (some<|.nd .tp os)=>some (QO os)|_=>none)=some ds:=h2;cases k:as1[i]? with
  |none=>rw[k]at h2;cases h2
  |some s0=>
   rw[k]at h2
   match s0,h2,k with
   |some (.nd .ls os),h2,k=>
    cases h2;refine KR he pins s σ H R I ⟨F,B,ad,as,_,as1,Rl,h1,λv T1 ad1 H1 R1 rv1 g1=>?_⟩;obtain⟨rfl,hs⟩:=rv1;obtain⟨w,hw,ro⟩:=R1.sl i _ k;rw[hs]at hw;cases hw;generalize hfp:ad1 i=fp at ro;cases ro with
    |ls hH rl=>exact⟨_,rfl,⟨_,.inl<|.inl hH⟩,q _ ad1 H1 R1 g1<|Pt (.inl<|.inl hH)<|IS rl⟩
   |some (.nd .tp os),h2,k=>
    cases h2;refine Er he pins s σ H R I ⟨F,B,ad,as,_,as1,Rl,h1,λv T1 ad1 H1 R1 rv1 g1=>?_⟩;obtain⟨rfl,hs⟩:=rv1;obtain⟨w,hw,ro⟩:=R1.sl i _ k;rw[hs]at hw;cases hw;generalize hfp:ad1 i=fp at ro;cases ro with
    |tp n hH rl=>exact⟨_,rfl,⟨_,.inl<|.inl hH⟩,q _ ad1 H1 R1 g1<|Ff (.inl<|.inl hH)<|IS rl⟩)
def Kd(hg:Gl X "range")(hm:X.mg "range"=none)(ha:AA X kd [a] fr)(hs:starEach [a] X.env=[(false,eval a X.env)]):Ja X kd tg (.Call (.Name "range" p) [a] [] pos) (z_ fr ya):=by
 with_unfolding_all (
 intro pins s σ H R I h;obtain⟨F,B,ad,as,ds,as',Rl,e,q⟩:=h;obtain⟨⟨ps,as1⟩,h1,e⟩:=bS_<|e;obtain⟨⟨xs,lv⟩,h2,e⟩:=bS_ e;obtain⟨ys,h3,e⟩:=bS_ e;cases e;obtain⟨j,rfl,h3⟩:=Fl h3
 . obtain⟨hj,e3⟩:=zM h3;cases e3;refine GT hg hm ha hs pins s σ H R I ⟨F,B,ad,as,ps,_,Rl,h1,λvs ad1 H1 R1 rv1 g1=>?_⟩;have vl:=Wk R1 rv1 h2;cases vl with
   |cons v1 v2=>
    cases v2;cases v1;exact⟨j,rfl,hj.1,hj.2,q _ ad1 H1 R1 g1<|CT 0 _⟩)
def qF(as:AS):Option Nat->Option O
 |none=>none
 |some j=>match as[j]? with
  |some (some (.lf st d))=>some (.lf st d)
  |some (some o)=>some (.lf false o.toD)
  |_=>none
def wM(cap:List (Option Nat))(as:AS):AS:=cap.map<|qF as
def xv(g:GF)(tt:TF)(fe:EF)(as0:AS):List Z_->Option (List O)
 | []=>some []
 |x::r=>(g x as0).bind λas1=>(tt as1).bind λb=>if b.1=true then(fe b.2).bind λp=>(OU p.2 p.1).bind λq=>if q.1.str=true then(xv g tt fe as0 r).bind λos=>some (q.1::os)else none
  else xv g tt fe as0 r
def zt(fi:IF)(cap:List (Option Nat))(g:GF)(tt:TF)(fe:EF):EF:=λas=>(fi as).bind λp=>if p.1.length<=sizeLine then(xv g tt fe (wM cap p.2) p.1).bind λos=>some (.ow<|.nd .ls os,p.2)else none
def zK:TF:=λas=>some (true,as)
section
variable{K:zzA}{kd:KD}{F B:Addr->Prop}{T:List Addr}{ad:Ad}{as:AS}{σ:St}{H H':Hp}{cap:List (Option Nat)}
def Ip(R:Rel K kd F B [] ad as σ H)(k:∀b u,H b=some u->H' b=some u)(hT:∀a ∈ T,H a=none)(hT':∀a ∈ T,H' a≠none):
 Rel K kd (QK (Lv F B (Gw [] ad) true) (· ∈ T)) (λ_=>False) [] (λ_=>[]) (wM cap as) (Zc cap σ) H':=by
 have no:∀a,¬Gw [] (λ_=>[]) a:=λa z=>z.elim (λy=>nomatch y) λ⟨_,y⟩=>nomatch y;have kn:∀a,H a≠none->H' a≠none:=λa z=>by
  cases e:H a with
  |none=>exact absurd e z
  |some u=>rw[k a u e];simp
 have up:∀{st:Bool}{v:V}{d:D},Rp K kd (λa=>st=true/\Lv F B (Gw [] ad) true a) H v d->Rp K kd (Lv (QK (Lv F B (Gw [] ad) true) (· ∈ T)) (λ_=>False) (Gw [] λ_=>[]) st) H' v d:=λ{st v d} h=>by
  have:=Rp.grow (W':=(· ∈ T)) (H':=H') ⟨λb u q _=>k b u q,λb z=>.inr<|hT b z⟩<|h.less λa z=>z.elim id False.elim;refine this.less λa z=>?_
  rcases z with(⟨z1,z2⟩|z)|z
  . rcases z2 with z2|z2
    . exact .inl ⟨z1,z2⟩
    . exact .inr z2
  . exact z.elim
  . exact(no a z).elim
 refine⟨by unfold wM Zc;rw[zzB,zzB],λ_ _=>rfl,λ_=>zyJ,(λ_ _ _ z=>nomatch z),zyJ,(λ_ _ _ z=>nomatch z),λa z=>z.elim (λy=>kn a<|R.trk true a y)<|hT' a,(λ_ z=>z.elim),λa z=>(no a z).elim,λi s e=>?_⟩;unfold wM at e;rw[zzI]at e;obtain⟨c,hc,rfl⟩:=zzX.mp e;have es:(Zc cap σ)[i]? = some (u6 σ c):=by
  unfold Zc;rw[zzI,hc];rfl
 rw[es];cases c with
 |none=>rfl
 |some j=>
  show T8 _ _ _ _ _ _ (match as[j]? with|some (some<|.lf st d)=>some _|some (some o)=>some _|_=>none) _ _;cases k2:as[j]? with
  |none=>rfl
  |some s0=>
   cases s0 with
   |none=>rfl
   |some o=>
    obtain⟨v,hv,ro⟩:=R.sl j _ k2;cases o with
    |lf st d=>
     have e0:ad j=[]:=by
            generalize hfp:ad j=fp at ro;cases ro;rfl
     rw[e0]at ro;refine⟨v,by show some ((σ[j]?).getD none)=_;rw[hv];rfl,.lf<|up ?_⟩;exact(Lm ro).less λa z=>by have zs:=z.1;rw[zs];exact z.2
    |nd kk os=>exact⟨v,by show some ((σ[j]?).getD none)=_;rw[hv];rfl,.lf<|up ((LR ro).less λa z=>nomatch z.1)⟩
def Hj{S}{fi}{g}{tt}{fe}{Q}(hS:∀i ∈ S,cap[i]? = some none)(h:al K kd (zt fi cap g tt fe) σ H Q):
 H9 (pK K kd fi) cap (sM K kd S g) (C8 K kd tt) (al K kd fe) σ H Q:=by
 obtain⟨F,B,ad,as,r,as',R,e,q⟩:=h;obtain⟨⟨ds,as1⟩,h1,e⟩:=bS_<|e
 by_cases hz:ds.length<=sizeLine
 . have e:(if ds.length<=sizeLine then(xv g tt fe (wM cap as1) ds).bind λos=>some (RV.ow<|.nd .ls os,as1)else none)=some (r,as'):=e;rw[if_pos hz]at e;obtain⟨os,h2,e⟩:=bS_ e;cases e;refine⟨F,B,ad,as,ds,as',R,h1,λJ ad1 H1 R1 g1 it=>?_⟩;refine⟨λi m ys H3=>m+i=ds.length/\∃T os1 os2,os=os1++os2/\xv g tt fe (wM cap as') (ds.drop i)=some os2/\os1.length<=i/\T.Nodup/\(∀a ∈ T,H1 a=none/\H3 a≠none)/\(∀b u,H1 b=some u->H3 b=some u)/\
    RoL (λ_ v d=>Rp K kd (QK (Lv F B (Gw [] ad1) true) (· ∈ T)) H3 v d) (λa=>¬QK (Lv F B (Gw [] ad1) true) (· ∈ T) a) H3 ys os1 T,⟨ds.length,rfl,[],[],os,rfl,h2,zzN _,zyJ,(λ_ m=>nomatch m),(λ_ _ z=>z),.nil⟩, ?_⟩
   rintro i m ys H3 ⟨hm,T,os1,os2,eo,ec,hl,tnd,tf,k3,rl⟩
   obtain⟨i1,i2,i3⟩:=it.all H3 (· ∈ T) k3 tf i;have yl:=rl.length;refine⟨by omega, ?_⟩
   by_cases hi:i<ds.length
   . refine .inr ⟨i1 hi,λv H4 hy=>?_⟩;obtain⟨k4,rp⟩:=i3 v H4 hy;rw[zyQ hi]at ec;obtain⟨as2,e2,ec⟩:=bS_<|ec;obtain⟨⟨b,as3⟩,e3,ec⟩:=bS_ ec;have k14:=λb u h=>k4 b u<|k3 b u h;have kn4:∀a,H3 a≠none->H4 a≠none:=λa z=>by
      cases e:H3 a with
      |none=>exact absurd e z
      |some u=>rw[k4 a u e];simp
     have R4:=Ip (cap:=cap) R1 k14 (λa z=>(tf a z).1) λa z=>kn4 a (tf a z).2;have no:∀a,¬Gw [] (λ_=>[]) a:=λa z=>z.elim (λy=>nomatch y) λ⟨_,y⟩=>nomatch y;refine⟨_,_,_,_,ds[i],as2,R4,(rp _<|zzE hi).less λa z=>?_,e2,λσ5 ad5 H5 R5 g5 keep5=>⟨λj w hw=>?_,_,_,ad5,as2,b,as3,R5,e3,λad6 H6 R6 g6=>?_⟩⟩
     . rcases z with(z|z)|z
       . exact z
       . exact z.elim
       . exact(no a z).elim
     . rw[keep5 j λz=>?_]
       . exact hw
       . have:=hS j z;unfold Zc at hw;rw[zzI,this]at hw;cases hw
     . -- what stood is kept
       have g46:=g5.trans g6;have k46:=λb u h=>g46.keep b u h<|no b;have k36:=λb u h=>k46 b u<|k4 b u h;have kn6:∀a,H3 a≠none->H6 a≠none:=λa z=>by
        cases e:H3 a with
        |none=>exact absurd e z
        |some u=>rw[k36 a u e];simp
       have up:∀{H7:Hp}{T2:List Addr},(∀b u,H3 b=some u->H7 b=some u)->(∀a ∈ T2,H3 a=none)->RoL (λ_ v d=>Rp K kd (QK (Lv F B (Gw [] ad1) true) (· ∈ T++T2)) H7 v d) (λa=>¬QK (Lv F B (Gw [] ad1) true) (· ∈ T++T2) a) H7 ys os1 T:=λ{H7 T2} k7 f7=>
        RoL.mono (λst v d r=>(r.since k7 f7).less λa z=>z.elim (λy=>.inl<|.inl y) λy=>(zzM.mp y).elim (λx=>.inl<|.inr x) .inr)
         (λa vs n e=>⟨λz=>z.elim (λy=>n<|.inl y) λy=>(zzM.mp y).elim (λx=>n<|.inr x) λx=>(by have:=f7 a x;rw[this]at e;cases e),k7 _ _ e⟩) (λa _ u h=>k7 a u h) rl
       cases b with
       |false=>
        have:=up (T2:=[]) k36 (λ_ m=>nomatch m);rw[zyE]at this;exact⟨m-1,by omega,by omega,T,os1,os2,eo,ec,Nat.le_succ_of_le hl,tnd,λa z=>⟨(tf a z).1,kn6 a (tf a z).2⟩,λb u h=>k36 b u<|k3 b u h,this⟩
       |true=>
        rw[if_pos rfl]at ec;obtain⟨⟨p,as7⟩,e7,ec⟩:=bS_ ec;obtain⟨⟨o,as8⟩,e8,ec⟩:=bS_ ec
        by_cases hs:o.str=true
        . have ec:=ec;rw[if_pos hs]at ec;obtain⟨os3,e9,ec⟩:=bS_ ec;cases ec;refine⟨by omega,_,_,ad6,as3,p,as7,R6,e7,λy T2 ad7 H7 R7 rv7 g7=>?_⟩;obtain⟨ad8,R8,ro8,le8⟩:=TV R7 rv7 e8;have g47:=g46.trans g7;have k47:=λb u h=>g47.keep b u h<|no b;have k37:=λb u h=>k47 b u<|k4 b u h;have f42:=λa z=>(g47.own a<|.inl z).resolve_left<|no a;have f32:∀a ∈ T2,H3 a=none:=λa z=>by
             cases e:H3 a with
             |none=>rfl
             |some u=>have:=k4 a u e;rw[f42 a z]at this;cases this
          have rt:=Eh R8 R8.tnd (λa z=>.inl z) ro8 hs;have ro9:Ro (λ_ v d=>Rp K kd (QK (Lv F B (Gw [] ad1) true) (· ∈ T++T2)) H7 v d) (λa=>¬QK (Lv F B (Gw [] ad1) true) (· ∈ T++T2) a) H7 y o T2:=
             Ro.mono (λst v d r=>r.less λa z=>z.elim (λy=>.inl<|.inl y) λy=>(zzM.mp y).elim (λx=>.inl<|.inr x) .inr)
              (λa vs n e=>⟨λz=>n<|z.elim (λy=>.inl<|.inl y) λy=>(zzM.mp y).elim (λx=>.inl<|.inr x) .inr,e⟩) (λ_ _ _ h=>h) rt.ro
          refine⟨m-1,by omega,by omega,T++T2,os1++[o],os3,by rw[eo,zxD];rfl,e9,by rw[zzJ,List.length_singleton];omega,zxF.mpr ⟨tnd,rt.nd,λa z b z' e=>?_⟩,λa z=>?_,λb u h=>k37 b u<|k3 b u h,(up k37 f32).append<|RoL.one ro9⟩
          . subst e;exact(tf a z).2<|f32 a z'
          . rcases zzM.mp z with z|z
            . refine⟨(tf a z).1, ?_⟩;cases e:H3 a with
              |none=>exact absurd e (tf a z).2
              |some u=>rw[k37 a u e];simp
            . refine⟨?_,rt.tr a z⟩;cases e:H1 a with
              |none=>rfl
              |some u=>have:=k3 a u e;rw[f32 a z]at this;cases this
        . have ec:=ec;rw[if_neg hs]at ec;cases ec
   . refine .inl ⟨i2 (by omega),λp hp=>?_⟩;rw[List.drop_eq_nil_of_le<|by omega]at ec;cases ec;rw[zyE]at eo;subst eo;have pT:=λz=>(tf p z).2 hp;have H1p:H1 p=none:=by
      cases e:H1 p with
      |none=>rfl
      |some u=>have:=k3 p u e;rw[hp]at this;cases this
     have kp:∀b u,H3 b=some u->upd H3 p (.lst ys) b=some u:=λb u h=>by rw[zJ<|yE h hp];exact h
     obtain⟨R9,g9⟩:=R1.news (T':=p::T) (H':=upd H3 p<|.lst ys) (zzW.mpr ⟨pT,tnd⟩) (λa z=>(zzC.mp z).elim (λe=>by rw[e];exact H1p) λz=>(tf a z).1) (λb u h=>kp b u<|k3 b u h) (λa z=>by
      rcases zzC.mp z with e|z
      . rw[e,yp];simp
      . cases e:H3 a with
        |none=>exact absurd e (tf a z).2
        |some u=>rw[kp a u e];simp)
     refine q _ (p::T) ad1 _ R9 (.ls yp ?_)<|g1.trans g9;have le:∀st a,Lv F B (Gw (p::T) ad1) st a->QK (QK (Lv F B (Gw [] ad1) true) (· ∈ T)) (· = p) a:=λst a z=>by
      rcases z with(z|z)|z|z
      . exact .inl<|.inl<|.inl<|.inl ⟨rfl,z.2⟩
      . exact .inl<|.inl<|.inl<|.inr z
      . exact(zzC.mp z).elim .inr λy=>.inl<|.inr y
      . exact .inl<|.inl<|.inr<|.inr z
     exact RoL.mono (λst v d r=>(r.since kp λa z=>by rw[z];exact hp).less<|le st) (λa vs n e=>⟨λz=>(le true a z).elim n λy=>(by rw[y,hp]at e;cases e),kp _ _ e⟩) (λa _ u h=>kp a u h) rl
 . have e:=e;rw[if_neg hz]at e;cases e
end
section
variable{X:Cx}{kd:KD}{elt tg iter e a b c:Expr}{es ifs:List Expr}{scope:Scope}{pos:Pos}{N:List Str}{cap:List (Option Nat)}{g:GF}{tt:TF}{fe fa fb:EF}{fi:IF}{S:List Nat}{fr:AF}{fd:DF}
def xQ:B6 X [] (C8 X.K kd zK):=λa s σ H Q I h=>by
 obtain⟨F,B,c,as,b,d,R,e,q⟩:=h;cases e;exact O5 a s σ H Q I<|q c H R Grow.refl
def Fi(h:AT X kd c tt):B6 X [c] (C8 X.K kd tt):=by with_unfolding_all exact(Iv h)
def wt(hc:X.calm=true)(hi:Ja X kd tg iter fi)(hk:scope.kind = .function)(hcap:Za N X.N scope.names X.env.scope.names cap=true)(hS:S.all (λi=>cap[i]? == some none)=true)
 (hg:∀cl s H fp,AG (xa X N scope cl s H fp) kd tg S g) (ht:∀cl s H fp,B6 (xa X N scope cl s H fp) ifs<|C8 X.K kd tt) (he:∀cl s H fp,AE (xa X N scope cl s H fp) kd elt fe)
 (hs:∀x,foldedSetIterable iter X.env x=pure x):AE X kd (.ListComp elt [⟨tg,iter,ifs,0⟩] scope pos) (zt fi cap g tt fe):=by with_unfolding_all exact(yM (Ik (g:=sM X.K kd S g) (te:=al X.K kd fe) hc hi hk hcap hg ht he hs) λσ H Q h=>Hj (λi m=>by simpa using List.all_eq_true.mp hS i m) h)
def RO(hN:X.N.Nodup)(hiy:X.N[i]? = some y)(hy:Loc X.env.scope y)(hf:X.fn y=true\/X.env.scope.names.lookup y=some .local)
 (hsw:swapsWith (.ListComp elt [⟨tg,iter,ifs,0⟩] scope pos) (some<|.Name y py) spos.line X.env=pure true)
 (hc:X.calm=true) (hi:Ja X kd tg iter fi) (hk:scope.kind = .function) (hcap:Za N X.N scope.names X.env.scope.names cap=true) (hS:S.all (λi=>cap[i]? == some none)=true)
 (hg:∀cl s H fp,AG (xa X N scope cl s H fp) kd tg S g) (ht:∀cl s H fp,B6 (xa X N scope cl s H fp) ifs<|C8 X.K kd tt) (he:∀cl s H fp,AE (xa X N scope cl s H fp) kd elt fe)
 (hs:∀x,foldedSetIterable iter X.env x=pure x):Pp X kd (.Assign [.Name y py] (.ListComp elt [⟨tg,iter,ifs,0⟩] scope pos) spos) (zy z i<|zt fi cap g tt fe):=by with_unfolding_all exact(wB (Cy (g:=sM X.K kd S g) (te:=al X.K kd fe) hN hiy hy hf hsw hc hi hk hcap hg ht he hs) λD σ H h=>by
 obtain⟨F,B,c,as,o,R,e,q⟩:=h;obtain⟨⟨p,a⟩,d,e⟩:=bS_<|e;obtain⟨⟨y,f⟩,j,e⟩:=bS_ e;obtain⟨k,e⟩:=zM e;cases e;refine Hj (λi m=>by simpa using List.all_eq_true.mp hS i m) ⟨F,B,c,as,p,a,R,d,λv A n r t u g=>?_⟩;obtain⟨b,R2,w⟩:=Oq t u j k;exact q _ b r R2<|g.trans<|Grow.less w)
def Ia(F:FnOk X.prog X.w X.K X.mg X.base B3 k f fdt ps (DT X.K kd gg))(hr:Room k X.A)(hg:Gl X x)(hm:X.mg x=some (.ref f))(hk:W.keepIn X.K (.ref f)=true)
 (hb:Binds X.K fdt ps []) (hx:LM B3 X (λ_ _ _=>False)) (ha:AA X kd (e::es) fr) (hdb:(x==("__debug__":Str))=false) (he:starEach (e::es) X.env=(false,eval e X.env)::starEach es X.env) (hpl:(backTo pos<|starEach es X.env).any (·.1)=false):
 AE X kd (.Call (.Name x p) (e::es) [] pos) (zv fr gg):=by with_unfolding_all exact(yM (C1 F hr hg hm hk hb .nil hx ha hdb he hpl) λσ H Q h=>AV h)
def AM{id}(hc:Xe X kd (.builtin id) gg)(hg:Gl X x)(hm:X.mg x=none)(hv:bootBuiltins x=some (.builtin id))(ha:AA X kd (e::es) fr)(hn:x≠"__name__")(hdb:(x==("__debug__":Str))=false)
 (he:starEach (e::es) X.env=(false,eval e X.env)::starEach es X.env) (hpl:(backTo pos<|starEach es X.env).any (·.1)=false):AE X kd (.Call (.Name x p) (e::es) [] pos) (fP fr gg):=by with_unfolding_all exact(yM (Pj hc hg hm hv ha hn hdb he hpl) λσ H Q h=>pj (λ_ _ _ z=>z) h)
def Do(hc:Xe X kd (.type T) gg)(hg:Gl X x)(hm:X.mg x=none)(hv:bootBuiltins x=some (.type T))(ha:AA X kd (e::es) fr)(hn:x≠"__name__")(hdb:(x==("__debug__":Str))=false)
 (he:starEach (e::es) X.env=(false,eval e X.env)::starEach es X.env) (hpl:(backTo pos<|starEach es X.env).any (·.1)=false):AE X kd (.Call (.Name x p) (e::es) [] pos) (fP fr gg):=by with_unfolding_all exact(yM (F_ hc hg hm hv ha hn hdb he hpl) λσ H Q h=>pj (λ_ _ _ z=>z) h)
def SG(fa:EF)(c:String):EF:=λas=>(fa as).bind λp=>(p.1.frz.view p.2).bind λx=>if Eg x.1=true then some (.ow<|.lf true<|.bl<|KG (Dt x.1) c,p.2)else none
def Sm(hk:KdOk X kd):X5 X (.builtin "isinstance") (λxs H Q=>∃x c O d,xs=[x,.ty c]/\QH c=true/\Vw X.K kd O H x d/\Eg d=true/\Q (.bl<|KG (Dt d) c) H):=by
 intro b s σ H l m Q I r h;obtain⟨x,c,O,d,rfl,e,f,g,q⟩:=h;cases r with
 |cons i a=>
  cases a with
  |cons a j=>
   cases j;cases(a);exact DC hk I i f e g λk=>⟨.bl _,H,I.tok k,rfl,q⟩
def MN{c}(hkd:KdOk X kd)(hc:QH c=true)(hg:Gl X x)(hm:X.mg x=none)(hv:bootBuiltins x=some (.builtin "isinstance"))(hg2:Gl X y)(hm2:X.mg y=none)(hv2:bootBuiltins y=some (.type c))(ha:AE X kd a fa)
 (hn:x≠"__name__") (hdb:(x==("__debug__":Str))=false) (hn2:y≠"__name__") (hdb2:(y==("__debug__":Str))=false)
 (he:starEach [a,.Name y p2] X.env=(false,eval a X.env)::starEach [.Name y p2] X.env) (he2:starEach [.Name y p2] X.env=(false,eval (.Name y p2) X.env)::starEach [] X.env) (hpl:(backTo pos<|starEach [.Name y p2] X.env).any (·.1)=false):
 AE X kd (.Call (.Name x p) [a,.Name y p2] [] pos) (SG fa c):=by with_unfolding_all exact(yM (Pj (Sm hkd) hg hm hv (Zj ha (Zj (O8 (v:=.ty c) hg2 hm2 hv2 rfl hn2 hdb2) XG he2) he) hn hdb he hpl) λσ H Q h=>by
 obtain⟨F,B,s,as,r,i,R,e,q⟩:=h;obtain⟨⟨p,j⟩,k,e⟩:=bS_<|e;obtain⟨⟨d,t⟩,l,e⟩:=bS_ e;obtain⟨m,e⟩:=zM e;cases e;exact YO R k λv b n g f o=>⟨v,c,_,d,rfl,hc,x_.vw g f l,m,q _ [] b n g (.lf<|.bl _) o⟩)
def yT:MG:=λos es=>match es with | [o]=>if os.length<sizeLine then some (os++[o],.lf true .non)else none|_=>none
def X3:MG:=λos es=>match es with | [.lf _<|.int i]=>if -(2 ^ 63)<=i/\i<2 ^ 63 then(seqIndex? i os.length).bind λk=>(os[k]?).bind λo=>some (os.eraseIdx k,o)else none|_=>none
def Bu:MG:=λos es=>match es with | [.nd .ls ps]=>if os.length+ps.length<=sizeLine then some (os++ps,.lf true .non)else none|_=>none
def CP{l f fo g:List Addr}(h:l.Nodup)(e:l=f++(fo++g)):((f++g)++fo).Nodup/\∀a ∈ (f++g)++fo,a ∈ l:=by
 subst e;have p:(f++(fo++g)).Perm ((f++g)++fo):=by
  rw[zxD];exact(List.perm_append_comm).append_left f
 exact⟨p.nodup_iff.mp h,λa m=>p.mem_iff.mpr m⟩
def De:u7 X kd LC yT:=by
 intro F B G l f p q r g o s t H Q h c b d e k;unfold yT at e
 split at e
 . obtain⟨i,e⟩:=zM e;cases e;cases b with
   |cons j n=>
    cases n;rw[zyE]at d k;exact⟨l,f,_,rfl,rfl,h,by rw[c.length];exact i,k _ _ _ [] (c.append<|RoL.one j) (.lf .non) (λa m=>by rwa [zyE]at m)<|by rw[zyE];exact d⟩
 . cases e
def H0:u7 X kd ON X3:=by
 intro F B G l g E I J h o K L H Q m b a c e k;unfold X3 at e
 split at e
 . rename_i M i
   split at e
   . rename_i d;obtain⟨j,n,e⟩:=bS_ e;obtain⟨N,p,e⟩:=bS_ e;cases e;obtain⟨v,f,q,r,s,t,u,w,x⟩:=b.at_ p;cases a with
     |cons y z=>
      cases z;cases y with
      |lf A=>
       cases A;rw[zyE,zyE]at c k;obtain⟨C,D⟩:=CP c t;refine⟨l,g,i,j,v,rfl,rfl,m,d.1,d.2,by rw[b.length];exact n,s,k v _ (f++r) q ?_ u D C⟩;rw[UE,UE];exact w.append x
   . cases e
 . cases e
def Jw:u7 X kd FF Bu:=by
 intro F B G l h y z A i o C D H Q j d c f e k;unfold Bu at e
 split at e
 . rename_i E;obtain⟨n,e⟩:=zM e;cases e;cases c with
   |cons p q=>
    cases q;cases p with
    |ls r g=>
     rename_i b s I;rw[zyE]at f k;obtain⟨t,u,v⟩:=zxF.mp f;obtain⟨J,w⟩:=zzW.mp u;refine⟨l,b,h,s,rfl,rfl,j,r,by rw[d.length,g.length];exact n,k .non _ _ [] (d.append g) (.lf .non) (λa m=>?_) ?_⟩
     . rw[zyE]at m
       rcases zzM.mp m with m|m
       . exact zzP _ m
       . exact zzL _<|zzD _ m
     . rw[zyE];exact zxF.mpr ⟨t,w,λa m b x=>v a m b<|zzD _ x⟩
 . cases e
def EO{i:Nat}{id}(hm:D8 X id r)(hr:u7 X kd r gg)(slot:Slot "list" name id)(hty:typeOf (.builtin id)=pure (.type "method_descriptor"))(ho:PE X (.Name x p) (Yi i))(ha:AD X kd (e::es) fd)
 (hbase:attributeBase (.Name x p) name X.env (eval (.Name x p) X.env)=eval (.Name x p) X.env)
 (hfew:((backTo cpos<|starEach (e::es) X.env).all (λx=>!x.1)&&(backToKw cpos<|keywordEach [] X.env).all (λx=>x.1.isSome)
  && decide ((e::es).length+([]:List Keyword).length+(if([]:List Keyword).isEmpty then 0 else 1)<30))=true)
 (hline:(apos.endLine==cpos.line)=true) (hs:starEach (e::es) X.env=(false,eval e X.env)::starEach es X.env) (hplain:(backTo cpos<|starEach es X.env).any (·.1)=false):
 AE X kd (.Call (.Attribute (.Name x p) name apos) (e::es) [] cpos) (yN i fd gg):=by with_unfolding_all exact(yM (E4 PySem.F.plainAttrs_list slot hty hm ho ha hbase hfew hline hs hplain) λσ H Q h=>sh hr h)
end
inductive Ty where
 |str|lst|dct|int
def Ty.nm:Ty->String
 | .str=>"str" | .lst=>"list" | .dct=>"dict" | .int=>"int"
def CV:Ty->D->Bool
 | .str,.str _=>true
 | .lst,.lst _=>true
 | .dct,.dct _=>true
 | .int,.int _=>true
 |_,_=>false
def p_(X:Cx)(T:String)(x:V)(H:Hp):Prop:=∀(pins:List (Addr×Obj)) (σ:St) (s:Shared) (v:Value),Inv X pins σ H s->RelV x v->s.TypeIs v T/\∀a,v = .ref a->∃ob,s.heap.get? a=some ob/\ob.dict=none
def pI(X:Cx)(T:String)(r:V->List V->Hp->VK->Prop)(to:TE)(t:TA):TE:=λσ H Q=>to σ H λx H1=>p_ X T x H1/\t σ H1 λxs H2=>r x xs H2 Q
section
variable{X:Cx}{kd:KD}{o e:Expr}{es:List Expr}{to:TE}{t:TA}{name:Str}{apos cpos:Pos}{T id:String}{r:V->List V->Hp->VK->Prop}
def sm(pa:PlainAttrs T)(slot:Slot T name id)(hty:typeOf (.builtin id)=pure (.type "method_descriptor"))(hm:sO X id r)(ho:PE X o to)(ha:PA X (e::es) t)
 (hbase:attributeBase o name X.env (eval o X.env)=eval o X.env)
 (hfew:((backTo cpos<|starEach (e::es) X.env).all (λx=>!x.1)&&(backToKw cpos<|keywordEach [] X.env).all (λx=>x.1.isSome)
  && decide ((e::es).length+([]:List Keyword).length+(if([]:List Keyword).isEmpty then 0 else 1)<30))=true)
 (hline:(apos.endLine==cpos.line)=true) (hs:starEach (e::es) X.env=(false,eval e X.env)::starEach es X.env) (hplain:(backTo cpos<|starEach es X.env).any (·.1)=false):
 PE X (.Call (.Attribute o name apos) (e::es) [] cpos) (pI X T r to t):=by
 intro pins s σ H Q I h;refine wpAny_Call_method_late hbase hfew hline rfl<|thn (ho pins s σ H _ I h) λv s1 ⟨x,H1,I1,r1,ty,q1⟩=>?_;obtain⟨h1,h2⟩:=ty _ _ _ _ I1 r1;refine⟨T,id,pa,slot,hty,h1,h2, ?_⟩;have hA:=ha cpos pins s1 σ H1 _ I1 q1;rw[hs]at hA ⊢;refine Calls.callWith_builtin (by show(false||(backTo cpos<|starEach es X.env).any (·.1))=false;rw[hplain]<;>rfl)<|Calls.evalArgs_plain ?_;exact thn hA λus s2 ⟨vs,H2,I2,r2,q2⟩=>hm pins s2 σ H2 x vs v us Q I2 r1 r2 q2
def sY(X:Cx)(kd:KD)(id:String)(g:D->List D->Option R0):Prop:=
 sO X id (λx xs H Q=>∃O d ds r,(∀a,O a->H a≠none)/\Vw X.K kd O H x d/\VwL X.K kd O H xs ds/\g d ds=some r/\RQ X.K kd O H Q r)
def uj(hk:KdOk X kd){O}{H}{x}{d}{ty}(h:Vw X.K kd O H x d)(e:CV ty d=true):p_ X ty.nm x H:=by
 intro pins σ s v I rx;cases h with
 |str z=>
  obtain⟨t,rfl⟩:=rx;cases ty<;>first|(cases e;done)|exact⟨typeIs_str s z t,λ_ e=>nomatch e⟩
 |int z=>
  obtain⟨t,rfl⟩:=rx;cases ty<;>first|(cases e;done)|exact⟨typeIs_int s z t,λ_ e=>nomatch e⟩
 |lst hr rl=>
  cases rx;obtain⟨its,_,pl,_⟩:=I.list hr.sq;cases ty<;>first|(cases e;done)|skip
  refine⟨pl.isList.typeIs,λa e=>?_⟩;cases e;obtain⟨o,n,e,c,hd,_⟩:=pl;exact⟨o,e,hd⟩
 |dct hr rm=>
  cases rx;obtain⟨z,hd,vs,rel,dd⟩:=G8 I hk hr;cases ty<;>first|(cases e;done)|skip
  refine⟨dd.typeIs,λb q=>?_⟩;cases q;obtain⟨ob,_,_,h1,h2,_⟩:=dd;exact⟨ob,h1,h2.2.1⟩
 |non=>cases ty<;>cases e
 |bl=>cases ty<;>cases e
 |tup=>cases ty<;>cases e
 |cl=>cases ty<;>cases e
 |er=>cases ty<;>cases e
 |ob=>cases ty<;>cases e
 |dt=>cases ty<;>cases e
def wN(ty:Ty)(fa:EF)(fr:AF)(g:D->List D->Option R0):EF:=λas=>(fa as).bind λp=>(p.1.frz.view p.2).bind λw=>if CV ty w.1=true then(fr p.2).bind λq=>(p.1.frz.view q.2).bind λx=>(views q.2 q.1).bind λy=>(g x.1 y.1).bind λr=>(wrap (meet x.2 y.2) r).bind λz=>some (z,q.2)else none
def Ax(hk:KdOk X kd)(h:al X.K kd (wN ty fa fr g) σ H Q):
 pI X ty.nm (λx xs H Q=>∃O d ds r,(∀a,O a->H a≠none)/\Vw X.K kd O H x d/\VwL X.K kd O H xs ds/\g d ds=some r/\RQ X.K kd O H Q r) (al X.K kd fa) (sG X.K kd fr) σ H Q:=by
 obtain⟨F,B,ad,as,r,as',R,e,q⟩:=h;obtain⟨⟨p,as1⟩,h1,e⟩:=bS_<|e;obtain⟨⟨d0,l0⟩,h0,e⟩:=bS_ e;obtain⟨hty,e⟩:=ite_some' e;obtain⟨⟨ps,as2⟩,h2,e⟩:=bS_ e;obtain⟨⟨d,lv⟩,h3,e⟩:=bS_ e;obtain⟨⟨ds,lv2⟩,h4,e⟩:=bS_ e;obtain⟨r0,h5,e⟩:=bS_ e;obtain⟨z,h6,e⟩:=bS_ e;cases e;refine YO R h1 λv ad1 H1 R1 rv1 g1=>⟨uj hk (x_.vw R1 rv1 h0) hty,F,B,ad1,as1,ps,_,R1,h2,λvs ad2 H2 R2 rv2 g2=>?_⟩;exact⟨_,d,ds,r0,R2.tr _,(x_.vw R2 (rv1.grow g2) h3).less Pu.meet1,(Wk R2 rv2 h4).less Pu.meet2,h5,ZF R2 h6 λw T' H' R' rv' g'=>q w T' ad2 H' R' rv'<|(g1.trans g2).trans g'⟩
def K1(hk:KdOk X kd)(hm:sY X kd id g)(pa:PlainAttrs ty.nm)(slot:Slot ty.nm name id)(hty:typeOf (.builtin id)=pure (.type "method_descriptor"))(ho:AE X kd a fa)(ha:AA X kd (e::es) fr)
 (hbase:attributeBase a name X.env (eval a X.env)=eval a X.env)
 (hfew:((backTo cpos<|starEach (e::es) X.env).all (λx=>!x.1)&&(backToKw cpos<|keywordEach [] X.env).all (λx=>x.1.isSome)
  && decide ((e::es).length+([]:List Keyword).length+(if([]:List Keyword).isEmpty then 0 else 1)<30))=true)
 (hline:(apos.endLine==cpos.line)=true) (hs:starEach (e::es) X.env=(false,eval e X.env)::starEach es X.env) (hplain:(backTo cpos<|starEach es X.env).any (·.1)=false):
 AE X kd (.Call (.Attribute a name apos) (e::es) [] cpos) (wN ty fa fr g):=by with_unfolding_all exact(yM (sm pa slot hty hm ho ha hbase hfew hline hs hplain) λσ H Q h=>Ax hk h)
end
section
variable{K:zzA}{kd:KD}{F B G:Addr->Prop}{T:List Addr}{ad:Ad}{as:AS}{σ:St}{H H':Hp}
inductive RPs(K:zzA)(kd:KD)(F B G:Addr->Prop)(H:Hp):List (V×V)->List (Key×O)->Prop
 |nil:RPs K kd F B G H [] []
 |cons {k:Key}{v:V}{o:O}{ps:List (V×V)}{kos:List (Key×O)}:xY K kd F B G H v o []->RPs K kd F B G H ps kos->RPs K kd F B G H ((kV k,v)::ps) ((k,o)::kos)
end
section
variable{X:Cx}{kd:KD}{e a b c o i:Expr}{pos pos':Pos}{fa fb fk fv:EF}
def TQ{κ:Type}[DecidableEq κ](ks:List κ)(k:κ):Bool:=ks.any λx=>decide (x=k)
def FN{κ:Type}[DecidableEq κ](ks:List κ)(k:κ):List κ:=if TQ ks k=true then ks else ks++[k]
def FV{κ α:Type}[DecidableEq κ](ks:List κ)(os:List α)(k:κ)(o:α):List α:=if TQ ks k=true then(ks.zip os).map (λp=>if p.1=k then o else p.2)else os++[o]
theorem L5[DecidableEq κ](k):∀(ks:List κ) (vs:List α),ks.length=vs.length->((ks.zip vs).any λkv=>decide (kv.1=k))=TQ ks k
 | [],_,_=>rfl
 |x::r,[],h=>by simp at h
 |x::r,v::vs,h=>by
  show(decide _||(r.zip vs).any _)=_;rw[L5 k r vs<|by simpa using h];rfl
theorem FD[DecidableEq κ]:∀(ks:List κ) (vs:List V),ks.length=vs.length->(ks.zip vs).map (λkv=>if kv.1=k then(kv.1,v)else kv)=ks.zip ((ks.zip vs).map λp=>if p.1=k then v else p.2)
 | [],_,_=>rfl
 |x::r,[],h=>by simp at h
 |x::r,w::vs,h=>by
  show _::(r.zip vs).map _=_;rw[FD r vs<|by simpa using h]
  congr 1
  by_cases e:x=k
  . simp[e]
  . simp[e]
def S4{κ:Type}[DecidableEq κ]{ks}{vs}{k:κ}{v}(h:ks.length=vs.length):putK (ks.zip vs) k v=(FN ks k).zip (FV ks vs k v):=by
 unfold putK FN FV;rw[L5 k ks vs h]
 split
 . exact FD ks vs h
 . rw[List.zip_append h];rfl
end
abbrev Fn:=List (Bool×D)->Option O
section
variable{P:Program}{w:World}{K:zzA}{mg:Str->Option Value}{base:Heap}{kd:KD}
def KA(hr:Room k A):A.units+100<cLine:=by have:=hr.un;omega
def Zi(P:Program)(w:World)(K:zzA)(kd:KD):Prop:=∀X:Cx,X.prog=P->X.w=w->X.K=K->KdOk X kd
theorem X2{O}:∀ns:List Int,RpL K kd O H (ns.map V.int)<|ns.map D.int
 | []=>.nil
 |_::r=>.cons (.int _)<|X2 r
def J9{ns:List Int}(hg:g [(true,.lst<|ns.map D.int)]=some (.lf true<|.bl true))(hS:Oc K H a (ns.map V.int)):DT K kd g [.ref a] H (λv _=>v = .bl true) E:=by
 refine⟨λ_=>False,[(true,.lst _)],.lf true _,(λ_ z=>z.elim),.cons ?_ .nil,hg,λv T e _ _ _ _ b=>?_⟩
 . rcases hS with h|⟨c,n,k,z,r⟩
   . exact .lst (λz=>z.2) h<|X2 ns
   . exact .lstK k z r<|X2 ns
 . cases b with
   |lf d=>cases d;rfl
end
namespace Bt
theorem len:bootBuiltins "len"=some (.builtin "len"):=by decide +kernel
theorem max:bootBuiltins "max"=some (.builtin "max"):=by decide +kernel
theorem sorted:bootBuiltins "sorted"=some (.builtin "sorted"):=by decide +kernel
theorem repr:bootBuiltins "repr"=some (.builtin "repr"):=by decide +kernel
theorem divmod:bootBuiltins "divmod"=some (.builtin "divmod"):=by decide +kernel
theorem isinstance:bootBuiltins "isinstance"=some (.builtin "isinstance"):=by decide +kernel
theorem int:bootBuiltins "int"=some (.type "int"):=by decide +kernel
theorem list:bootBuiltins "list"=some (.type "list"):=by decide +kernel
theorem tuple:bootBuiltins "tuple"=some (.type "tuple"):=by decide +kernel
def n(x)(h:(x==("__name__":Str))=false):x≠"__name__":=λe=>by subst e;simp at h
end Bt
def WD(f:EF)(as:AS)(st:Bool)(d:D):Prop:=f as=some (.ow<|.lf st d,as)
def WT(f:TF)(as:AS)(b:Bool):Prop:=f as=some (b,as)
def WA(f:AF)(as:AS)(rs:List (Bool×D)):Prop:=f as=some (rs.map λx=>.ow<|.lf x.1 x.2,as)
def WO(f:DF)(as:AS)(os:List O):Prop:=f as=some (os,as)
section
variable{as:AS}{f a b:EF}{s t:Bool}{x y z:D}{i j:Int}
def zb:WD (fC x) as true x:=rfl
def za{i:Nat}(h:as[i]? = some (some<|.lf s x)):WD (fV i) as s x:=by unfold WD fV;rw[h]
def Ji(ha:WD a as s x)(hb:WD b as t y)(hg:g x y=some (.im z)):WD (f2 a b g) as (zR z||(s&&t)) z:=by
 unfold WD f2 at *;rw[ha];show((b as).bind _)=_;rw[hb];show((g x y).bind _)=_;rw[hg];show(if _=true then _ else _:Option RV).bind _=_;rw[if_pos<|by unfold meet;simp];rfl
def tX(ha:a as=some (.ow oa,as))(hb:b as=some (.ow ob,as))(hg:g oa.toD ob.toD=some (.im z)):WD (f2 a b g) as (zR z||(oa.str&&ob.str)) z:=by
 unfold WD f2 at *;rw[ha];show((b as).bind _)=_;rw[hb];show((g oa.toD ob.toD).bind _)=_;rw[hg];show(if _=true then _ else _:Option RV).bind _=_;rw[if_pos<|by unfold meet;simp];rfl
def zq(ha:WD a as s x)(hb:WD b as t y)(hg:g x y=some (.im z))(e:zR z=true):WD (f2 a b g) as true z:=by
 have:=Ji ha hb hg;rw[e]at this;exact this
def yJ(ha:WD a as s (.int i))(hb:WD b as t (.int j)):WD (f2 a b<|Wt .Add) as true (.int<|i+j):=zq ha hb rfl rfl
def EG(ha:WD a as s (.int i))(hb:WD b as t (.int j)):WD (f2 a b<|Wt .Sub) as true (.int<|i-j):=zq ha hb rfl rfl
def xo(ha:WD a as s (.int i))(hb:WD b as t (.int j))(h1:i.natAbs<big)(h2:j.natAbs<big):WD (f2 a b<|Wt .Mult) as true (.int<|i*j):=zq ha hb (by show(if _ then _ else _)=_;rw[if_pos ⟨h1,h2⟩]) rfl
def vK(ha:WD a as s (.int i))(hb:WD b as t (.int j))(h1:0<j)(h2:j.natAbs<big):WD (f2 a b<|Wt .FloorDiv) as true (.int<|i/j):=zq ha hb (by show(if _ then _ else _)=_;rw[if_pos ⟨h1,h2⟩]) rfl
def yj(ha:WD a as s (.int i))(hb:WD b as t (.int j))(h1:0<j):WD (f2 a b<|Wt .Mod) as true (.int<|i%j):=zq ha hb (by show(if _ then _ else _)=_;rw[if_pos h1]) rfl
def yq(ha:WD a as s x)(hb:WD b as t y)(h:xq 60 x y=some c):WD (f2 a b<|zB .Eq) as true (.bl c):=zq ha hb (by show(xq 60 x y).bind _=_;rw[h];rfl) rfl
def uu(ha:WD a as s x)(hb:WD b as t y)(h:xq 60 x y=some c):WD (f2 a b<|zB .NotEq) as true (.bl<|!c):=zq ha hb (by show(xq 60 x y).bind _=_;rw[h];rfl) rfl
def Nk(ha:WD a as s (.int i))(hb:WD b as t (.int j)):WD (f2 a b<|zB .Lt) as true (.bl<|decide (i<j)):=zq ha hb rfl rfl
def VQ(ha:WD a as s (.int i))(hb:WD b as t (.int j)):WD (f2 a b<|zB .Gt) as true (.bl<|decide (j<i)):=zq ha hb rfl rfl
def SJ(ha:WD a as s (.int i)):WD (f1 a NI) as true (.int (-i)):=by
 unfold WD f1 at *;rw[ha];rfl
def zE(h:WD f as s x)(e:truth x=some c):WT (fT f) as c:=by
 unfold WT fT;unfold WD at h;rw[h];show((truth x).bind _)=_;rw[e];rfl
def Am(h:WT c as k):WT (Mf c) as (!k):=by unfold WT Mf at *;rw[h];rfl
def Yp(h:WT c as k)(h2:k=true->WT e as l)(h3:k=false->l=false):WT (WI c e) as l:=by
 unfold WT WI at *;rw[h];cases k with
 |true=>exact h2 rfl
 |false=>rw[h3 rfl];rfl
def Qt(h:WT c as k)(h2:k=false->WT e as l)(h3:k=true->l=true):WT (YZ c e) as l:=by
 unfold WT YZ at *;rw[h];cases k with
 |false=>exact h2 rfl
 |true=>rw[h3 rfl];rfl
def M6(h:WD a as s (.bl k))(h2:k=true->WD b as true (.bl l))(h3:k=false->l=false):WD (BU a b) as true (.bl l):=by
 unfold WD BU at *;rw[h];cases k with
 |true=>exact h2 rfl
 |false=>rw[h3 rfl];rfl
def zw:WA aN as []:=rfl
def zj(ha:WD a as s x)(hr:WA fr as rs):WA (aC a fr) as ((s,x)::rs):=by
 unfold WA aC at *;unfold WD at ha;rw[ha];show((fr as).bind _)=_;rw[hr];rfl
theorem Q9:∀rs:List (Bool×D),YN as (rs.map λx=>.ow<|.lf x.1 x.2)=some (rs.map λx=>(zR x.2||x.1,x.2))
 | []=>rfl
 |r::rs=>by
  show(YN as _).bind _=_;rw[Q9 rs];rfl
theorem Xy:∀rs:List (Bool×D),views as (rs.map λx=>.ow<|.lf x.1 x.2)=some (rs.map (·.2),some (rs.all (·.1)))
 | []=>rfl
 |r::rs=>by
  show(views as _).bind _=_;rw[Xy rs];rfl
def Ze(ha:WA fr as rs)(hg:g (rs.map λx=>(zR x.2||x.1,x.2))=some (.lf s x)):WD (zv fr g) as s x:=by
 unfold WD zv;unfold WA at ha;rw[ha];show(YN as _).bind _=_;rw[Q9];show(g _).bind _=_;rw[hg];rfl
def vU(ha:WA fr as rs)(hg:g (rs.map λx=>(zR x.2||x.1,x.2))=some o):zv fr g as=some (.ow o,as):=by
 unfold zv;unfold WA at ha;rw[ha];show(YN as _).bind _=_;rw[Q9];show(g _).bind _=_;rw[hg];rfl
def Fc(ha:WA fr as rs)(hg:g (rs.map (·.2))=some (.im x)):WD (fP fr g) as (zR x||rs.all (·.1)) x:=by
 unfold WD fP;unfold WA at ha;rw[ha];show(views as _).bind _=_;rw[Xy];show(g _).bind _=_;rw[hg];show(if _=true then _ else _:Option RV).bind _=_;rw[if_pos<|by simp];rfl
def y_(ha:WA fr as rs)(hg:g (rs.map (·.2))=some (.im x))(e:zR x=true):WD (fP fr g) as true x:=by
 have:=Fc ha hg;rw[e]at this;exact this
def zG:WO dN as []:=rfl
def ze{fr}{os}(ha:WD a as s x)(hr:WO fr as os):WO (dC a fr) as (.lf s x::os):=by
 unfold WO dC at *;unfold WD at ha;rw[ha];show((fr as).bind _)=_;rw[hr];rfl
def xp{fr}{os}(h:WO fr as os)(hl:os.length<=sizeLine):yK fr as=some (.ow<|.nd .ls os,as):=by
 unfold yK;unfold WO at h;rw[h];show(if os.length<=sizeLine then _ else _)=_;rw[if_pos hl]
def zV{f g}{as1}{o}(h1:f as=some (.nx as1))(h2:g as1=o):zp f g as=o:=by unfold zp;rw[h1];exact h2
def V6{f g}{o}(h1:f as=some (.rt o)):zp f g as=some (.rt o):=by unfold zp;rw[h1];rfl
def wa{c}{f g}{o}(h:WT c as true)(h1:f as=o):wG c f g as=o:=by unfold wG;unfold WT at h;rw[h];exact h1
def zZ{c}{f g}{o}(h:WT c as false)(h1:g as=o):wG c f g as=o:=by unfold wG;unfold WT at h;rw[h];exact h1
def yz{i:Nat}{st}(h:WD f as s x)(hi:i<as.length):zy st i f as=some (.nx<|as.set i<|some<|.lf s x):=by
 unfold zy;unfold WD at h;rw[h];cases st<;>exact if_pos hi
def yr{i:Nat}{o}(h:f as=some (.ow o,as))(hi:i<as.length):zy false i f as=some (.nx<|as.set i<|some o):=by
 unfold zy;rw[h];exact if_pos hi
def CZ{i:Nat}{o}(h:f as=some (.ow o,as))(hi:i<as.length):zy true i f as=some (.nx<|as.set i<|some o.frz):=by
 unfold zy;rw[h];exact if_pos hi
def XD(h:WD f as true x):yi f as=some (.rt<|.lf true x):=by unfold yi;unfold WD at h;rw[h];rfl
def Yj(hl:ds.length=m)(h:c (YG n ds)=some (.rt o)):v3 n m c ds=some o:=by unfold v3;rw[if_pos hl,h];rfl
theorem yG{g}{f}(I:Nat->AS->Prop):∀(xs:List Z_) (k:Nat) (as:AS),(∀i x as,xs[i]? = some x->I (k+i) as->∃as1,g x as=some as1/\∃as2,f as1=some (.nx as2)/\I (k+i+1) as2)->I k as->∃as',forL g f xs as=some (.nx as')/\I (k+xs.length) as'
 | [],k,as,_,h=>⟨as,rfl,h⟩
 |x::r,k,as,st,h=>by
  obtain⟨as1,h1,as2,h2,h3⟩:=st 0 x as rfl h;obtain⟨as',h4,h5⟩:=yG I r (k+1) as2 (λi y as e q=>by
   obtain⟨u,k1,v,k2,k3⟩:=st (i+1) y as e (by rw[show k+(i+1)=k+1+i by omega];exact q);exact⟨u,k1,v,k2,by rw[show k+1+i+1=k+(i+1)+1 by omega];exact k3⟩) h3
  refine⟨as', ?_,by rw[zzT,show k+(r.length+1)=k+1+r.length by omega];exact h5⟩;show(g x as).bind _=_;rw[h1];show(f as1).bind _=_;rw[h2];exact h4
def yQ{fi}{g}{f}{xs}{as'}{o}(h:fi as=some (xs,as'))(h2:forL g f xs as'=o):yS fi g f as=o:=by unfold yS;rw[h];exact h2
def xm{lo}{n i:Nat}{x}(h:(xb lo n)[i]? = some x):x=(true,.int<|lo+i)/\i<n:=by
 unfold xb at h;rw[zzI]at h;cases e:(List.range n)[i]? with
 |none=>rw[e]at h;cases h
 |some k=>
  rw[e]at h;obtain⟨h1,h2⟩:=zzG.mp e;rw[zyU]at h1;rw[List.getElem_range]at h2;subst h2;exact⟨(zzZ h).symm,h1⟩
def yR(h:WA fr as [(u,.int j)])(h0:0<=j)(h1:j<1000000):z_ fr ya as=some (xb 0 j.toNat,as):=by
 unfold z_;unfold WA at h;rw[h];simp only[zyL,Xy];show((if -_<=j/\j<2 ^ 62 then some _ else none).bind _)=_;rw[if_pos ⟨by omega,by omega⟩];rfl
def SB(ha:a as=some (.ow o,as))(hr:WA fr as rs):WA (aC a fr) as ((o.str,o.toD)::rs):=by
 unfold WA aC at *;rw[ha];show((fr as).bind _)=_;rw[hr];rfl
def Yy{i:Nat}{o}(h:as[i]? = some (some o)):RV.view as (.bo i)=some (o.toD,o.kl):=by simp only[RV.view,h]
def Sl{i:Nat}{o}(h:as[i]? = some (some o)):OU as (.bo i)=some (o.frz,as.set i<|some o.frz):=by simp only[OU,h]
def CS{i:Nat}{o}(h:as[i]? = some (some o))(hs:o.str=true):OD as (.bo i)=some o:=by simp only[OD,h,hs,if_true]
def W_{i:Nat}{k}{os}(h:as[i]? = some (some<|.nd k os)):fV i as=some (.bo i,as):=by unfold fV;rw[h]
def qp{i:Nat}{os}(h:as[i]? = some (some<|.nd .ls os)):WD (fP (aC (fV i) aN) xN) as true (.int os.length):=by
 have e:views as [.bo i]=some ([.lst<|O.toDs os],meet (O.nd .ls os).kl<|some true):=by
  show(RV.view as _).bind _=_;rw[Yy h];rfl
 unfold WD fP aC;rw[W_ h];simp only[zyL,aN,RV.frz,e];rw[show xN [.lst<|O.toDs os]=some (.im<|.int os.length) by show some (R0.im<|.int ((O.toDs os).length:Nat))=_;rw[X4]];rfl
def wK{g}{f}{d}{r}{as1 as2}{o}(h1:g d as=some as1)(h2:f as1=some (.nx as2))(h3:forL g f r as2=o):forL g f (d::r) as=o:=by
 show(g d as).bind _=_;rw[h1];show(f as1).bind _=_;rw[h2];exact h3
def NX{g}{f}{d}{r}{as1}{o}(h1:g d as=some as1)(h2:f as1=some (.rt o)):forL g f (d::r) as=some (.rt o):=by
 show(g d as).bind _=_;rw[h1];show(f as1).bind _=_;rw[h2];rfl
def Lp{i:Nat}{os}(h:as[i]? = some (some<|.nd .ls os))(hl:os.length<sizeLine)(ha:WD a as s x):ym (yN i (dC a dN) yT) as=some (.nx<|as.set i<|some<|.nd .ls<|os++[.lf s x]):=by
 unfold ym yN;rw[h];have e:=ze ha zG;rw[e];show(Option.bind (match as[i]? with|some (some<|.nd .ls os)=>_|_=>none) _)=_;rw[h];show((yT os _).bind _).bind _=_;have e2:yT os [.lf s x]=some (os++[.lf s x],.lf true .non):=by unfold yT;exact if_pos hl
 rw[e2];rfl
def HH{i:Nat}{os}{k}{o}(h:as[i]? = some (some<|.nd .ls os))(ha:WD a as s (.int k))(h0:0<=k)(h1:k<os.length)(hs:os.length<2 ^ 60)(ho:os[k.toNat]? = some o):yN i (dC a dN) X3 as=some (.ow o,as.set i<|some<|.nd .ls<|os.eraseIdx k.toNat):=by
 unfold yN;rw[h];have e:=ze ha zG;rw[e];show(match as[i]? with|some (some<|.nd .ls os)=>_|_=>none)=_;rw[h];show((X3 os _).bind _)=_;have e2:X3 os [.lf s<|.int k]=some (os.eraseIdx k.toNat,o):=by
  unfold X3;show(if -_<=k/\k<2 ^ 63 then _ else _)=_;rw[if_pos ⟨by omega,by omega⟩];have e3:seqIndex? k os.length=some k.toNat:=by unfold seqIndex?;simp;omega
  rw[e3];show((os[k.toNat]?).bind _)=_;rw[ho];rfl
 rw[e2];rfl
def Dv(h:f as=some (.ow o,as))(hg:g (o.str,o.toD) as=some as'):XY f g as=some (.nx as'):=by
 unfold XY;rw[h];show(g _ as).bind _=_;rw[hg];rfl
def L8{i:Nat}{o}(h:as[i]? = some (some o))(hs:o.str=true):yi (fV i) as=some (.rt o):=by
 cases o with
 |lf st d=>unfold yi fV;rw[h];have:st=true:=hs;subst this;rfl
 |nd k os=>
  unfold yi;rw[W_ h];show(OD as _).bind _=_;rw[CS h hs];rfl
def QN{fr}{os}(h:WO fr as os)(hl:os.length<=sizeLine)(ha:os.all O.isLf=true):WD (zX fr) as (O.strs os) (.tup<|O.toDs os):=by
 unfold WD zX;unfold WO at h;rw[h];show(if os.length<=sizeLine then some _ else _)=_;rw[if_pos hl];unfold Zb;rw[if_pos ha]
def DY(ha:a as=some (.ow oa,as1))(hb:b as1=some (.ow ob,as2))(hg:g oa.toD ob.toD=some (.fl zs)):f2 a b g as=some (.ow<|.nd .ls<|zs.map<|Nc<|oa.str&&ob.str,as2):=by
 unfold f2;rw[ha];show((b as1).bind _)=_;rw[hb];show((g oa.toD ob.toD).bind _)=_;rw[hg];show(if _=true then _ else _:Option RV).bind _=_;rw[if_pos<|by unfold meet;simp];rfl
def zW(ha:WD a as true x)(hb:WD b as true y)(hg:g x y=some (.im z)):WD (f2 a b g) as true z:=by
 have:=Ji ha hb hg;rw[show(zR z||(true&&true))=true by simp]at this;exact this
theorem Wc:∀zs:List D,zs.map (Nc true)=zs.map (O.lf true)
 | []=>rfl
 |z::r=>by
  show Nc true z::r.map _=_;rw[Wc r];unfold Nc;rw[zyD];rfl
def Ii(ha:a as=some (.ow oa,as1))(hb:b as1=some (.ow ob,as2))(hg:g oa.toD ob.toD=some (.fl zs))(h1:oa.str=true)(h2:ob.str=true):f2 a b g as=some (.ow<|.nd .ls<|zs.map<|O.lf true,as2):=by
 have:=DY ha hb hg;rw[h1,h2,show(true&&true)=true from rfl,Wc]at this;exact this
def zP{fr}{o}{os}{as1 as2}(ha:a as=some (.ow o,as1))(hr:fr as1=some (os,as2)):dC a fr as=some (o::os,as2):=by
 unfold dC;rw[ha];show((fr as1).bind _)=_;rw[hr];rfl
def add_lists(h:xs.length+ys.length<=sizeLine):Wt .Add (.lst xs) (.lst ys)=some (.fl<|xs++ys):=if_pos h
def QQ(lo)(n:Nat):xb lo (n+1)=(true,.int lo)::xb (lo+1) n:=by
 unfold xb;rw[List.range_succ_eq_map,zyS,zyB]
 congr 1
 . simp
 . apply List.map_congr_left;intro i _;show(true,D.int _)=_
   congr 2
   omega
def NR(ha:WA fr as rs)(hg:g (rs.map (·.2))=some (.im x))(e:rs.all (·.1)=true):WD (fP fr g) as true x:=by
 have:=Fc ha hg;rw[e,zyD]at this;exact this
def Wf(ha:WD a as s y)(ht:CV ty y=true)(hr:WA fr as rs)(hg:g y (rs.map (·.2))=some (.im x))(e:zR x=true):WD (wN ty a fr g) as true x:=by
 unfold WD wN;unfold WD at ha;unfold WA at hr;rw[ha];show(if CV ty y=true then _ else _:Option _)=_;rw[if_pos ht,hr];simp only[zyL,Xy];show((g y _).bind _)=_;rw[hg];show(if _=true then _ else _:Option RV).bind _=_;rw[if_pos<|by rw[e];rfl];show some (RV.ow<|.lf _ x,as)=_;rw[e];rfl
def Hk{fl fh}{lo hi}{g}(ha:WD a as s y)(hl:fl as=some (lo,as))(hh:fh as=some (hi,as))(hg:g y lo hi=some (.im x)):WD (v_ a fl fh g) as (zR x||s) x:=by
 unfold WD v_;unfold WD at ha;rw[ha];show((fl as).bind _)=_;rw[hl];show((fh as).bind _)=_;rw[hh];show((g y lo hi).bind _)=_;rw[hg];show(if _=true then _ else _:Option RV).bind _=_;rw[if_pos<|by simp];rfl
def YT{fi}{cap}{g}{tt}{fe}{xs}{os}(h1:fi as=some (xs,as))(hl:xs.length<=sizeLine)(h2:xv g tt fe (wM cap as) xs=some os):zt fi cap g tt fe as=some (.ow<|.nd .ls os,as):=by
 unfold zt;rw[h1];show(if xs.length<=sizeLine then _ else _)=_;rw[if_pos hl];show _=_;rw[h2];rfl
def OC(ha:fr as=some (rs,as))(hx:YN as rs=some xs)(hg:g xs=some o):zv fr g as=some (.ow o,as):=by
 unfold zv;rw[ha];show(YN as rs).bind _=_;rw[hx];show(g xs).bind _=_;rw[hg];rfl
end
def wd(h:Nat.ble n 1000=true):n<=sizeLine:=Nat.le_of_lt<|wL<|Nat.le_of_ble_eq_true h
def zk(h:Nat.ble (a+1) b=true):a<b:=Nat.le_of_ble_eq_true h
def zU(h0 : -(10 ^ 200)<i)(h1:i<10 ^ 200):i.natAbs<big:=by
 have:10 ^ 200<big:=by unfold big;decide +kernel
 have e:((10 ^ 200:Nat):Int)=(10:Int) ^ 200:=by norm_cast
 have:i.natAbs<((10 ^ 200:Nat):Int):=by rw[e];omega
 omega
def CU{ns:List Int}{k:Int}(h0:0<=k)(h1:k<ns.length):∃x,zg (.lst<|ns.map D.int) (.int k)=some (.im<|.int x):=by
 have hk:k.toNat<ns.length:=by omega
 refine⟨ns[k.toNat], ?_⟩;have h:=xk (xs:=ns.map D.int) (by rw[zzI,zzE hk];rfl);rw[show(k.toNat:Int)=k by omega]at h;show B5 _=_;rw[h];rfl
def GC(K:zzA)(kd:KD)(mg:Str->Option Value)(x:Str)(d:D):Prop:=∃v u,mg x=some u/\RelV v u/\∀(O:Addr->Prop) (H:Hp),Rp K kd O H v d
section
variable{X:Cx}{kd:KD}{K:zzA}{mg:Str->Option Value}
theorem GC.int(h:mg x=some (.int i t)):GC K kd mg x (.int i):=⟨.int i,_,h,⟨t,rfl⟩,λ_ _=>.int i⟩
def qW(K:zzA)(g:Fn):Sp:=λvs H Q E=>∀kd:KD,DT K kd g vs H Q E
end
def sX:O->Option (Bool×D)
 | .lf s d=>some (s,d)
 |_=>none
def SR(h:sX o=some p):o = .lf p.1 p.2:=by
 cases o with
 |lf s d=>cases h;rfl
 |nd k os=>cases h
def OK(i j:Nat)(fd:DF):SF:=λas=>(fd as).bind λp=>(JI p.1).bind λo=>(sX o.1).bind λa=>(sX o.2).bind λb=>if i<p.2.length/\j<p.2.length then some (.nx<|(p.2.set i<|some<|.lf a.1 a.2).set j<|some<|.lf b.1 b.2)else none
section
variable{X:Cx}{kd:KD}{a b:Expr}{fd:DF}{pos:Pos}
def Af(hc:X.calm=true)(hN:X.N.Nodup)(hi:X.N[i]? = some x)(hj:X.N[j]? = some y)(hij:i≠j)
 (hx:X.env.scope.names.lookup x=some .local) (hy:X.env.scope.names.lookup y=some .local) (ha:AD X kd [a,b] fd)
 (hw:swappedStores [.Tuple [.Name x px,.Name y py] kt pt] (.Tuple [a,b] k2 pt2) X.env=pure (some [x,y]))
 (hs:swapsWithSole [.Tuple [.Name x px,.Name y py] kt pt] (.Tuple [a,b] k2 pt2) pos.line X.env=pure false):
 Pp X kd (.Assign [.Tuple [.Name x px,.Name y py] kt pt] (.Tuple [a,b] k2 pt2) pos) (OK i j fd):=by with_unfolding_all exact(wB (JH hc hN hi hj hij hx hy ha hw hs) λD σ H h=>by
 obtain⟨F,B,ad,as,o,R,e,q⟩:=h;obtain⟨⟨os,as1⟩,h1,e⟩:=bS_<|e;obtain⟨⟨o1,o2⟩,e1,e⟩:=bS_ e;obtain⟨⟨s1,d1⟩,e2,e⟩:=bS_ e;obtain⟨⟨s2,d2⟩,e3,e⟩:=bS_ e;cases E_ e1;cases SR e2;cases SR e3
 . obtain⟨⟨l1,l2⟩,e⟩:=zM e;cases e;refine⟨F,B,ad,as,_,as1,R,h1,λvs T' ad' H' R' rl g=>?_⟩;cases rl with
   |cons ra rb=>
    cases rb with
    |cons rb rn=>
     cases rn;cases ra with
     |lf ra=>
            cases rb with
            |lf rb=>
             refine⟨_,_,rfl, ?_⟩;have R2:=R'.put l1<|.lf ra;have R3:=R2.put (by rw[zzU];exact l2)<|xY.less xZ<|.lf rb;exact q _ _ _ R3<|g.trans<|Grow.less λa z=>xZ a<|xZ a z)
end
inductive Ents(w:World):List DictEntry->List (Key×V)->Prop
 |nil:Ents w [] []
 |str {x:Str}{t:Tok}{v:V}{u:Value}{r:List DictEntry}{s:List (Key×V)}:RelV v u->Ents w r s->Ents w (⟨PyData.keyHash w.params x,.str x t,u⟩::r) ((.inr x,v)::s)
theorem Ents.keys:∀{es:List DictEntry}{kvs:List (Key×V)},Ents w es kvs->∀e ∈ es,∃k,(xi P w).is k e.key=true/\e.hash=(xi P w).hash k
 |_,_,.nil,_,m=>nomatch m
 |_,_,.str (x:=x) (t:=t) _ r,e,m=>by
  rcases zzC.mp m with rfl|m
  . exact⟨.inr x,XI P w x t,rfl⟩
  . exact r.keys e m
theorem Ents.pairs:∀{es:List DictEntry}{kvs:List (Key×V)},Ents w es kvs->∃vs,KV kvs vs/\Pairs (xi P w) es vs/\vs.map (·.1)=kvs.map (·.1)
 |_,_,.nil=>⟨[],.nil,.nil,rfl⟩
 |_,_,.str (x:=x) (t:=t) (u:=u) h r=>by
  obtain⟨a,b,c,d⟩:=r.pairs;exact⟨(.inr x,u)::a,.cons ⟨rfl,h⟩ b,.cons (XI P w x t) rfl c,by rw[zyS,zyS,d]⟩
structure DctAt(w:World)(K:zzA)(a:Addr)(kvs:List (Key×V)):Prop where
 ex:∃es ep,K.lookup a=some {cls:=.type "dict",data:=.dict es ep}/\Ents w es.toList kvs
 nd:(kvs.map (·.1)).Nodup
 le:kvs.length<=sizeLine
 ns:(a==sysModules)=false
def qi(l:List (Addr×List (Key×V)))(c:Str->Addr:=λ_=>0):KD:=⟨λa k=>l.lookup a=some k,c⟩
def lookup_mem{l:List (Addr×List (Key×V))}(h:l.lookup a=some k):(a,k) ∈ l:=by
 induction l with
 |nil=>cases h
 |cons p r b=>
  rw[List.lookup_cons]at h
  by_cases e:a=p.1
  . subst e;rw[beq_self_eq_true]at h;cases h;exact zzF
  . rw[show _=false from beq_eq_false_iff_ne.mpr e]at h;exact zzD _<|b h
def DJ{K}(h:∀p ∈ l,DctAt w K p.1 p.2):Zi P w K (qi l c):=λX n o r=>by
 subst n;subst o;subst r;refine⟨λa k v b d=>zzZ<|b.symm.trans d,λa k b=>?_,λa k y b f=>?_⟩
 . obtain⟨g,i,e,_⟩:=(h _<|lookup_mem b).ex;exact⟨_,e⟩
 . have q:=h _<|lookup_mem b;obtain⟨g,i,e,j⟩:=q.ex;obtain⟨s,d,t,u⟩:=j.pairs;refine⟨q.le,q.ns,s,d,_,g,i,f _ _ e,⟨rfl,rfl,rfl⟩,rfl,λx m=>j.keys x (by simpa using m),t,by rw[u];exact q.nd⟩
def isStar:Expr->Bool
 | .Starred .. => true
 |_=>false
def Ke(h:isStar a=false):starEach (a::es) env=(false,eval a env)::starEach es env:=by
 cases a<;>first|rfl|cases h
section
variable{as:AS}{f a b c:EF}{s t u:Bool}{x y z:D}{i j k:Int}
def JZ(h:WD f as s x)(ho:Eg x=true:=by rfl):WD (SG f cl) as true (.bl<|KG (Dt x) cl):=by
 unfold WD SG at *;rw[h];show(if Eg x=true then _ else _)=_;rw[if_pos ho];rfl
def JM(h:WD f as s x)(e:KG (Dt x) cl=q)(ho:Eg x=true:=by rfl):WD (SG f cl) as true (.bl q):=by subst e;exact JZ h ho
def Q3{lo hi}(ha:WD a as true y)(hl:fl as=some (lo,as))(hh:fh as=some (hi,as))(hg:g y lo hi=some (.im x)):WD (v_ a fl fh g) as true x:=by
 have:=Hk ha hl hh hg;rw[zyD]at this;exact this
def Sk(h:WT cc as true)(h1:g as=some (.nx as1))(h2:B4 cc g n as1=o):B4 cc g (n+1) as=o:=by
 unfold WT at h;show(cc as).bind _=_;rw[h];show(g as).bind _=_;rw[h1];exact h2
def M9(h:WT cc as false):B4 cc g (n+1) as=some (.nx as):=by
 unfold WT at h;show(cc as).bind _=_;rw[h];rfl
def JE(h:WO fd as [.lf s x,.lf t y])(hi:p<as.length)(hj:q<as.length):OK p q fd as=some (.nx<|(as.set p<|some<|.lf s x).set q<|some<|.lf t y):=by
 unfold OK;unfold WO at h;rw[h];show(if _ then _ else _)=_;rw[if_pos ⟨hi,hj⟩]
def KH(h1:g w as0=some as1)(h2:WT tt as1 false)(h3:xv g tt fe as0 r=o):xv g tt fe as0 (w::r)=o:=by
 unfold WT at h2;show(g w as0).bind _=_;rw[h1];show(tt as1).bind _=_;rw[h2];exact h3
def BW{os}(h1:g w as0=some as1)(h2:WT tt as1 true)(h3:WD fe as1 true x)(h4:xv g tt fe as0 r=some os):xv g tt fe as0 (w::r)=some (.lf true x::os):=by
 unfold WT at h2;unfold WD at h3;show(g w as0).bind _=_;rw[h1];show(tt as1).bind _=_;rw[h2];show(fe as1).bind _=_;rw[h3];show _=_;rw[h4];rfl
def WE(f:EF)(as:AS)(x:D):Prop:=∃o,f as=some (.ow o,as)/\o.str=true/\o.toD=x
def RE(r:Option O)(x:D):Prop:=∃o,r=some o/\o.str=true/\o.toD=x
def WD.e(h:WD f as true x):WE f as x:=⟨_,h,rfl,rfl⟩
def xy{os}(h:WO fr as os)(hl:os.length<=sizeLine)(hs:O.strs os=true)(e:D.lst (O.toDs os)=x):WE (yK fr) as x:=⟨_,xp h hl,hs,e⟩
def vY(h:WE a as x)(hr:WA fr as rs):WA (aC a fr) as ((true,x)::rs):=by
 obtain⟨o,b,c,rfl⟩:=h;have:=SB b hr;rw[c]at this;exact this
def xX(ha:WE a as x)(hg:RE (g [(true,x)]) z):WE (zv (aC a aN) g) as z:=by
 obtain⟨o,b,c,d⟩:=hg;exact⟨o,vU (vY ha zw) (by show g [(zR x||true,x)]=_;rw[zyD];exact b),c,d⟩
def Z7(ha:WE a as x)(hb:WE b as y)(hg:RE (g [(true,x),(true,y)]) z):WE (zv (aC a<|aC b aN) g) as z:=by
 obtain⟨o,c,d,e⟩:=hg;exact⟨o,vU (vY ha<|vY hb zw) (by show g [(zR x||true,x),(zR y||true,y)]=_;rw[zyD,zyD];exact c),d,e⟩
def Z6(ha:WE a as x)(hb:WE b as y)(hc:WE c as w)(hg:RE (g [(true,x),(true,y),(true,w)]) z):WE (zv (aC a<|aC b<|aC c aN) g) as z:=by
 obtain⟨o,d,e,f⟩:=hg;exact⟨o,vU (vY ha<|vY hb<|vY hc zw) (by show g [(zR x||true,x),(zR y||true,y),(zR w||true,w)]=_;rw[zyD,zyD,zyD];exact d),e,f⟩
def HN(ha:WE a as x)(hb:WE b as y)(hg:g [(true,x),(true,y)]=some (.lf s z)):WD (zv (aC a<|aC b aN) g) as s z:=vU (vY ha<|vY hb zw) (by show g [(zR x||true,x),(zR y||true,y)]=_;rw[zyD,zyD];exact hg)
def AR(ha:WE a as x)(hb:WE b as y)(hc:WE c as w)(hg:g [(true,x),(true,y),(true,w)]=some (.lf s z)):WD (zv (aC a<|aC b<|aC c aN) g) as s z:=vU (vY ha<|vY hb<|vY hc zw) (by show g [(zR x||true,x),(zR y||true,y),(zR w||true,w)]=_;rw[zyD,zyD,zyD];exact hg)
def Ey(ha:WE a as x)(hb:WE b as y)(hg:g x y=some (.im z)):WD (f2 a b g) as true z:=by
 obtain⟨o,c,d,rfl⟩:=ha;obtain⟨p,e,f,rfl⟩:=hb;have:=tX c e hg;rw[d,f,Bool.and_true,zyD]at this;exact this
def oZ(ha:WE a as x)(hb:WE b as y)(hg:g x y=some (.fl zs)):f2 a b g as=some (.ow<|.nd .ls<|zs.map<|O.lf true,as):=by
 obtain⟨o,c,d,rfl⟩:=ha;obtain⟨p,e,f,rfl⟩:=hb;exact Ii c e hg d f
theorem Ri:∀zs:List D,O.strs (zs.map<|O.lf true)=true
 | []=>rfl
 |_::r=>Ri r
theorem VO:∀zs:List D,O.toDs (zs.map<|O.lf true)=zs
 | []=>rfl
 |z::r=>congrArg (z :: ·)<|VO r
def OL(ha:WE a as x)(hb:WE b as y)(hg:g x y=some (.fl zs)):WE (f2 a b g) as (.lst zs):=⟨_,oZ ha hb hg,Ri zs,congrArg D.lst<|VO zs⟩
def xx(h:WE f as x)(hi:p<as.length):zy true p f as=some (.nx<|as.set p<|some<|.lf true x):=by
 obtain⟨o,a,b,rfl⟩:=h;have:=CZ a hi;rw[show o.frz = .lf true o.toD by unfold O.frz;rw[b]]at this;exact this
def OB(ha:WE a as x)(hb:WE b as y)(h:xq 60 x y=some q):WD (f2 a b<|zB .Eq) as true (.bl q):=Ey ha hb (by show(xq 60 x y).bind _=_;rw[h];rfl)
def QR(ha:WE a as x)(hb:WE b as y)(h:xq 60 x y=some q):WD (f2 a b<|zB .NotEq) as true (.bl<|!q):=Ey ha hb (by show(xq 60 x y).bind _=_;rw[h];rfl)
def M_(ha:WE a as x)(hg:g [x]=some (.im z)):WD (fP (aC a aN) g) as true z:=NR (vY ha zw) hg rfl
def v7{os}(ha:a as=some (.ow o,as))(hr:WO fr as os):WO (dC a fr) as (o::os):=zP ha hr
def Te{os}(h:WO fr as os)(hl:os.length<=sizeLine):zX fr as=some (.ow<|Zb os,as):=by
 unfold zX;unfold WO at h;rw[h];show(if os.length<=sizeLine then some _ else _)=_;rw[if_pos hl]
def wA{lo hi}(ha:WE a as y)(hl:fl as=some (lo,as))(hh:fh as=some (hi,as))(hg:g y lo hi=some (.fl zs)):WE (v_ a fl fh g) as (.lst zs):=by
 obtain⟨o,b,c,rfl⟩:=ha;refine⟨.nd .ls _, ?_,Ri zs,congrArg D.lst<|VO zs⟩;unfold v_;rw[b];show((fl as).bind _)=_;rw[hl];show((fh as).bind _)=_;rw[hh];show((g o.toD lo hi).bind _)=_;rw[hg];show(if _=true then some (RV.ow<|.nd .ls<|zs.map<|Nc<|(some o.str).getD false)else none:Option RV).bind _=_;rw[if_pos (by simp),c];show some (RV.ow<|.nd .ls<|zs.map<|Nc true,as)=_;rw[Wc]
def NK:ZO (.lst<|xs++ys) (some (xs.length:Int)) none=some (.fl ys):=by
 show some _=_
 congr 2
 unfold cutD;rw[HT.RZ,HT.Nx,zzJ,Nat.min_eq_left (by omega),List.drop_left,List.take_of_length_le<|by omega]
theorem Lq:∀ds:List D,kids true ds=ds.map λd=>(true,d)
 | []=>rfl
 |d::r=>by show(zR d||true,d)::kids true r=_;rw[Lq r,zyD];rfl
def Pv(h:WE f as (.lst ds)):yA f as=some (ds.map λd=>(true,d),as):=by
 obtain⟨o,a,b,c⟩:=h;unfold yA;rw[a];show(N7 _).bind _=_;rw[b,c];show some _=_;rw[Lq]
def TU(h:WD f as true (.lst ds)):XA f as=some (ds.map λd=>(true,d),as):=by
 unfold XA;unfold WD at h;rw[h];show some (kids true ds,as)=_;rw[Lq]
end
def Tv:List D->Option (List Str)
 | []=>some []
 | .str x::r=>(Tv r).bind λs=>some (x::s)
 |_::_=>none
def C9{K O}(h:RpL K kd O H vs ds)(hv:yd vs us)(e:Tv ds=some ns):StrsAre us ns:=
 RpL.ind (P:=λvs ds=>∀us ns,yd vs us->Tv ds=some ns->StrsAre us ns) (λus ns hv e=>by cases e;cases hv;exact .nil) (λ{v d vs ds} a _ ih us ns hv e=>by
  cases hv with
  |cons b t=>
   cases a with
   |str x=>
    obtain⟨ys,h1,h2⟩:=bS_<|e;cases h2;obtain⟨tk,rfl⟩:=b;exact .cons _ _ (ih _ _ t h1)
   |_=>cases e) h us ns hv e
def Fz:D->List D->Option R0
 | .str sep,[.lst ds]=>(Tv ds).bind λys=>if(ys.map (·.length)).sum+ys.length*sep.length<=16777216 then some (.im<|.str<|Txt.join sep ys)else none
 |_,_=>none
section
variable{X:Cx}{kd:KD}
def Cn:sY X kd "str.join" Fz:=by
 intro b s σ H x B v C Q I c r h;obtain⟨O,d,D,E,F,e,f,a,q⟩:=h;unfold Fz at a
 split at a
 . rename_i g G;obtain⟨J,i,a⟩:=bS_ a;obtain⟨j,a⟩:=zM a;cases a;cases e;obtain⟨t,rfl⟩:=c;obtain⟨y,rfl,l⟩:=Pa f;cases l with
   |lst m n=>
    obtain⟨u,rfl,o⟩:=vals1 r;cases o;obtain⟨p,w,z,_⟩:=I.list m.sq;exact join_list z.isList (C9 n (by simpa using w) i) j λA k=>⟨.str _,H,I.tok _,⟨A,rfl⟩,yk q<|.str _⟩
 . cases a
def qV:D->Option R0
 | .str x=>if x.length<=640 then(PySem.intText? x).bind λn=>some (.im<|.int n)else none
 |d=>qw d
def Mj:List D->Option R0:=JK qV
def MY:Xe X kd (.type "int") Mj:=by
 intro c s σ H m e Q I r h;obtain⟨O,o,z,p,f,a,q⟩:=h;obtain⟨x,d,rfl,g,a⟩:=Q1 f a;cases g with
 |str y=>
  obtain⟨j,a⟩:=ite_some' a;obtain⟨n,k,a⟩:=bS_ a;cases a;obtain⟨u,rfl,l⟩:=vals1 r;obtain⟨t,rfl⟩:=l;exact PySem.W.KIN.call_text k j ⟨.int _,H,I.tok _,⟨_,rfl⟩,yk q<|.int _⟩
 |int i=>cases a;exact Kv c s σ H _ e Q I r (.inl ⟨_,rfl,yk q<|.int _⟩)
 |bl b=>cases a;exact Kv c s σ H _ e Q I r (.inr ⟨_,rfl,yk q<|.int _⟩)
 |_=>cases a
end
section
variable{X:Cx}{pins:List (Addr×Obj)}{σ:List (Option V)}{H:Hp}{s:Shared}{h':Heap}
def Qu{t':Nat}{ch:List Addr}{T}{o}(I:Inv X pins σ H s)(hf:∀b ∈ ch,RA X pins H b)(k:∀b u,b ∉ ch->s.heap.get? b=some u->h'.get? b=some u)(hp:s.heap.objs.size<=T)
 (new:xR X.prog X.w (upd H T o) h' T o):Inv X pins σ (upd H T o) {s with heap:=h',toks:=t'}:=by
 have hn:=I.hok.fresh hp;have nT:∀b u,s.heap.get? b=some u->b≠T:=λb u e z=>absurd (zzK (zxJ e)<|by rw[z];exact hp)<|Nat.lt_irrefl _;have nc:∀b u,H b=some u->b ∉ ch:=λb u e z=>by have:=(hf b z).1;rw[e]at this;cases this
 refine I.step (g':=s.gens) (d':=s.drawn) (λb hb=>?_) (λb o _ _ hc e _=>k b o hc e) (λb o _ _ hc e _=>⟨o.slots,k b o hc e⟩) (λb o _ e n=>by rw[zJ<|nT b o e];exact n)
  (λb o hc e=>⟨o,k b o hc e⟩) (λb xs e=>by rw[zJ<|yE e hn];exact e) (λb o u e=>by rw[zJ<|yE e hn];exact e) (λb ps e=>⟨#[],by rw[zJ<|yE e hn,e];simp⟩) (λm hm=>?_) (λb u e=>?_) I.bare
 . obtain⟨f0,f1,f2,f3,f4,f5⟩:=hf b hb;exact⟨f3,f1,f4,f5⟩
 . obtain⟨o,es,ep,ho,r⟩:=hm;exact⟨o,es,ep,k _ o (λz=>(hf _ z).2.1 rfl) ho,r⟩
 . by_cases hb:b=T
   . subst hb;rw[yp]at e;cases e;exact new
   . rw[zJ hb]at e;refine(I.hok b u e).stay (λc v hc q=>k c v ?_ q) (λc q=>by rw[zJ<|yE q hn];exact q) λc xs q=>by rw[zJ<|yE q hn];exact q
     rcases hc with z|z
     . rw[z];exact nc b u e
     . exact nc c _ z
end
def pb(K:zzA)(a:Addr):It:=
 ⟨λi H=>∃xs x,Xr K H a xs/\xs[i]? = some x,λi H v H'=>∃T x,H T=none/\v = .ref T/\H'=upd H T (.tup [.int i,x])/\∀xs,Xr K H a xs->xs[i]? = some x,λi H=>∃xs,Xr K H a xs/\xs.length<=i⟩
def BF{P}{w}{K}{elts}{k:Nat}{pos}(a e it)(hei:e≠it):Turn P w K (.Tuple elts k pos) (pb K a) [e,it] e (λi h=>(∃old,IsEnum h e it i old)/\h.IsListIter it a i)where
 mem:=by simp
 obj:=λi h st b hb=>by
  obtain⟨⟨old,he⟩,⟨o,e1,c,d⟩⟩:=st
  rcases zzC.mp hb with rfl|hb
  . exact⟨_,he,λv z=>by cases z⟩
  . rw[zzR.mp hb];exact⟨o,e1,λv z=>by rw[d]at z;cases z⟩
 keep:=λi h h' st kk=>⟨st.1.imp λold he=>kk e (by simp) _ he,st.2.at λo q=>kk it (by simp) o q⟩
 item:=by
  intro X hP hw hK hc i pins s σ H E I hf st hg;subst hP hw hK;obtain⟨xs,x,hq,hx⟩:=hg;obtain⟨its,rv,p,hz⟩:=I.list hq;obtain⟨u,hu,ru⟩:=rv.get hx;have hil:i<its.toArray.size:=by have:=(zzG.mp hu).1;simpa using this
  obtain⟨ol,hol,hcl,_⟩:=p.isList;have hae:a≠e:=λz=>by
   obtain⟨⟨old,he⟩,_⟩:=st;rw[z]at hol;rw[show s.heap.get? e=_ from he]at hol;cases hol;injection hcl with q;exact absurd q (by decide)
  have hai:a≠it:=λz=>by
   obtain⟨_,⟨o,e1,c,d⟩⟩:=st;rw[z,e1]at hol;cases hol;rw[c]at hcl;injection hcl with q;exact absurd q (by decide)
  have W:=WalksT.enumerate (prog:=X.prog) (w:=X.w) (I.ok.hd hc) e it a hei hae hai its.toArray;refine W.item i s _ _ hil ⟨st.1,st.2,p.isList⟩ λT vals h1 tk hP hT hTup hMid kk=>?_;obtain⟨t,v,hv,rfl⟩:=hP;have:v=u:=by rw[show its.toArray[i]? = its[i]? by simp,hu]at hv;cases hv;rfl
  subst this;refine⟨_,rfl,W.go elts k pos i T {s with heap:=h1,toks:=tk} _ _ hMid λh2 hSt kk2=>?_⟩;have hn:=I.hok.fresh hT;have hTw:=W.apart i T h1 hMid;have k2:=λb o hb q=>kk2 b o hb<|kk b o hb q;have hT2:IsTup h2 T #[.int i t,v]:=by
   obtain⟨o,q1,q2⟩:=hTup;exact⟨o,kk2 T o hTw q1,q2⟩
  refine⟨.ref T,upd H T<|.tup [.int i,x],Qu (s:=s) (t':=tk) I hf k2 hT ⟨by show 2<=sizeLine;decide,[.int i t,v],.cons ⟨t,rfl⟩<|.cons ru .nil,hT2⟩,rfl,⟨T,x,hn,rfl,rfl,λys hy=>by rw[I.list_inj hy hq];exact hx⟩,⟨hSt.1,hSt.2.1⟩,λb hb=>?_⟩;have hbT:b≠T:=λz=>hTw (by rw[<-z];exact hb);rw[zJ hbT];exact(hf b hb).1
 done:=by
  intro X hP hw hK hc i pins s σ H E I hf st hg;subst hP hw hK;obtain⟨xs,hq,hx⟩:=hg;obtain⟨its,rv,p,hz⟩:=I.list hq;have hl:=rv.length;obtain⟨⟨old,he⟩,hit⟩:=st;obtain⟨f0,f1,f2,f3,f4,f5⟩:=hf it (by simp);exact wpAny_pyNext_enum_end (I.ok.hd hc) he hit p.isList (by simp;omega) λh' eb=>⟨rfl,I.turned (t':=s.toks) (λb o hb e=>eb b o hb e) f0 f1 f3 f4 f5⟩
 self:=λ_ _ _ _ _ st h=>by
  obtain⟨⟨old,he⟩,_⟩:=st;exact wpAny_pyIter_enum he h
section
variable{X:Cx}{tg:Expr}
def Ae(K:zzA)(ta:TA):TI:=λσ H R=>ta σ H λvs H1=>∃a,vs=[.ref a]/\(∃xs,Xr K H1 a xs)/\R (pb K a) H1
def C3{l}{ta}{p pos pos'}{elts}{k:Nat}(hg:Gl X "enumerate")(hm:X.mg "enumerate"=none)(ha:PA X [l] ta)(hs:starEach [l] X.env=[(false,eval l X.env)]):
 PI X (.Tuple elts k pos') (.Call (.Name "enumerate" p) [l] [] pos) (Ae X.K ta):=by
 intro pins s σ H R I h;refine Call_<|Z1 I hg hm boot_enumerate<|PyProof.Rows.callWith_type1 (thn (ha pos pins s σ H _ I h) λus s1 ⟨vs,H1,I1,r1,q1⟩=>?_) hs rfl;obtain⟨a,rfl,⟨xs,hq⟩,q⟩:=q1;cases r1 with
 |cons r rr=>
  cases rr;cases r;obtain⟨its,rv,pl,hz⟩:=I1.list hq;refine call_enumerate_list pl.isList λh' he hit hsz hk=>?_;refine wpAny_pyIter_enum he ⟨s1.heap.objs.size+1,[s1.heap.objs.size+1,s1.heap.objs.size],_,_,H1,rfl,I1.kept (t':=s1.toks) hk,BF a _ _<|Nat.succ_ne_self _,⟨⟨_,he⟩,hit⟩,λb hb=>?_,q⟩;have hb':s1.heap.objs.size<=b:=by
   rcases zzC.mp hb with rfl|hb
   . exact zyX _
   . rw[zzR.mp hb];exact zzN _
  exact I1.fpOk hb'<|I1.hok.fresh hb'
end
section
variable{X:Cx}{kd:KD}{tg e:Expr}{fa:EF}
def WC(st:Bool):Nat->List D->List Z_
 |_,[]=>[]
 |i,d::r=>(st,.tup [.int i,d])::WC st (i+1) r
theorem Ky(st):∀(i:Nat) (ds:List D),(WC st i ds).length=ds.length
 |_,[]=>rfl
 |i,_::r=>congrArg (· + 1)<|Ky st (i+1) r
theorem G4{st}:∀{j:Nat}{ds:List D}{i:Nat}{y:Z_},(WC st j ds)[i]? = some y->∃d,ds[i]? = some d/\y=(st,.tup [.int ((j+i:Nat):Int),d])
 |_,[],_,_,h=>by simp[WC]at h
 |j,d::r,0,y,h=>by
  simp only[WC,List.getElem?_cons_zero]at h;cases h;exact⟨d,rfl,rfl⟩
 |j,d::r,i+1,y,h=>by
  simp only[WC,List.getElem?_cons_succ]at h;obtain⟨d',h1,h2⟩:=G4 h;exact⟨d',by simpa using h1,by rw[h2,show j+1+i=j+(i+1) by omega]⟩
def Cw(f:EF):IF:=λas=>(f as).bind λp=>(Ue p.2 p.1).bind λq=>match q.1 with
 |(st,.lst ds)=>some (WC st 0 ds,q.2)
 |_=>none
end
mutual
def Gm:D->Option PyData
 | .non=>some .none
 | .bl b=>some<|.bool b
 | .int i=>some<|.int i
 | .str x=>some<|.str x
 | .tup ds=>(L4 ds).bind λps=>some<|.tuple ps
 | .lst ds=>(L4 ds).bind λps=>some<|.list ps
 | .dct _=>none
 | .cl _=>none
 | .ob _ _ _=>none
 | .dt _ _=>none
 | .er _ _ _=>none
def L4:List D->Option (List PyData)
 | []=>some []
 |d::r=>(Gm d).bind λp=>(L4 r).bind λps=>some (p::ps)
end
section
variable{X:Cx}{kd:KD}{pins:List (Addr×Obj)}{σ:St}{H:Hp}{s:Shared}{O:Addr->Prop}
mutual
theorem NB(I:Inv X pins σ H s):∀{v:V}{d:D}{u:Value}{p:PyData},Rp X.K kd O H v d->RelV v u->Gm d=some p->∃as,Reads s.heap u p as
 |_,_,u,p,.non,r,e=>by unfold Gm at e;cases e;cases r;exact⟨_,.none⟩
 |_,_,u,p,.bl b,r,e=>by unfold Gm at e;cases e;cases r;exact⟨_,.bool b⟩
 |_,_,u,p,.int i,r,e=>by unfold Gm at e;cases e;obtain⟨t,rfl⟩:=r;exact⟨_,.int i t⟩
 |_,_,u,p,.str x,r,e=>by unfold Gm at e;cases e;obtain⟨t,rfl⟩:=r;exact⟨_,.str x t⟩
 |_,_,u,p,.tup hn hr rl,r,e=>by
  unfold Gm at e;obtain⟨ps,h1,h2⟩:=bS_ e;cases h2;cases r;obtain⟨its,rv,⟨o,e1,c,n,dd⟩,_⟩:=I.tuple<|.inl<|.inl hr;obtain⟨as,ra⟩:=Wd I rl rv h1;exact⟨_,.tuple e1 c dd<|by simpa using ra⟩
 |_,_,u,p,.lst hn hr rl,r,e=>by
  unfold Gm at e;obtain⟨ps,h1,h2⟩:=bS_ e;cases h2;cases r;obtain⟨its,rv,⟨o,n,e1,c,_,dd⟩,_⟩:=I.list<|.inl hr;obtain⟨as,ra⟩:=Wd I rl rv h1;exact⟨_,.list e1 c dd<|by simpa using ra⟩
 |_,_,u,p,.lstK hk hz hv rl,r,e=>by
  unfold Gm at e;obtain⟨ps,h1,h2⟩:=bS_ e;cases h2;cases r;obtain⟨as,ra⟩:=Wd I rl hv h1;exact⟨_,.list (I.kIn _ _ hk) rfl rfl ra⟩
 |_,_,u,p,.dct _ _ _,r,e=>by unfold Gm at e;cases e
 |_,_,u,p,.cl _,r,e=>by unfold Gm at e;cases e
 |_,_,u,p,.ob _ _ _ _,r,e=>by unfold Gm at e;cases e
 |_,_,u,p,.dt _ _ _ _,r,e=>by unfold Gm at e;cases e
 |_,_,u,p,.er _ _ _ _ _,r,e=>by unfold Gm at e;cases e
 |_,_,u,p,.dctK _ _,r,e=>by unfold Gm at e;cases e
theorem Wd(I:Inv X pins σ H s):∀{vs:List V}{ds:List D}{us:List Value}{ps:List PyData},RpL X.K kd O H vs ds->yd vs us->L4 ds=some ps->∃as,ReadsAll s.heap us ps as
 |_,_,_,_,.nil,.nil,e=>by unfold L4 at e;cases e;exact⟨_,.nil⟩
 |_,_,_,_,.cons a r,.cons b t,e=>by
  unfold L4 at e;obtain⟨p,h1,e⟩:=bS_ e;obtain⟨ps,h2,e⟩:=bS_ e;cases e;obtain⟨as,x⟩:=NB I a b h1;obtain⟨bs,y⟩:=Wd I r t h2;exact⟨_,.cons x y⟩
end
def Nd:List D->Option R0
 | [.tup ds]=>(Gm<|.tup ds).bind λp=>if p.showable=true/\p.hasDict=false/\p.depth<=60/\p.shown.length<=sizeLine then some (.im<|.str p.shown)else none
 |_=>none
def EU(hg:X.A.guards=some [])(hu:X.A.units+100<cLine):Xe X kd (.builtin "repr") Nd:=by
 intro pins s σ H xs us Q I r h;obtain⟨O,ds,z,ht,vl,he,q⟩:=h;unfold Nd at he
 split at he
 . obtain⟨p,h1,he⟩:=bS_ he;obtain⟨⟨hs,hd,hp,hz⟩,he⟩:=zM he;cases he;obtain⟨x,rfl,vx⟩:=Pa vl;obtain⟨u,rfl,ru⟩:=vals1 r;cases vx with
   |tup rp hr rl=>
    obtain⟨as,rd⟩:=NB I rp ru h1;cases ru;exact repr_of_reads' rd hs (PyData.noDict_hsm hd) hg (by omega) (λ_ _ e=>e) (λh' u tk hk=>⟨.str _,H,I.kept hk,⟨u,rfl⟩,yk q<|.str _⟩) hz
 . cases he
end
def Hc(sep)(ys):Txt.join sep ys=Str.join sep ys:=StrLaws.glued_eq_join sep ys
section
variable{as:AS}{f a b:EF}{s t:Bool}{x y z:D}
def Ep:ZO (.lst<|xs++ys) none (some (xs.length:Int))=some (.fl xs):=by
 show some _=_
 congr 2
 unfold cutD;rw[HT.RZ,HT.Nx,zzJ,Nat.min_eq_left (by omega),List.drop_zero,Nat.sub_zero,List.take_left]
end
def qk(K:zzA)(a b:Addr):It:=
 ⟨λi H=>∃xs ys x y,Xr K H a xs/\Xr K H b ys/\xs[i]? = some x/\ys[i]? = some y,
  λi H v H'=>∃T x y,H T=none/\v = .ref T/\H'=upd H T (.tup [x,y])/\(∀xs,Xr K H a xs->xs[i]? = some x)/\∀ys,Xr K H b ys->ys[i]? = some y,
  λi H=>∃xs ys,Xr K H a xs/\Xr K H b ys/\(xs.length<=i\/ys.length<=i)⟩
def ER{X}{pins}{σ}{H}{s}{h'}{t':Nat}{ch:List Addr}(I:Inv X pins σ H s)(hf:∀b ∈ ch,RA X pins H b)(k:∀b u,b ∉ ch->s.heap.get? b=some u->h'.get? b=some u):Inv X pins σ H {s with heap:=h',toks:=t'}:=by
 have nc:∀b u,H b=some u->b ∉ ch:=λb u e z=>by have:=(hf b z).1;rw[e]at this;cases this
 refine I.step (g':=s.gens) (d':=s.drawn) (λb hb=>?_) (λb o _ _ hc e _=>k b o hc e) (λb o _ _ hc e _=>⟨o.slots,k b o hc e⟩) (λb o _ e n=>n)
  (λb o hc e=>⟨o,k b o hc e⟩) (λb xs e=>e) (λb o u e=>e) (λb ps e=>⟨#[],by rw[e];simp⟩) (λm hm=>?_) (λb u e=>?_) I.bare
 . obtain⟨f0,f1,f2,f3,f4,f5⟩:=hf b hb;exact⟨f3,f1,f4,f5⟩
 . obtain⟨o,es,ep,ho,r⟩:=hm;exact⟨o,es,ep,k _ o (λz=>(hf _ z).2.1 rfl) ho,r⟩
 . refine(I.hok b u e).stay (λc v hc q=>k c v ?_ q) (λc q=>q) λc xs q=>q
   rcases hc with z|z
   . rw[z];exact nc b u e
   . exact nc c _ z
def Oz{P}{w}{K}{elts}{k:Nat}{pos}(a b z TI TO i1 i2:Addr)(D:ZipApart z TI TO i1 i2 a b):Turn P w K (.Tuple elts k pos) (qk K a b) [z,TI,TO,i1,i2] z
 (λi h=>IsZip h z TI TO .none/\IsPair h TI (.ref i1) (.ref i2)/\(∃p q,IsPair h TO p q)/\h.IsListIter i1 a i/\h.IsListIter i2 b i)where
 mem:=by simp
 obj:=λi h st c hc=>by
  obtain⟨hz,hTI,⟨p,q,hTO⟩,⟨o1,e1,c1,d1⟩,⟨o2,e2,c2,d2⟩⟩:=st;simp only[zzC,zxC,or_false]at hc
  rcases hc with rfl|rfl|rfl|rfl|rfl
  . exact⟨_,hz,λv z=>by cases z⟩
  . exact⟨_,hTI,λv z=>by cases z⟩
  . exact⟨_,hTO,λv z=>by cases z⟩
  . exact⟨o1,e1,λv z=>by rw[d1]at z;cases z⟩
  . exact⟨o2,e2,λv z=>by rw[d2]at z;cases z⟩
 keep:=λi h h' st kk=>by
  obtain⟨hz,hTI,⟨p,q,hTO⟩,h1,h2⟩:=st;exact⟨kk z (by simp) _ hz,kk TI (by simp) _ hTI,⟨p,q,kk TO (by simp) _ hTO⟩,h1.at λo e=>kk i1 (by simp) o e,h2.at λo e=>kk i2 (by simp) o e⟩
 item:=by
  intro X hP hw hK hc i pins s σ H E I hf st hg;subst hP hw hK;obtain⟨xs,ys,x,y,hq,hr,hx,hy⟩:=hg;obtain⟨its,rv,p,hz⟩:=I.list hq;obtain⟨jts,rw',p',hz'⟩:=I.list hr;obtain⟨u,hu,ru⟩:=rv.get hx;obtain⟨u',hu',ru'⟩:=rw'.get hy;have W:=WalksT.zip2 (prog:=X.prog) (w:=X.w) (I.ok.hd hc) z TI TO i1 i2 a b D its.toArray jts.toArray;obtain⟨s1,s2,s3,s4,s5⟩:=st;have hil:i<min its.toArray.size jts.toArray.size:=by
   have:=(zzG.mp hu).1;have:=(zzG.mp hu').1;simp only[zzH];omega
  refine W.item i s _ _ hil ⟨s1,s2,s3,s4,s5,p.isList,p'.isList⟩ λT vals h1 tk hP hT hTup hMid kk=>?_;obtain⟨v,v',hv,hv',rfl⟩:=hP;have e1:v=u:=by rw[show its.toArray[i]? = its[i]? by simp,hu]at hv;cases hv;rfl
  have e2:v'=u':=by rw[show jts.toArray[i]? = jts[i]? by simp,hu']at hv';cases hv';rfl
  subst e1 e2;refine⟨_,rfl,W.go elts k pos i T {s with heap:=h1,toks:=tk} _ _ hMid λh2 hSt kk2=>?_⟩;have hn:=I.hok.fresh hT;have hTw:=W.apart i T h1 hMid;have sub:∀c,c ∉ [z,TI,TO,i1,i2]->c ∉ [z,TO,i1,i2]:=λc hc m=>hc (by simp only[zzC,zxC,or_false]at m ⊢;rcases m with rfl|rfl|rfl|rfl<;>simp);have k2:=λc o hb q=>kk2 c o (sub c hb)<|kk c o (sub c hb) q;have hT2:IsTup h2 T #[v,v']:=by
   obtain⟨o,q1,q2⟩:=hTup;exact⟨o,kk2 T o hTw q1,q2⟩
  obtain⟨t1,t2,t3,t4,t5,_,_⟩:=hSt;refine⟨.ref T,upd H T<|.tup [x,y],Qu (s:=s) (t':=tk) I hf k2 hT ⟨by show 2<=sizeLine;decide,[v,v'],.cons ru<|.cons ru' .nil,hT2⟩,rfl,⟨T,x,y,hn,rfl,rfl,λq hq'=>by rw[I.list_inj hq' hq];exact hx,λq hq'=>by rw[I.list_inj hq' hr];exact hy⟩,⟨t1,t2,t3,t4,t5⟩,λc hc=>?_⟩;have hcT:c≠T:=λe=>by
   have:c<s.heap.objs.size:=by
    have hob:∀d ∈ [z,TI,TO,i1,i2],∃o,s.heap.get? d=some o:=λd hd=>by
     obtain⟨pp,qq,hTO⟩:=s3;obtain⟨o1,e1,_⟩:=s4;obtain⟨o2,e2,_⟩:=s5;simp only[zzC,zxC,or_false]at hd
     rcases hd with rfl|rfl|rfl|rfl|rfl
     . exact⟨_,s1⟩
     . exact⟨_,s2⟩
     . exact⟨_,hTO⟩
     . exact⟨_,e1⟩
     . exact⟨_,e2⟩
    obtain⟨o,ho⟩:=hob c hc;exact zxJ ho
   rw[e]at this;exact absurd (zzK this hT)<|Nat.lt_irrefl _
  rw[zJ hcT];exact(hf c hc).1
 done:=by
  intro X hP hw hK hc i pins s σ H E I hf st hg;subst hP hw hK;obtain⟨xs,ys,hq,hr,hx⟩:=hg;obtain⟨its,rv,p,hz⟩:=I.list hq;obtain⟨jts,rw',p',hz'⟩:=I.list hr;have hl:=rv.length;have hl':=rw'.length;obtain⟨s1,s2,⟨pp,qq,s3⟩,s4,s5⟩:=st;refine wpAny_pyNext_zip_end (I.ok.hd hc) D s1 s2 s3 s4 s5 p.isList p'.isList (hx.imp (λh=>by simp;omega) λh=>by simp;omega) λh' eb=>⟨rfl,ER (t':=s.toks) I hf λc o hc q=>eb c o ?_ ?_ ?_ ?_ q⟩<;>(intro e;exact hc<|by simp[e])
 self:=λ_ _ _ _ _ st h=>wpAny_pyIter_zip st.1 h
section
variable{X:Cx}{tg:Expr}
def tL(K:zzA)(ta:TA):TI:=λσ H R=>ta σ H λvs H1=>∃a b,vs=[.ref a,.ref b]/\(∃xs,Xr K H1 a xs)/\(∃ys,Xr K H1 b ys)/\R (qk K a b) H1
def Bl(I l1 l2:Nat)(h1:l1<I)(h2:l2<I):ZipApart (I+4) (I+2) (I+3) I (I+1) l1 l2:=by
 constructor<;>(show(_:Nat)≠_;omega)
def DA{l l'}{ta}{p pos pos'}{elts}{k:Nat}(hg:Gl X "zip")(hm:X.mg "zip"=none)(ha:PA X [l,l'] ta)(hs:starEach [l,l'] X.env=[(false,eval l X.env),(false,eval l' X.env)])(hs2:starEach [l'] X.env=[(false,eval l' X.env)]):
 PI X (.Tuple elts k pos') (.Call (.Name "zip" p) [l,l'] [] pos) (tL X.K ta):=by
 intro pins s σ H R I h;refine Call_ (Z1 I hg hm boot_zip<|PyProof.Rows.callWith_type1 (thn (ha pos pins s σ H _ I h) λus s1 ⟨vs,H1,I1,r1,q1⟩=>?_) (by rw[hs,hs2])<|by rw[hs2];rfl);obtain⟨a,b,rfl,⟨xs,hq⟩,⟨ys,hr⟩,q⟩:=q1;cases r1 with
 |cons r rr=>
  cases rr with
  |cons r' rr=>
   cases rr;cases r;cases r';obtain⟨its,rv,pl,hz⟩:=I1.list hq;obtain⟨jts,rw',pl',hz'⟩:=I1.list hr;obtain⟨o1,ho1,_⟩:=pl.isList;obtain⟨o2,ho2,_⟩:=pl'.isList;refine call_zip_2 pl.isList pl'.isList λh' hZ hTI hTO hi1 hi2 hsz hk=>?_;refine wpAny_pyIter_zip hZ ⟨s1.heap.objs.size+4,[s1.heap.objs.size+4,s1.heap.objs.size+2,s1.heap.objs.size+3,s1.heap.objs.size,s1.heap.objs.size+1],_,_,H1,rfl,I1.kept (t':=s1.toks) hk,Oz a b _ _ _ _ _<|Bl _ _ _ (zxJ ho1)<|zxJ ho2,⟨hZ,hTI,⟨_,_,hTO⟩,hi1,hi2⟩,λc hc=>?_,q⟩;have hb':s1.heap.objs.size<=c:=by
    simp only[zzC,zxC,or_false]at hc
    rcases hc with rfl|rfl|rfl|rfl|rfl<;>first|exact zzN _|exact Nat.le_add_right _ _
   exact I1.fpOk hb'<|I1.hok.fresh hb'
end
section
variable{X:Cx}{kd:KD}{tg e:Expr}{fa:EF}
def Yu(st:Bool):List D->List D->List Z_
 |x::r,y::t=>(st,.tup [x,y])::Yu st r t
 |_,_=>[]
theorem Qp(st):∀(xs ys:List D),(Yu st xs ys).length=min xs.length ys.length
 | [],_=>by simp[Yu]
 |_::_,[]=>by simp[Yu]
 |_::r,_::t=>by simp only[Yu,zzT,Qp st r t];omega
theorem X7{st}:∀{xs ys:List D}{i:Nat}{y:Z_},(Yu st xs ys)[i]? = some y->∃d e,xs[i]? = some d/\ys[i]? = some e/\y=(st,.tup [d,e])
 | [],_,_,_,h=>by simp[Yu]at h
 |_::_,[],_,_,h=>by simp[Yu]at h
 |x::r,y::t,0,z,h=>by
  simp only[Yu,List.getElem?_cons_zero]at h;cases h;exact⟨x,y,rfl,rfl,rfl⟩
 |x::r,y::t,i+1,z,h=>by
  simp only[Yu,List.getElem?_cons_succ]at h;obtain⟨d,e,h1,h2,h3⟩:=X7 h;exact⟨d,e,by simpa using h1,by simpa using h2,h3⟩
def Dl{K}{F B}{ad}{H}{a b}{vs ws}{st}{ds es}(hs:∀(ad3:Ad) (H3:Hp),Grow (Gw [] ad) H (Gw [] ad3) H3->Xr K H3 a vs)(hs':∀(ad3:Ad) (H3:Hp),Grow (Gw [] ad) H (Gw [] ad3) H3->Xr K H3 b ws)
 (r:RpL K kd (Lv F B (Gw [] ad) st) H vs ds) (r':RpL K kd (Lv F B (Gw [] ad) st) H ws es):ItOk K kd F B ad H (qk K a b) (Yu st ds es):=⟨λad3 H3 g3 tr i=>by
 have hr3:=hs ad3 H3 g3;have hr4:=hs' ad3 H3 g3;have rl3:=RpL.grow g3 r;have rl4:=RpL.grow g3 r';have hlen:=Qp st ds es;have l1:=r.length;have l2:=r'.length;refine⟨λhi=>?_,λhi=>⟨_,_,hr3,hr4,by omega⟩,λv H4 hy=>?_⟩
 . obtain⟨u,hu,_⟩:=r.get<|zzE (show i<ds.length by omega);obtain⟨u',hu',_⟩:=r'.get<|zzE (show i<es.length by omega);exact⟨_,_,u,u',hr3,hr4,hu,hu'⟩
 . obtain⟨T,x,y,hn,rfl,rfl,hv,hv'⟩:=hy;refine⟨wW hn,λq hq=>?_⟩;obtain⟨d,e,hd,he,rfl⟩:=X7 hq;obtain⟨u,hu,ru⟩:=rl3.get hd;obtain⟨u',hu',ru'⟩:=rl4.get he;have:=hv _ hr3;rw[hu]at this;cases this;have:=hv' _ hr4;rw[hu']at this;cases this;exact .tup (λz=>tr _ _ z hn) yp<|.cons (Rp.grow ⟨λb o q _=>wW hn b o q,λb z=>.inl z⟩ ru)<|.cons (Rp.grow ⟨λb o q _=>wW hn b o q,λb z=>.inl z⟩ ru') .nil⟩
def FZ(fr:AF):IF:=λas=>(fr as).bind λp=>(JI p.1).bind λo=>(rz o.1).bind λa=>(rz o.2).bind λb=>some (Yu (a.1&&b.1) a.2 b.2,p.2)
def K9{K}{F B}{ad}{H}{v}{st q}{ds}(rp:Rp K kd (Lv F B (Gw [] ad) st) H v (.lst ds))(hq:q=true->st=true):∃a vs,v = .ref a/\(∀(ad3:Ad) (H3:Hp),Grow (Gw [] ad) H (Gw [] ad3) H3->Xr K H3 a vs)/\RpL K kd (Lv F B (Gw [] ad) q) H vs ds:=by
 have le:∀a,Lv F B (Gw [] ad) q a->Lv F B (Gw [] ad) st a:=λa z=>z.imp (λy=>y.imp (λx=>⟨hq x.1,x.2⟩) id) id;cases rp with
 |lst hn hr rl=>exact⟨_,_,rfl,λad3 H3 g3=>.inl<|VN g3 (λz=>hn<|.inr z) hr,rl.less le⟩
 |lstK a b c rl=>exact⟨_,_,rfl,λad3 H3 g3=>.inr ⟨_,_,_,a,rfl,rfl,rfl,b,c⟩,rl.less le⟩
def AB{l l'}{fr}{p pos pos'}{elts}{k:Nat}(hg:Gl X "zip")(hm:X.mg "zip"=none)(ha:AA X kd [l,l'] fr)(hs:starEach [l,l'] X.env=[(false,eval l X.env),(false,eval l' X.env)])(hs2:starEach [l'] X.env=[(false,eval l' X.env)]):
 AI X kd (.Tuple elts k pos') (.Call (.Name "zip" p) [l,l'] [] pos) (FZ fr):=by
 with_unfolding_all (
 intro pins s σ H R I h;obtain⟨F,B,ad,as,ds,as',Rl,e',q⟩:=h;obtain⟨⟨rs,as1⟩,h1,e'⟩:=bS_<|e';obtain⟨⟨o1,o2⟩,e1,e'⟩:=bS_ e';obtain⟨⟨s1,d1⟩,e2,e'⟩:=bS_ e';obtain⟨⟨s2,d2⟩,e3,e'⟩:=bS_ e';cases E_ e1;cases HS e2;cases HS e3
 . cases e';refine DA hg hm ha hs hs2 pins s σ H R I ⟨F,B,ad,as,_,as1,Rl,h1,λvs ad1 H1 R1 rv1 g1=>?_⟩;cases rv1 with
   |cons r1 rr=>
    cases rr with
    |cons r2 rr=>
     cases rr;cases r1 with
     |lf rp1=>
      cases r2 with
      |lf rp2=>
       obtain⟨a,vs,rfl,ha,ra⟩:=K9 rp1 λz=>(Bool.and_eq_true_iff.mp z).1;obtain⟨b,ws,rfl,hb,rb⟩:=K9 rp2 λz=>(Bool.and_eq_true_iff.mp z).2;exact⟨a,b,rfl,⟨_,ha _ _ Grow.refl⟩,⟨_,hb _ _ Grow.refl⟩,q _ ad1 H1 R1 g1<|Dl ha hb ra rb⟩)
end
def insI(x:Int):List Int->List Int
 | []=>[x]
 |y::r=>if x<=y then x::y::r else y::insI x r
def sortI:List Int->List Int
 | []=>[]
 |x::r=>insI x<|sortI r
theorem insI_perm(x):∀l:List Int,(insI x l).Perm (x::l)
 | []=>List.Perm.refl _
 |y::r=>by
  unfold insI
  split
  . exact List.Perm.refl _
  . exact((insI_perm x r).cons y).trans<|List.Perm.swap x y r
theorem sortI_perm:∀l:List Int,(sortI l).Perm l
 | []=>List.Perm.refl _
 |x::r=>(insI_perm x _).trans<|(sortI_perm r).cons x
theorem U4(x):∀l:List Int,l.Pairwise (· <= ·)->(insI x l).Pairwise (· <= ·)
 | [],_=>by simp[insI]
 |y::r,h=>by
  unfold insI;rw[List.pairwise_cons]at h
  split
  . rename_i a;rw[List.pairwise_cons,List.pairwise_cons];refine⟨λz b=>?_,h⟩
    rcases zzC.mp b with rfl|b
    . exact a
    . exact Int.le_trans a<|h.1 z b
  . rename_i a;rw[List.pairwise_cons];refine⟨λz b=>?_,U4 x r h.2⟩
    rcases zzC.mp ((insI_perm x r).mem_iff.mp b)with rfl|b
    . omega
    . exact h.1 z b
theorem Yr:∀l:List Int,(sortI l).Pairwise (· <= ·)
 | []=>List.Pairwise.nil
 |x::r=>U4 x _<|Yr r
theorem Kr:∀(a b:List Int),a.Perm b->a.Pairwise (· <= ·)->b.Pairwise (· <= ·)->a=b
 | [],b,p,_,_=>by rw[List.nil_perm]at p;exact p.symm
 |x::r,[],p,_,_=>by rw[List.perm_nil]at p;cases p
 |x::r,y::t,p,c,d=>by
  rw[List.pairwise_cons]at c d;have f:x=y:=by
   have h:=p.mem_iff.mp<|zzF ..;have i:=p.mem_iff.mpr<|zzF ..
   rcases zzC.mp h with e|e
   . exact e
   . rcases zzC.mp i with g|g
     . exact g.symm
     . have:=d.1 x e;have:=c.1 y g;omega
  subst f;rw[Kr r t (List.Perm.cons_inv p) c.2 d.2]
def Qk{K O}(h:RpL K kd O H vs ds)(hv:yd vs us)(e:vZ ds=some ns):IntsAre us ns:=
 RpL.ind (P:=λvs ds=>∀us ns,yd vs us->vZ ds=some ns->IntsAre us ns) (λus ns hv e=>by cases e;cases hv;exact .nil) (λ{v d vs ds} a _ ih us ns hv e=>by
  cases hv with
  |cons b t=>
   cases a with
   |int x=>
    obtain⟨ys,h1,h2⟩:=bS_<|e;cases h2;obtain⟨tk,rfl⟩:=b;exact .cons _ _ (ih _ _ t h1)
   |_=>cases e) h us ns hv e
theorem Yl:∀{us:List Value}{ns:List Int},IntsAre us ns->yd (ns.map V.int) us
 |_,_,.nil=>.nil
 |_,_,.cons n t r=>.cons ⟨t,rfl⟩<|Yl r
theorem NH{K O}:∀ns:List Int,RpL K kd O H (ns.map V.int)<|ns.map D.int
 | []=>.nil
 |y::r=>.cons (.int y)<|NH r
def HJ:List D->Option R0:=JK λx=>(IH x).bind λds=>(vZ ds).bind λns=>if ns.length<64 then some (.fl<|(sortI ns).map .int)else none
section
variable{X:Cx}{kd:KD}
def MC:Xe X kd (.builtin "sorted") HJ:=by
 intro pins s σ H xs us Q I r h;obtain⟨O,ds,z,ht,vl,he,q⟩:=h;obtain⟨x,d,rfl,vx,he⟩:=Q1 vl he;obtain⟨ds,h0,he2⟩:=bS_<|he;cases VF h0
 . obtain⟨ns,h1,he⟩:=bS_ he2;obtain⟨hz,he⟩:=zM he;cases he;cases vx with
   |lst hr rl=>
    obtain⟨u,rfl,ru⟩:=vals1 r;cases ru;obtain⟨its,rv,pl,_⟩:=I.list hr.sq;have hI:=Qk rl rv h1;have hl:=hI.length;refine sorted_ints pl.isList hI (by omega) λout ns' a1 a2 a3=>?_;have e:=Kr _ _ (a2.trans (sortI_perm ns).symm) a3<|Yr ns;subst e;obtain⟨ee,hob⟩:=sortedAll_at s.heap its out;have hn:=I.hok.fresh<|zyX _;refine⟨.ref _,_,I.laid (t':=s.toks) (λb o e=>sortedAll_old e) (zyX _) (show xR X.prog X.w _ _ _ (.lst _)from⟨?_,out.toList,ee,Yl a1,by simpa[seqObj]using hob⟩),rfl,QV q (NH _) _ hn⟩;rw[zzB,(sortI_perm ns).length_eq];exact Nat.le_of_lt (wL<|by omega)
end
def Vl(f:D->Option Bool):List D->Option Nat
 | []=>none
 |x::r=>(f x).bind λb=>if b=true then(anyF f r).bind λ_=>some 0 else(Vl f r).bind λj=>some<|j+1
def wF(d:D):List D->Option R0:=JK λx=>(IH d).bind λds=>(Vl (λy=>xq 50 y x) ds).bind λj=>if ds.length<=1000 then some (.im<|.int j)else none
theorem NQ:∀{ds:List D}{j:Nat},Vl f ds=some j->∀d ∈ ds,∃c,f d=some c
 | [],_,h,_,m=>nomatch m
 |x::r,j,h,d,m=>by
  obtain⟨b,e,h⟩:=bS_<|h
  rcases zzC.mp m with rfl|m
  . exact⟨b,e⟩
  . cases b with
    |true=>
     obtain⟨c,a,_⟩:=bS_<|h;exact Yh a d m
    |false=>
     obtain⟨k,a,_⟩:=bS_<|h;exact NQ a d m
section
variable{X:Cx}{kd:KD}{pins:List (Addr×Obj)}{σ:St}{H:Hp}{s:Shared}{O:Addr->Prop}
def Ij(I:Inv X pins σ H s)(hk:KdOk X kd)(hv:yd vs us)(h:RpL X.K kd O H vs ds)(e:Vl (λy=>xq n y x) ds=some j):∃h:j<us.length,Na X.K kd O H n x us[j]=true/\∀m (hm:m<us.length),m<j->Na X.K kd O H n x us[m]=false:=
 RpL.ind (P:=λvs ds=>∀us j,yd vs us->Vl (λy=>xq n y x) ds=some j->∃h:j<us.length,Na X.K kd O H n x us[j]=true/\∀m hm,m<j->Na X.K kd O H n x us[m]=false) (λus j hv e=>by cases e) (λ{v d vs ds} a _ ih us j hv h=>by
  cases hv with
  |cons r t=>
   obtain⟨b,h1,h⟩:=bS_<|h;cases b with
   |true=>
    obtain⟨c,h2,h3⟩:=bS_<|h;cases h3;exact⟨by simp,La I hk r a h1,λm hm hlt=>by omega⟩
   |false=>
    obtain⟨k,h2,h3⟩:=bS_<|h;cases h3;obtain⟨hk',e1,e2⟩:=ih _ _ t h2;refine⟨by simpa using hk',by simpa using e1,λm hm hlt=>?_⟩;cases m with
    |zero=>exact La I hk r a h1
    |succ m=>simpa using e2 m (by simpa using hm) (by omega)) h us j hv e
def NW(hk:KdOk X kd)(hu:X.A.units+100<cLine):sY X kd "list.index" wF:=by
 intro k s σ H x Y v Z Q I C r h;obtain⟨O,d,ds,r0,ht,D,E,a,q⟩:=h;obtain⟨y',y,rfl,G,a⟩:=Q1 E a;obtain⟨es,J,b⟩:=bS_<|a;cases VF J
 . obtain⟨j,l,a⟩:=bS_ b;obtain⟨hz,a⟩:=zM a;cases a;obtain⟨u,rfl,L⟩:=vals1 r;cases D with
   |lst M c=>
    cases C;obtain⟨e,f,N,_⟩:=I.list M.sq;obtain⟨⟨cls,P,o,R⟩,p,t,n,z⟩:=N.isList;simp only at t z;subst t z;obtain⟨S,T,U⟩:=Ij I hk f c l;have B:=f.length;have g:=c.length;refine call_meets PySem.F.slot_list_index ⟨_,p,rfl⟩ PySem.F.entry_list_index (PySem.F.args_list_index_2 _ _)
     (SeqAt.list_indexAt _ e.toArray n P R _ _ j (by simpa using S) (by omega) (by simpa using T) λm V i=>by simpa using U m (by simpa using V) i)
     ⟨p,λw W=>Qc I hk (by show X.A.units+1+50<cLine;omega) G L f c (NQ l) w (by simpa using W),⟨.int j,H,I.tok _,⟨_,rfl⟩,yk q<|.int _⟩⟩
end
theorem Uj:∀{vs:List V}{us:List Value},vs.length=us.length->(∀(i:Nat) v u,vs[i]? = some v->us[i]? = some u->RelV v u)->yd vs us
 | [],[],_,_=>.nil
 | [],_::_,h,_=>by simp at h
 |_::_,[],h,_=>by simp at h
 |v::c,u::d,h,k=>.cons (k 0 v u rfl rfl) (Uj (by simpa using h) λi a b x y=>k (i+1) a b (by simpa using x)<|by simpa using y)
section
variable{X:Cx}{tg:Expr}
def tT(ta:TA):TE:=λσ H Q=>ta σ H λvs H1=>∃j:Int,vs=[.int j] /\ -(2 ^ 62)<=j/\j<2 ^ 62/\∀r,H1 r=none->Q (.ref r) (upd H1 r<|.rng 0 j)
def S3(hg:Gl X "range")(hm:X.mg "range"=none)(ha:PA X [a] ta)(hs:starEach [a] X.env=[(false,eval a X.env)]):PE X (.Call (.Name "range" p) [a] [] pos) (tT ta):=by
 intro c s σ H Q I h;refine Call_<|Z1 I hg hm boot_range<|PyProof.Rows.callWith_type1 (thn (ha pos c s σ H _ I h) λl f ⟨m,n,d,g,i⟩=>?_) hs rfl;obtain⟨j,e,u,v,q⟩:=i;subst e;cases g with
 |cons r k=>
  cases k;obtain⟨t,rfl⟩:=r;exact call_range_1 ⟨.ref f.heap.objs.size,_,d.laid (λb o e=>zxI _ e) (zzN _) (show xR X.prog X.w _ _ _ (.rng 0 j)from⟨_,_,_,zxK _ rfl⟩),rfl,q _<|d.hok.fresh<|zzN _⟩
def oT(ta:TA):TE:=λσ H Q=>OM (tT ta) JA σ H λvs H2=>∃r H1,∃j:Int,vs=[.ref r]/\H1 r=none/\H2=upd H1 r (.rng 0 j)/\0<=j/\j<=100000/\∀l,H2 l=none->Q (.ref l) (upd H2 l<|.lst<|(List.range j.toNat).map λ(i:Nat)=>V.int i)
def B2(hc:X.calm=true)(hg:Gl X "range")(hm:X.mg "range"=none)(hgl:Gl X "list")(hml:X.mg "list"=none)(ha:PA X [a] ta)(hs:starEach [a] X.env=[(false,eval a X.env)])
 (hs':starEach [.Call (.Name "range" p) [a] [] pos] X.env=[(false,eval (.Call (.Name "range" p) [a] [] pos) X.env)]):PE X (.Call (.Name "list" p') [.Call (.Name "range" p) [a] [] pos] [] pos') (oT ta):=by
 intro b s σ H Q I h;refine Call_<|Z1 I hgl hml Bt.list<|PyProof.Rows.callWith_type1 (thn ((Zj (S3 hg hm ha hs) XG hs') pos' b s σ H (λD g=>∃r o,∃j:Int,D=[.ref r]/\o r=none/\g=upd o r (.rng 0 j)/\0<=j/\j<=100000/\∀l,g l=none->Q (.ref l) (upd g l<|.lst<|(List.range j.toNat).map λ(i:Nat)=>V.int i)) I ?_) λP E ⟨D,g,m,F,G⟩=>?_) hs' rfl
 . exact h
 obtain⟨r,o,j,rfl,R,rfl,S,T,q⟩:=G;cases F with
 |cons J K=>
  cases K;cases J;obtain⟨t,u,v,L⟩:=m.hok r _<|yp ..;have z:Builtin.Range.rangeSize 0 j 1=(j.toNat:Nat):=by rw[rangeSize_one];split<;>omega
  refine call_list_range (m.ok.hd hc) L (small_one (by omega) (by omega) (by omega)<|by omega) (by exact_mod_cast z) (by omega) λU W A M N B c=>?_;refine⟨.ref E.heap.objs.size,_,m.laid N (zzN _) (show xR X.prog X.w _ _ _ (.lst _)from⟨?_,A.toList,M, ?_,by simpa using B⟩),rfl,q _<|m.hok.fresh<|zzN _⟩
  . rw[zzB,zyU];exact zzO (show j.toNat<=100000 by omega) (by decide)
  . refine Uj (by rw[zzB,zyU];simpa using c.1.symm) λi x y d O=>?_;rw[zzI]at d;obtain⟨C,e⟩:=c.2 i y (by simpa using O);cases hr:(List.range j.toNat)[i]? with
    |none=>rw[hr]at d;cases d
    |some k=>
     rw[hr]at d;obtain⟨_,f⟩:=zzG.mp hr;rw[List.getElem_range]at f;subst f;cases d;exact⟨C,by rw[e];simp⟩
end
section
variable{X:Cx}{kd:KD}
def CG:List D->Option R0
 | [.int j]=>if 0<=j/\j<=100000 then some (.fl<|(List.range j.toNat).map λ(i:Nat)=>.int i)else none
 |_=>none
theorem Fh{K O}:∀l:List Nat,RpL K kd O H (l.map λ(i:Nat)=>V.int i)<|l.map λ(i:Nat)=>D.int i
 | []=>.nil
 |y::r=>.cons (.int y)<|Fh r
def Kl(hc:X.calm=true)(hg:Gl X "range")(hm:X.mg "range"=none)(hgl:Gl X "list")(hml:X.mg "list"=none)(ha:AA X kd [a] fr)(hs:starEach [a] X.env=[(false,eval a X.env)])
 (hs':starEach [.Call (.Name "range" p) [a] [] pos] X.env=[(false,eval (.Call (.Name "range" p) [a] [] pos) X.env)]):AE X kd (.Call (.Name "list" p') [.Call (.Name "range" p) [a] [] pos] [] pos') (fP fr CG):=by
 with_unfolding_all exact(yM (B2 hc hg hm hgl hml ha hs hs') λσ H Q h=>by
  obtain⟨F,B,y,as,r,A,R,e,q⟩:=h;obtain⟨⟨C,d⟩,D,e⟩:=bS_<|e;obtain⟨⟨E,Z⟩,f,e⟩:=bS_ e;obtain⟨G,g,e⟩:=bS_ e;obtain⟨z,I,e⟩:=bS_ e;cases e
  match E,g,f with
  | [.int j],g,f=>
   obtain⟨⟨J,L⟩,M⟩:=zM<|g;cases M;refine(⟨F,B,y,as,C,d,R,D,λvs k u v m N=>?_⟩);have O:=Wk v m f;have P:=ZF v I λw S T U n V=>q w S k T U n<|N.trans V;cases O with
   |cons W Y=>
    cases Y;cases W;refine⟨j,rfl,by omega,by omega,λr x=>⟨r,u,j,rfl,x,rfl,J,L,λl c=>?_⟩⟩;have s:l≠r:=λe=>by rw[e,yp]at c;cases c
    have t:u l=none:=by rw[zJ s]at c;exact c
    exact P l _ _ t (λb o q=>wW c b o<|wW x b o q) yp<|Fh _)
end
def Lx(h:RoL L N H vs ls fp):vs.length=ls.length:=RoL.length h
section
variable{K:zzA}{kd:KD}{F B G:Addr->Prop}{H:Hp}
theorem Nu{st}(h:L st v d):∀(os:List O) {vs:List V}{fp:List Addr},RoL L N H vs os fp->RoL L N H (vs++[v]) (os++[.lf st d]) fp
 | [],_,_,r=>by cases r;exact .cons (.lf h) .nil
 |o::b,_,_,r=>by
  cases r with
  |cons a r=>
   exact .cons a<|Nu h b r
end
section
variable{K:zzA}{kd:KD}{F B G:Addr->Prop}{H:Hp}
def Zv(hp:G p):Grow G H G (upd H p u):=⟨λb w h n=>by rw[zJ λe=>n<|by subst e;exact hp];exact h,λb z=>.inl z⟩
theorem KQ:∀(os:List O) {vs:List V}{fp:List Addr}{n:Nat}{o:O},vG K kd F B G H vs os fp->fp.Nodup->(∀a ∈ fp,G a)->os[n]? = some o->
 ∃v f,vs[n]? = some v/\xY K kd F B G H v o f/\f.Nodup/\(∀a ∈ f,a ∈ fp)/\∀(p:Addr) (u:HO) (o':O),p ∈ f->xY K kd F B G (upd H p u) v o' f->vG K kd F B G (upd H p u) vs (os.set n o') fp
 | [],_,_,_,_,_,_,_,e=>by simp at e
 |E::k,_,_,n,o,r,l,c,e=>by
  cases r with
  |cons a r=>
   rename_i v I q J;obtain⟨s,t,i⟩:=zxF.mp l;cases n with
   |zero=>
    simp at e;subst e;exact⟨v,q,rfl,a,s,λx m=>zzP _ m,λp u j b d=>.cons d<|vG.grow (Zv<|c p<|zzP _ b) (λx m w h=>by rw[zJ λe=>i p b x m e.symm];exact h) r⟩
   |succ n=>
    obtain⟨y,f,z,A,C,g,D⟩:=KQ k r t (λx m=>c x<|zzL _ m) (by simpa using e);exact⟨y,f,by simpa using z,A,C,λx m=>zzL _<|g x m,λp u j b d=>.cons (xY.grow (Zv<|c p<|zzL _<|g p b) (λx m w h=>by rw[zJ λe=>i x m p (g p b) e];exact h) a)<|D p u j b d⟩
theorem Kx(h:L st' v d'):∀(os:List O) {vs:List V}{fp:List Addr}{n:Nat}{st:Bool}{d:D},RoL L N H vs os fp->os[n]? = some (.lf st d)->RoL L N H (vs.set n v) (os.set n<|.lf st' d') fp
 | [],_,_,_,_,_,_,e=>by simp at e
 |f::b,_,_,n,c,d,r,e=>by
  cases r with
  |cons a r=>
   cases n with
   |zero=>
    simp at e;subst e;cases a with
    |lf _=>exact .cons (.lf h) r
   |succ n=>exact .cons a (Kx h b r<|by simpa using e)
def Le{n:Nat}{st}(c)(r:xY K kd F B G H v (.nd .ls inner) fp)(hn:fp.Nodup)(hG:∀a ∈ fp,G a)(e:inner[n]? = some (.lf st d)):
 ∃p ivs,v = .ref p/\p ∈ fp/\H p=some (.lst ivs)/\n<ivs.length/\xY K kd F B G (upd H p<|.lst<|ivs.set n<|.int c) v (.nd .ls<|inner.set n<|.lf true<|.int c) fp:=by
 cases r with
 |ls hp ir=>
  rename_i p ivs ifp;have hpfp:=(zzW.mp hn).1;refine⟨p,ivs,rfl,zzF ..,hp,by rw[Lx ir];exact(zzG.mp e).1,.ls yp<|Kx (.int c) inner (vG.grow (Zv<|hG p<|zzF ..) (λx m w h=>by rw[zJ λe=>hpfp<|by subst e;exact m];exact h) ir) e⟩
def MX{os}{n:Nat}(r:xY K kd F B G H v (.nd .ls os) fp)(hn:fp.Nodup)(hG:∀a ∈ fp,G a)(e:os[n]? = some o):
 ∃l vs w f,v = .ref l/\H l=some (.lst vs)/\vs[n]? = some w/\xY K kd F B G H w o f/\f.Nodup/\(∀a ∈ f,a ∈ fp)/\∀(p:Addr) (u:HO) (o':O),p ∈ f->xY K kd F B G (upd H p u) w o' f->xY K kd F B G (upd H p u) v (.nd .ls<|os.set n o') fp:=by
 cases r with
 |ls c g=>
  rename_i l h i;obtain⟨w,f,j,k,q,d,s⟩:=KQ os g (zzW.mp hn).2 (λa m=>hG a<|zzD _ m) e;exact⟨l,h,w,f,rfl,c,j,k,q,λa m=>zzD _<|d a m,λp u t b x=>.ls (by rw[zJ λe=>(zzW.mp hn).1<|by rw[e];exact d p b];exact c)<|s p u t b x⟩
def JD{os}{n:Nat}(r:xY K kd F B G H v (.nd .tp os) fp)(hn:fp.Nodup)(hG:∀a ∈ fp,G a)(e:os[n]? = some o):
 ∃l vs w f,v = .ref l/\H l=some (.tup vs)/\vs[n]? = some w/\xY K kd F B G H w o f/\f.Nodup/\(∀a ∈ f,a ∈ fp)/\∀(p:Addr) (u:HO) (o':O),p ∈ f->xY K kd F B G (upd H p u) w o' f->xY K kd F B G (upd H p u) v (.nd .tp<|os.set n o') fp:=by
 cases r with
 |tp c d h=>
  rename_i l i;obtain⟨w,f,j,k,m,g,q⟩:=KQ os h hn hG e;exact⟨l,i,w,f,rfl,d,j,k,m,g,λp u s b t=>.tp c (by rw[zJ λe=>c<|.inr<|by rw[e];exact hG p<|g p b];exact d)<|q p u s b t⟩
end
section
variable{K:zzA}{kd:KD}{F B:Addr->Prop}{ad:Ad}{as:AS}{σ:St}{H:Hp}{i:Nat}{o:O}
def Rel.slotU(R:Rel K kd F B [] ad as σ H)(k:as[i]? = some (some o)):
 ∃v,σ[i]? = some (some v)/\xY K kd F B (Gw [] ad) H v o (ad i)/\(ad i).Nodup/\(∀a ∈ ad i,Gw [] ad a)/\
  ∀(p:Addr) (u:HO) (o':O),p ∈ ad i->xY K kd F B (Gw [] ad) (upd H p u) v o' (ad i)->Rel K kd F B [] ad (as.set i<|some o') σ (upd H p u)/\Grow (Gw [] ad) H (Gw [] ad) (upd H p u):=by
 obtain⟨v,d,n⟩:=R.sl i _ k;have r:=(zzG.mp k).1;refine⟨v,d,n,R.nd i,λa m=>.inr ⟨i,m⟩,λp u t f b=>?_⟩;have g:Grow _ H (Gw [] ad) (upd H p u):=Zv<|.inr ⟨i,f⟩;have c:∀a,H a≠none->upd H p u a≠none:=λa z=>by
  by_cases e:a=p
  . subst e;rw[yp];simp
  . rw[zJ e];exact z
 refine⟨⟨by rw[zzU];exact R.len,λj l=>R.out j (by rw[zzU]at l;exact l),R.nd,R.inj,R.tnd,R.dis,λa z=>c a<|R.ftr a z,λa z=>⟨c a (R.btr a z).1,(R.btr a z).2⟩,λa z=>⟨c a (R.gtr a z).1,(R.gtr a z).2⟩,λj s e=>?_⟩,g⟩
 by_cases q:j=i
 . subst q;rw[zyK r]at e;cases e;exact⟨v,d,b⟩
 . rw[zzY<|Ne.symm q]at e;exact(R.sl j s e).grow g λa m u h=>by rw[zJ λe=>q<|R.inj j i a m<|by rw[e];exact f];exact h
def Rel.any(R:Rel K kd F B [] ad as σ H)(hy:as[y]? = some none):Rel K kd F B [] ad as (σ.set y v) H:=by
 refine⟨by rw[zzU];exact R.len,R.out,R.nd,R.inj,R.tnd,R.dis,R.ftr,R.btr,R.gtr,λj s e=>?_⟩
 by_cases q:j=y
 . subst q;rw[hy]at e;cases e;exact R.sl j none hy
 . rw[zzY<|Ne.symm q];exact R.sl j s e
end
abbrev RS:=AS->Option Int
def oC(K:zzA)(kd:KD)(f:RS):TE:=λσ H Q=>∃F B ad as k,Rel K kd F B [] ad as σ H/\f as=some k/\Q (.int k) H
@[irreducible] def AK(X:Cx)(kd:KD)(e:Expr)(f:RS):Prop:=PE X e<|oC X.K kd f
def xC(c:Int):RS:=λ_=>some c
def vF:O->Option (List O)
 | .nd .ls os=>some os
 |_=>none
def Yk:O->Option (List O)
 | .nd .tp os=>some os
 |_=>none
def Rx:O->Option D
 | .lf _ d=>some d
 |_=>none
def YR{α:Type}(f:O->Option α)(os:List O)(k:Nat):Option α:=os[k]?.bind f
def Rn{α:Type}(f:O->Option α)(as:AS)(i:Nat):Option α:=as[i]?.bind λs=>s.bind f
def E1{os}(h:vF o=some os):o = .nd .ls os:=by
 cases o with
 |lf s d=>cases h
 |nd k a=>cases k<;>cases h;rfl
def Fu{os}(h:Yk o=some os):o = .nd .tp os:=by
 cases o with
 |lf s d=>cases h
 |nd k a=>cases k<;>cases h;rfl
def EY(h:Rx o=some d):∃st,o = .lf st d:=by
 cases o with
 |lf s d=>cases h;exact⟨s,rfl⟩
 |nd k a=>cases h
def M3{α:Type}{f os}{k:Nat}{a:α}(h:YR f os k=some a):∃o,os[k]? = some o/\f o=some a:=bS_ h
def M5(h:Rn f as k=some a):∃o,as[k]? = some (some o)/\f o=some a:=by
 obtain⟨s,b,h⟩:=bS_ h;obtain⟨o,rfl,h⟩:=bS_ h;exact⟨o,b,h⟩
def RD{os inner:List O}{k:Nat}(h:YR vF os k=some inner):os[k]? = some (.nd .ls inner):=by
 obtain⟨o,a,h⟩:=M3 h;cases E1 h;exact a
def Ew{os inner:List O}{k:Nat}(h:YR Yk os k=some inner):os[k]? = some (.nd .tp inner):=by
 obtain⟨o,a,h⟩:=M3 h;cases Fu h;exact a
def Di{os}{d:D}{k:Nat}(h:YR Rx os k=some d):∃st,os[k]? = some (.lf st d):=by
 obtain⟨o,a,h⟩:=M3 h;obtain⟨b,rfl⟩:=EY h;exact⟨b,a⟩
def Ci{inner}{k:Nat}(h:Rn vF as k=some inner):as[k]? = some (some<|.nd .ls inner):=by
 obtain⟨o,a,h⟩:=M5 h;cases E1 h;exact a
def uq(h:Rn Rx as k=some d):∃st,as[k]? = some (some<|.lf st d):=by
 obtain⟨o,a,h⟩:=M5 h;obtain⟨b,rfl⟩:=EY h;exact⟨b,a⟩
def Wn{α:Type}{f os}{k:Nat}{a:α}(h:os[k]? = some o)(e:f o=some a):YR f os k=some a:=by unfold YR;rw[h];exact e
def QB(h:as[k]? = some (some o))(e:f o=some a):Rn f as k=some a:=by unfold Rn;rw[h];exact e
def xV(i:Nat):RS:=λas=>(Rn Rx as i).bind Nh
def Nl(i:Nat)(f:RS):RS:=λas=>(f as).bind λk=>if 0<=k then(Rn Rx as i).bind λd=>(IH d).bind λds=>ds[k.toNat]?.bind Nh else none
def XM(f g:RS):RS:=λas=>(f as).bind λa=>(g as).bind λb=>if 0<b then some (a%b)else none
def SA(i:Nat):RS:=λas=>(Rn vF as i).bind λos=>some (os.length:Int)
section
variable{X:Cx}{kd:KD}{f g:RS}{a b:Expr}
def PD:AK X kd (.Constant (.int c) j pos) (xC c):=by
 with_unfolding_all exact(yM wX λσ H Q h=>by
  obtain⟨F,B,a,as,k,R,e,q⟩:=h;cases e;exact q)
def Q2(hv:PE X (.Name x p) (Yi i)):AK X kd (.Name x p) (xV i):=by
 with_unfolding_all exact(yM hv λσ H Q h=>by
  obtain⟨F,B,ad,as,k,R,e,q⟩:=h;obtain⟨d,e1,e⟩:=bS_<|e;cases Lu e;obtain⟨st,k1⟩:=uq e1;obtain⟨v,hv,ro⟩:=R.sl i _ k1;generalize ad i=fp at ro;cases ro with
  |lf rp=>cases rp;exact⟨_,hv,q⟩)
def Mq(hv:PE X (.Name x p) (Yi i))(hb:AK X kd b f)(hs:yZ b):AK X kd (.Subscript (.Name x p) b pos) (Nl i f):=by
 with_unfolding_all exact(yM (vW ZM hv hb hs) λσ H Q h=>by
  obtain⟨F,B,ad,as,c,R,e,q⟩:=h;obtain⟨k,h1,e⟩:=bS_<|e;obtain⟨hk,e⟩:=ite_some' e;obtain⟨d0,e1,e3⟩:=bS_ e;obtain⟨ds,e2,e4⟩:=bS_ e3;obtain⟨d,k2,e5⟩:=bS_ e4;cases VF e2;cases Lu e5;obtain⟨st,k1⟩:=uq e1;obtain⟨v,hv,ro⟩:=R.sl i _ k1;generalize ad i=fp at ro;cases ro with
  |lf rp=>
   obtain⟨l,vs,rfl,hq,rl⟩:=K9 rp λz=>z;obtain⟨w,hw,rw'⟩:=rl.get k2;cases rw';refine⟨_,hv,F,B,ad,as,k,R,h1,l,vs,k,_,rfl,rfl,hq ad H Grow.refl, ?_,q⟩;have:=xk hw;rw[zyZ hk]at this;exact this)
def Gf(ha:AK X kd a f)(hb:AK X kd b g):AK X kd (.BinOp a .Mod b pos) (XM f g):=by
 with_unfolding_all exact(yM (ID S6 ha hb) λσ H Q h=>by
  obtain⟨F,B,d,as,c,R,e,q⟩:=h;obtain⟨m,i,e⟩:=bS_<|e;obtain⟨n,j,e⟩:=bS_ e;obtain⟨k,e⟩:=zM e;cases e;exact⟨F,B,d,as,m,R,i,F,B,d,as,n,R,j,m,n,rfl,rfl,k,q⟩)
def HM(hg:Gl X "len")(hm:X.mg "len"=none)(hb:bootBuiltins "len"=some (.builtin "len"))(hv:PE X (.Name x p) (Yi i))(hst:starEach [.Name x p] X.env=(false,eval (.Name x p) X.env)::starEach [] X.env)(hpl:(backTo pos<|starEach [] X.env).any (·.1)=false):AK X kd (.Call (.Name "len" p0) [.Name x p] [] pos) (SA i):=by
 with_unfolding_all exact(yM (Pj Y3 hg hm hb (Zj hv XG hst) (by decide) (by decide) hst hpl) λσ H Q h=>by
  obtain⟨F,B,ad,as,c,R,e,q⟩:=h;obtain⟨os,e1,e⟩:=bS_<|e;cases e;obtain⟨v,hv,ro⟩:=R.sl i _<|Ci e1;generalize ad i=fp at ro;cases ro with
  |ls hH rl=>
   rename_i l vs fp;refine⟨_,hv,l,vs,rfl,.inl<|.inl<|.inl hH, ?_⟩;rw[Lx rl];exact q)
end
def HI(i:Nat)(f fv:RS):SF:=λas=>(f as).bind λk=>(fv as).bind λc=>if 0<=k then(Rn vF as i).bind λos=>(YR Rx os k.toNat).bind λ_=>some (.nx<|as.set i<|some<|.nd .ls<|os.set k.toNat<|.lf true<|.int c)else none
def ND(i:Nat)(f1 f2 fv:RS):SF:=λas=>(f1 as).bind λk1=>(f2 as).bind λk2=>(fv as).bind λc=>if 0<=k1/\0<=k2 then(Rn vF as i).bind λos=>(YR vF os k1.toNat).bind λinner=>(YR Rx inner k2.toNat).bind λ_=>some (.nx<|as.set i<|some<|.nd .ls<|os.set k1.toNat<|.nd .ls<|inner.set k2.toNat<|.lf true<|.int c)else none
def Ag(as:AS)(y:Nat):Bool:=match as[y]? with
 |some none=>true
 |_=>false
def Om(h:Ag as y=true):as[y]? = some none:=by
 unfold Ag at h;cases k:as[y]? with
 |none=>rw[k]at h;cases h
 |some s=>
  cases s with
  |none=>rfl
  |some _=>rw[k]at h;cases h
def SQ(y i:Nat)(f1:RS)(n:Nat)(f2 f3 fv:RS):SF:=λas=>(f1 as).bind λk1=>(f2 as).bind λk2=>(f3 as).bind λk3=>(fv as).bind λc=>if 0<=k1/\0<=k2/\0<=k3/\Ag as y=true then
 (Rn vF as i).bind λos=>(YR Yk os k1.toNat).bind λps=>(YR vF ps n).bind λrows=>(YR vF rows k2.toNat).bind λinner=>(YR Rx inner k3.toNat).bind λ_=>some (.nx<|as.set i<|some<|.nd .ls<|os.set k1.toNat<|.nd .tp<|ps.set n<|.nd .ls<|rows.set k2.toNat<|.nd .ls<|inner.set k3.toNat<|.lf true<|.int c)else none
def CJ(h:j<n):ixN n (j:Int)=some j:=by
 unfold ixN;rw[if_pos (by omega),if_pos<|by omega];simp
def KJ(h0:0<=k)(h:k.toNat<n):ixN n k=some k.toNat:=by
 have:=CJ h;rw[show(k.toNat:Int)=k by omega]at this;exact this
def V1(h0:0<=k)(h:xs[k.toNat]? = some v):atI xs k=some v:=by
 have:=xk h;rw[show(k.toNat:Int)=k by omega]at this;exact this
section
variable{X:Cx}{kd:KD}{f f1 f2 f3 fv:RS}{e1 e2 e3 ev:Expr}{i y:Nat}
def Cb(ho:PE X (.Name x p) (Yi i))(h1:AK X kd e1 f)(hv:AK X kd ev fv)
 (ha:∀v,assign (.Subscript (.Name x p) e1 tpos) X.env v=(do
  let ov <-holding [v] (eval (.Name x p) X.env);let iv <-holding [v,ov] (eval e1 X.env)
  standAt tpos
  holding [v,ov,iv] (setItem ov iv v)
  release [v,ov,iv] []))
 (hs:swapsWithSole [.Subscript (.Name x p) e1 tpos] ev pos.line X.env=pure false) (hw:swappedStores [.Subscript (.Name x p) e1 tpos] ev X.env=pure none)
 (hm:(assignEach [.Subscript (.Name x p) e1 tpos] X.env).map (·.2)=[assign (.Subscript (.Name x p) e1 tpos) X.env]):
 Pp X kd (.Assign [.Subscript (.Name x p) e1 tpos] ev pos) (HI i f fv):=by
 with_unfolding_all exact(wB (Ll hv (Eo ho h1 set_list ha) hs hw hm) λD σ H h=>by
  obtain⟨F,B,a,as,o,R,e,q⟩:=h;obtain⟨k,j,e⟩:=bS_<|e;obtain⟨c,l,e⟩:=bS_ e;obtain⟨m,e⟩:=ite_some' e;obtain⟨I,n,e⟩:=bS_ e;obtain⟨d,r,e⟩:=bS_ e;have s:=Ci n;obtain⟨J,t⟩:=Di r;cases e;obtain⟨v,sv,u,w,y,z⟩:=R.slotU s;obtain⟨p,b,rfl,A,C,E,g⟩:=Le c u w y t;obtain⟨R2,G⟩:=z p _ _ A g;exact⟨F,B,a,as,c,R,l,_,sv,F,B,a,as,k,R,j,p,b,k,k.toNat,rfl,rfl,C,KJ m E,q σ a _ R2 G⟩)
def CA(ho:PE X (.Name x p) (Yi i))(h1:AK X kd e1 f1)(hp1:yZ e1)(h2:AK X kd e2 f2)(hv:AK X kd ev fv)
 (ha:∀v,assign (.Subscript (.Subscript (.Name x p) e1 p1) e2 tpos) X.env v=(do
  let ov <-holding [v] (eval (.Subscript (.Name x p) e1 p1) X.env);let iv <-holding [v,ov] (eval e2 X.env)
  standAt tpos
  holding [v,ov,iv] (setItem ov iv v)
  release [v,ov,iv] []))
 (hs:swapsWithSole [.Subscript (.Subscript (.Name x p) e1 p1) e2 tpos] ev pos.line X.env=pure false) (hw:swappedStores [.Subscript (.Subscript (.Name x p) e1 p1) e2 tpos] ev X.env=pure none)
 (hm:(assignEach [.Subscript (.Subscript (.Name x p) e1 p1) e2 tpos] X.env).map (·.2)=[assign (.Subscript (.Subscript (.Name x p) e1 p1) e2 tpos) X.env]):
 Pp X kd (.Assign [.Subscript (.Subscript (.Name x p) e1 p1) e2 tpos] ev pos) (ND i f1 f2 fv):=by
 with_unfolding_all exact(wB (Ll hv (Eo (vW ZM ho h1 hp1) h2 set_list ha) hs hw hm) λD σ H h=>by
  obtain⟨F,B,b,as,o,R,e,q⟩:=h;obtain⟨z,G,e⟩:=bS_<|e;obtain⟨f,I,e⟩:=bS_ e;obtain⟨c,J,e⟩:=bS_ e;obtain⟨⟨g,j⟩,e⟩:=ite_some' e;obtain⟨os,K,e⟩:=bS_ e;obtain⟨k,L,e⟩:=bS_ e;obtain⟨d,M,e⟩:=bS_ e;have N:=Ci K;have O:=RD L;obtain⟨st,P⟩:=Di M;cases e;obtain⟨v,sv,Q,S,A,T⟩:=R.slotU N;obtain⟨l,U,w,fw,rfl,V,n,r,W,C,s⟩:=MX Q S A O;obtain⟨p,t,rfl,E,u,Y,y⟩:=Le c r W (λa m=>A a<|C a m) P;obtain⟨R2,Z⟩:=T p _ _ (C p E)<|s p _ _ E y;exact⟨F,B,b,as,c,R,J,_,sv,F,B,b,as,z,R,G,l,U,z,_,rfl,rfl,.inl<|.inl V,V1 g n,F,B,b,as,f,R,I,p,t,f,f.toNat,rfl,rfl,u,KJ j Y,q σ b _ R2 Z⟩)
def Cp{n:Nat}(hN:X.N.Nodup)(hyi:X.N[y]? = some z)(hyl:Loc X.env.scope z)(hyf:X.fn z=true\/X.env.scope.names.lookup z=some .local)
 (ho:PE X (.Name x p) (Yi i)) (h1:AK X kd e1 f1) (hp1:yZ e1) (hc:PE X ec (tC<|.int n)) (hpc:yZ ec) (hsw:swapsWith (.Subscript (.Subscript (.Name x p) e1 p1) ec p2) (some<|.Name z py) pos0.line X.env=pure false)
 (ho2:PE X (.Name z q0) (Yi y)) (h2:AK X kd e2 f2) (hp2:yZ e2) (h3:AK X kd e3 f3) (hv:AK X kd ev fv)
 (ha:∀v,assign (.Subscript (.Subscript (.Name z q0) e2 q1) e3 tpos) X.env v=(do
  let ov <-holding [v] (eval (.Subscript (.Name z q0) e2 q1) X.env);let iv <-holding [v,ov] (eval e3 X.env)
  standAt tpos
  holding [v,ov,iv] (setItem ov iv v)
  release [v,ov,iv] []))
 (hs:swapsWithSole [.Subscript (.Subscript (.Name z q0) e2 q1) e3 tpos] ev pos.line X.env=pure false) (hw:swappedStores [.Subscript (.Subscript (.Name z q0) e2 q1) e3 tpos] ev X.env=pure none)
 (hm:(assignEach [.Subscript (.Subscript (.Name z q0) e2 q1) e3 tpos] X.env).map (·.2)=[assign (.Subscript (.Subscript (.Name z q0) e2 q1) e3 tpos) X.env]):
 Mw X kd [.Assign [.Name z py] (.Subscript (.Subscript (.Name x p) e1 p1) ec p2) pos0,.Assign [.Subscript (.Subscript (.Name z q0) e2 q1) e3 tpos] ev pos] (SQ y i f1 n f2 f3 fv):=by
 with_unfolding_all exact(RH (XU (MJ hN hyi hyl (vW Z3 (vW ZM ho h1 hp1) hc hpc) hsw hyf)<|RR<|Ll hv (Eo (vW ZM ho2 h2 hp2) h3 set_list ha) hs hw hm) λD σ H h=>by
  obtain⟨F,B,g,as,o,R,e,q⟩:=h;obtain⟨n1,j1,e⟩:=bS_<|e;obtain⟨n2,j2,e⟩:=bS_ e;obtain⟨u,j3,e⟩:=bS_ e;obtain⟨c,j4,e⟩:=bS_ e;obtain⟨⟨A,C,E,f⟩,e⟩:=ite_some' e;have f:=Om f;obtain⟨os,e1,e⟩:=bS_ e;obtain⟨ps,e2,e⟩:=bS_ e;obtain⟨rows,e3,e⟩:=bS_ e;obtain⟨G,e4,e⟩:=bS_ e;obtain⟨d,e5,e⟩:=bS_ e;have I:=Ci e1;have k2:=Ew e2;have k3:=RD e3;have k4:=RD e4;obtain⟨st,k5⟩:=Di e5;cases e;obtain⟨v,sv,ro,hn,s,up⟩:=R.slotU I;obtain⟨l,vs,w,fw,rfl,hH,J,K,fn,t,L⟩:=MX ro hn s k2;obtain⟨l2,M,w2,fw2,rfl,O,j,P,Q,b,S⟩:=JD K fn (λa m=>s a<|t a m) k3;obtain⟨T,U,w3,fw3,rfl,V,k,W,Y,r,Z⟩:=MX P Q (λa m=>s a<|t a<|b a m) k4;obtain⟨p,ivs,rfl,hp,hHp,hl,ro'⟩:=Le c W Y (λa m=>s a<|t a<|b a<|r a m) k5;have m3:=r p hp;have m2:=b p m3;have m1:=t p m2;obtain⟨R2,g2⟩:=up p _ _ m1<|L p _ _ m2<|S p _ _ m3<|Z p _ _ hp ro';have yl:y<σ.length:=by rw[<-R.len];exact(zzG.mp f).1
  have R':=R.any (v:=some<|.ref T) f;have niy:i≠y:=λe=>by subst e;rw[f]at I;cases I
  have R2':=R2.any (v:=some<|.ref T) (by rw[zzY niy];exact f);refine⟨_,sv,F,B,g,as,n1,R,j1,l,vs,n1,_,rfl,rfl,.inl<|.inl hH,V1 A J,l2,M,n,_,rfl,rfl,.inl<|.inl O,xk j, ?_⟩;exact⟨F,B,g,as,c,R',j4,_,zyK yl,F,B,g,as,n2,R',j2,T,U,n2,_,rfl,rfl,.inl<|.inl V,V1 C k,F,B,g,as,u,R',j3,p,ivs,u,u.toNat,rfl,rfl,hHp,KJ E hl,q _ g _ R2' g2⟩)
end
section
variable{X:Cx}{kd:KD}
def JL:D5 X (λx lo hi H Q=>∃z,x = .str z/\z.length<=sizeLine/\Q (.str<|Txt.slice z lo hi) H):=by
 intro f s σ H x v p r w y A Q I n a o g h;obtain⟨z,rfl,b,q⟩:=h;obtain⟨t,rfl⟩:=n;refine⟨"str",_,F.slot_str_getitem.lookup,typeIs_str _ _ _, ?_⟩;cases o with
 |none=>
  cases g with
  |none=>exact wpAny_getItem_str_slice (l:=none) (u:=none) (st:=none) a rfl (post_val_or_str ⟨zzO (Txt.slice_le z _ _) b,λc k=>⟨.str _,H,I.kept λ_ _ e=>e,⟨_,rfl⟩,q⟩⟩)
  |int j d=>exact wpAny_getItem_str_slice (l:=none) (u:=some (j,d)) (st:=none) a rfl (post_val_or_str ⟨zzO (Txt.slice_le z _ _) b,λc k=>⟨.str _,H,I.kept λ_ _ e=>e,⟨_,rfl⟩,q⟩⟩)
 |int i m=>
  cases g with
  |none=>exact wpAny_getItem_str_slice (l:=some (i,m)) (u:=none) (st:=none) a rfl (post_val_or_str ⟨zzO (Txt.slice_le z _ _) b,λc k=>⟨.str _,H,I.kept λ_ _ e=>e,⟨_,rfl⟩,q⟩⟩)
  |int j d=>exact wpAny_getItem_str_slice (l:=some (i,m)) (u:=some (j,d)) (st:=none) a rfl (post_val_or_str ⟨zzO (Txt.slice_le z _ _) b,λc k=>⟨.str _,H,I.kept λ_ _ e=>e,⟨_,rfl⟩,q⟩⟩)
def HW:D->Option Int->Option Int->Option R0
 | .str z,lo,hi=>if z.length<=sizeLine then some (.im<|.str<|Txt.slice z lo hi)else none
 |_,_,_=>none
def ui:D5 X (λx lo hi H Q=>∃O d r,(∀a,O a->H a≠none)/\Vw X.K kd O H x d/\HW d lo hi=some r/\RQ X.K kd O H Q r):=by
 intro b s σ H x v f g i j k Q I l m n o h;obtain⟨O,d,r,t,p,e,q⟩:=h;unfold HW at e
 split at e
 . obtain⟨c,rfl⟩:=zM e;cases p;exact JL b s σ H _ v f g i j k Q I l m n o ⟨_,rfl,c,yk q<|.str _⟩
 . cases e
def B0{lo hi}(ha:AE X kd a fa)(hl:AO X kd lo fl)(hh:AO X kd hi fh):AE X kd (.Subscript a (.Slice lo hi none p2) pos) (v_ fa fl fh HW):=by with_unfolding_all exact(yM (Nz ui ha hl hh) λσ H Q h=>by
 obtain⟨F,B,O,as,r,s,R,e,q⟩:=h;obtain⟨⟨p,c⟩,t,e⟩:=bS_<|e;obtain⟨⟨l,b⟩,x,e⟩:=bS_ e;obtain⟨⟨u,y⟩,A,e⟩:=bS_ e;obtain⟨⟨d,P⟩,C,e⟩:=bS_ e;obtain⟨D,E,e⟩:=bS_ e;obtain⟨z,G,e⟩:=bS_ e;cases e;refine YO R t λv f S I g J=>⟨F,B,f,c,l,b,I,x,λi T R2 n=>⟨F,B,i,b,u,_,R2,A,λj U k o=>?_⟩⟩;exact⟨_,d,D,k.tr _,x_.vw k ((g.grow n).grow o) C,E,ZF k G λw K L M m N=>q w K j L M m<|((J.trans n).trans o).trans N⟩)
end
def EK:List D->Option R0
 | [.int i,.int j]=>if 0<j/\j<1073741824 then some (.im<|.tup [.int<|i/j,.int<|i%j])else none
 |_=>none
def oB{α:Type}{P:List α->Prop}(h:∀a,P [a]):∀us:List α,us.length=1->P us
 | [a],_=>h a
def o4{α:Type}{P:List α->Prop}(h:∀a b,P [a,b]):∀us:List α,us.length=2->P us
 | [a,b],_=>h a b
def oH{α:Type}{P:List α->Prop}(h:∀a b c,P [a,b,c]):∀us:List α,us.length=3->P us
 | [a,b,c],_=>h a b c
def o5{α:Type}{P:List α->Prop}(h:∀a b c d,P [a,b,c,d]):∀us:List α,us.length=4->P us
 | [a,b,c,d],_=>h a b c d
def oz{α:Type}{P:List α->Prop}(h:∀a b c d e,P [a,b,c,d,e]):∀us:List α,us.length=5->P us
 | [a,b,c,d,e],_=>h a b c d e
section
variable{X:Cx}{kd:KD}
def Bp:Xe X kd (.builtin "divmod") EK:=by
 intro a s σ H j c Q I r h;obtain⟨O,k,z,d,e,b,q⟩:=h;unfold EK at b
 split at b
 . obtain⟨f,rfl⟩:=zM b;obtain⟨x,y,rfl,g,i⟩:=CK e;cases g;cases i;exact Ny a s σ H _ c Q I r ⟨_,_,rfl,f,Pi d q<|.cons (.int _)<|.cons (.int _) .nil⟩
 . cases b
def aI:AE X kd (.Constant (.int c) j pos) (fC<|.int c):=LH wX λ_ _=>.int _
def aS:AE X kd (.Constant (.str c) j pos) (fC<|.str c):=LH DU λ_ _=>.str _
def aZ:AE X kd (.Constant .none j pos) (fC .non):=LH Js λ_ _=>.non
def aB:AE X kd (.Constant (.bool c) j pos) (fC<|.bl c):=LH Jf λ_ _=>.bl _
def ax{K}(hkd:Zi P w K kd)(ha:AE X kd a fa)(hb:AE X kd b fb)(h1:X.prog=P:=by rfl)(h2:X.w=w:=by rfl)(h3:X.K=K:=by rfl)(hm:yZ b:=by exact λ_ _=>rfl):AE X kd (.Subscript a b pos) (f2 fa fb zg):=IC (qY<|hkd _ h1 h2 h3) ha hb hm
def sv(z)(i:Nat)(hN:X.N.Nodup)(he:AE X kd e fa)(hi:X.N[i]? = some x:=by rfl)(hx:Loc X.env.scope x:=by first|exact Or.inl rfl|exact Or.inr rfl)(hs:swapsWith e (some<|.Name x pos') pos.line X.env=pure false:=by rfl)(hf:X.fn x=true\/X.env.scope.names.lookup x=some .local:=by first|exact Or.inl rfl|exact Or.inr rfl):
 Pp X kd (.Assign [.Name x pos'] e pos) (zy z i fa):=Hf hN hi hx he hs hf
def an(i:Nat)(hN:X.N.Nodup)(hi:X.N[i]? = some x:=by rfl)(hx:Loc X.env.scope x:=by first|exact Or.inl rfl|exact Or.inr rfl)(hf:X.fn x=true\/X.env.scope.names.lookup x=some .local:=by first|exact Or.inl rfl|exact Or.inr rfl):AG X kd (.Name x pos) [i] (gN i):=E9 hN hi hx hf
def av(i:Nat)(hN:X.N[i]? = some x:=by rfl)(hv:sS X.env.scope x:=by first|exact Or.inl rfl|exact Or.inr (Or.inl rfl)|exact Or.inr (Or.inr rfl))(hd:(x==("__debug__":Str))=false:=by decide)
 (hcd:(x==("__classdict__":Str))=false:=by decide):AE X kd (.Name x pos) (fV i):=Df<|S8 hN hv hd hcd
end
def Gk(h:n<=1000000):n<=sizeLine:=zzO h (by decide)
section
variable{as:AS}{f fo a b:EF}{fr:AF}{s t:Bool}{x y z d:D}{c m:Str}{ns cs:List Str}{ds:List D}{tbl:List (Str×Fn)}{g:Fn}{o:O}
inductive SqD:D->List D->Prop
 |l (ds:List D):SqD (.lst ds) ds
 |t (ds:List D):SqD (.tup ds) ds
theorem QW:∀(l:List α),(∀q ∈ l,∃as1,gg (it q) as0=some as1/\WE fe as1 (h q))->∃os,xv gg zK fe as0 (l.map it)=some os/\O.strs os=true/\O.toDs os=l.map h
 | [],_=>⟨[],rfl,rfl,rfl⟩
 |q::l,H=>by
  obtain⟨a,d,e,f⟩:=QW l λp m=>H p<|zzD _ m;obtain⟨b,g,o,i,c,j⟩:=H q zzF;refine⟨o::a, ?_,by show(o.str&&O.strs a)=true;rw[c,e];rfl,by show o.toD::O.toDs a=_;rw[j,f];rfl⟩;show xv gg zK fe as0 (it q::l.map it)=_;unfold xv;rw[g];show((fe b).bind _)=_;rw[i];show(if o.str=true then _ else _)=_;rw[if_pos c,d];rfl
theorem Kz:∀(l:List α),(∀q ∈ l,∃as1,gg (it q) as0=some as1/\WT tt as1 (p q)/\(p q=true->WE fe as1 (h q)))->∃os,xv gg tt fe as0 (l.map it)=some os/\O.strs os=true/\O.toDs os=(l.filter p).map h
 | [],_=>⟨[],rfl,rfl,rfl⟩
 |q::l,H=>by
  obtain⟨c,d,e,f⟩:=Kz l λp m=>H p<|zzD _ m;obtain⟨a,g,b,j⟩:=H q zzF;cases hp:p q with
  |false=>
   rw[hp]at b;refine⟨c,KH g b d,e, ?_⟩;rw[List.filter_cons_of_neg<|by simp[hp]];exact f
  |true=>
   rw[hp]at b;obtain⟨o,k,i,n⟩:=j hp;refine⟨o::c, ?_,by show(o.str&&O.strs c)=true;rw[i,e];rfl, ?_⟩
   . unfold WT at b;show xv gg tt fe as0 (it q::l.map it)=_;unfold xv;rw[g];show(tt a).bind _=_;rw[b];show((fe a).bind _)=_;rw[k];show(if o.str=true then _ else _)=_;rw[if_pos i,d];rfl
   . rw[List.filter_cons_of_pos hp];show o.toD::O.toDs c=_;rw[n,f];rfl
def NF{os}(h1:fi as=some (xs,as))(hl:xs.length<=1000000)(h2:xv gg tt fe (wM cap as) xs=some os)(hs:O.strs os=true)(e:O.toDs os=zs):WE (zt fi cap gg tt fe) as (.lst zs):=by
 refine⟨.nd .ls os, ?_,hs,congrArg D.lst e⟩;unfold zt;rw[h1];show(if xs.length<=sizeLine then _ else _)=_;rw[if_pos<|Gk hl,h2];rfl
def xB(l:List α)(h1:fi as=some (l.map it,as))(hl:l.length<=1000000)(H:∀q ∈ l,∃as1,gg (it q) (wM cap as)=some as1/\WE fe as1 (h q)):WE (zt fi cap gg zK fe) as (.lst<|l.map h):=by
 obtain⟨d,a,b,c⟩:=QW l H;exact NF h1 (by rw[zzB];exact hl) a b c
def A_(l:List α)(h1:fi as=some (l.map it,as))(hl:l.length<=1000000)(H:∀q ∈ l,∃as1,gg (it q) (wM cap as)=some as1/\WT tt as1 (p q)/\(p q=true->WE fe as1 (h q))):WE (zt fi cap gg tt fe) as (.lst<|(l.filter p).map h):=by
 obtain⟨d,a,b,c⟩:=Kz l H;exact NF h1 (by rw[zzB];exact hl) a b c
def R_{g}(ha:WE a as x)(hg:g [x]=some (.im z)):WE (fP (aC a aN) g) as z:=WD.e<|M_ ha hg
def Hh{os}(h:WO fd as os)(hl:os.length<=1000000)(hs:O.strs os=true)(e:O.toDs os=zs):WE (zX fd) as (.tup zs):=by
 refine⟨Zb os,Te h<|Gk hl, ?_, ?_⟩
 . unfold Zb;split
   . exact hs
   . exact hs
 . subst e;unfold Zb;split
   . rfl
   . rfl
def Dh{os}(h:WE a as x)(hr:WO fd as os):∃o,o.str=true/\o.toD=x/\WO (dC a fd) as (o::os):=by
 obtain⟨o,b,c,d⟩:=h;exact⟨o,c,d,v7 b hr⟩
def CD(ha:WE a as x):WE (zX<|dC a dN) as (.tup [x]):=by
 obtain⟨o,b,rfl,c⟩:=Dh ha zG;exact Hh c (by show 1<=_;omega) (by show(o.str&&true)=true;rw[b];rfl) rfl
def ZP(ha:WE a as x)(hb:WE b as y):WE (zX<|dC a<|dC b dN) as (.tup [x,y]):=by
 obtain⟨p,c,rfl,d⟩:=Dh hb zG;obtain⟨o,e,rfl,f⟩:=Dh ha d;exact Hh f (by show 2<=_;omega) (by show(o.str&&(p.str&&true))=true;rw[e,c];rfl) rfl
def IP{g}(ha:WE a as x)(hb:WE b as y)(hg:g x y=some (.im z)):WE (f2 a b g) as z:=WD.e<|Ey ha hb hg
end
open AutoSeq1 (wpAny_loadPart')
def rH(x y:D):Option R0:=match x with
 | .dt ks ds=>(QY y).bind λk=>B5 (PM ks ds k)
 |_=>none
section
variable{X:Cx}{kd:KD}{e a b c o i:Expr}{pos pos':Pos}{fa fb fk fv:EF}
def uh(hu:X.A.units+1<cLine):qj X kd rH:=by
 intro value slice pins s σ H x y v u Q I rx ry h hs;obtain⟨O,d,e,r,ht,vx,vy,he,q⟩:=h;cases vx with
 |dt hH l rl=>
  obtain⟨k,h1,he⟩:=bS_<|show(QY e).bind _=_ from he;obtain⟨d,h2,rfl⟩:=Qm he;cases rx;obtain⟨b,rfl,hb⟩:=RM vy h1
  rcases TC k rl l with⟨v1,d1,e1,e2,rp⟩|⟨e1,e2⟩
  . rw[h2]at e2;cases e2;obtain⟨_,_,_,_,dd⟩:=Mi I.hok<|.inl hH;have g:=NO.t hH hb;rw[e1]at g;exact tail_any dd.typeIs PySem.F.slot_dict_getitem.lookup (Bd hu I g ry λw' s' I' rw'=>⟨v1,H,I',rw',yk q rp⟩) hs
  . rw[h2]at e2;cases e2
 |_=>cases he
end
def N8{K}{kd}{F}{H}{a}{vs}{st}{ds}(ft:∀a,F a->H a≠none)(hs:∀H3:Hp,(∀b u,H b=some u->H3 b=some u)->Xr K H3 a vs)(r:RpL K kd (λa=>st=true/\F a) H vs ds):ItC K kd F H (pb K a) (WC st 0 ds):=⟨λH3 T k hT i=>by
 have hr3:=hs H3 k;have hlen:=Ky st 0 ds;refine⟨λhi=>?_,λhi=>⟨_,hr3,by rw[r.length];omega⟩,λv H4 hy=>?_⟩
 . obtain⟨u,hu,_⟩:=r.get (zzE<|by rw[<-hlen];exact hi);exact⟨_,u,hr3,hu⟩
 . obtain⟨A,x,hn,rfl,rfl,hv⟩:=hy;have hnH:H A=none:=by
    cases e:H A with
    |none=>rfl
    |some u=>rw[k A u e]at hn;cases hn
   refine⟨wW hn,λy hy=>?_⟩;obtain⟨d,hd,rfl⟩:=G4 hy;obtain⟨u,hu,ru⟩:=r.get hd;have:=hv _ hr3;rw[hu]at this;cases this;rw[zyY];exact .tup (λz=>z.2.elim (λy=>ft A y hnH) λy=>(hT A y).2 hn) yp<|.cons (.int _)<|.cons ((ru.since (λb o q=>wW hn b o<|k b o q) λa z=>(hT a z).1).less λa z=>z.2.elim (λy=>.inl ⟨z.1,y⟩) .inr) .nil⟩
section
variable{X:Cx}{kd:KD}{e:Expr}{fa:EF}{pos pos':Pos}
def O4{p}{elts}{k:Nat}(hg:Gl X "enumerate")(hm:X.mg "enumerate"=none)(he:AE X kd e fa)(hs:starEach [e] X.env=[(false,eval e X.env)]):
 Ja X kd (.Tuple elts k pos') (.Call (.Name "enumerate" p) [e] [] pos) (Cw fa):=by
 with_unfolding_all (
 intro pins s σ H R I h;obtain⟨F,B,ad,as,ds,as',Rl,e',q⟩:=h;obtain⟨⟨p,as1⟩,h1,e'⟩:=bS_<|e';obtain⟨⟨⟨st,x⟩,as2⟩,h2,e'⟩:=bS_ e'
 match x,e',h2 with
 | .lst xs,e',h2=>
  cases e';refine C3 hg hm (Zj he XG hs) hs pins s σ H R I<|⟨F,B,ad,as,p,as1,Rl,h1,λv T1 ad1 H1 R1 rv1 g1=>?_⟩;obtain⟨ad2,R2,rp,le⟩:=Wi R1 rv1 h2;cases rp with
  |lst hn hr rl=>exact⟨_,rfl,⟨_,.inl hr⟩,q _ ad2 H1 R2 (g1.trans<|Grow.less le)<|N8 (R2.trk true) (λH3 k=>.inl<|hr.elim (λh=>.inl<|k _ _ h) λ⟨o,h⟩=>.inr ⟨o,k _ _ h⟩)<|rl.less λa z=>by have z1:=z.1;rw[z1];exact z.2⟩
  |lstK a b c rl=>exact⟨_,rfl,⟨_,.inr ⟨_,_,_,a,rfl,rfl,rfl,b,c⟩⟩,q _ ad2 H1 R2 (g1.trans<|Grow.less le)<|N8 (R2.trk true) (λH3 k=>.inr ⟨_,_,_,a,rfl,rfl,rfl,b,c⟩)<|rl.less λa z=>by have z1:=z.1;rw[z1];exact z.2⟩)
end
section
variable{X:Cx}{kd:KD}{P:Program}{w:World}{K:zzA}{a b e o:Expr}{es:List Expr}{fa fb fo:EF}{fr:AF}{fd_:DF}{pos p apos:Pos}{k n:Nat}
def ZX(h1:sc.kind = .function:=by rfl)(h2:sc.isCoroutine=false:=by rfl)(h3:sc.isGenerator=false:=by rfl)(h4:N.Nodup:=by decide +kernel)(h5:N.take Ps.length=Ps:=by rfl)(h6:∀x ∈ Ps,sc.names.lookup x=some .local\/sc.names.lookup x=some .cell:=by decide +kernel)(h7:∀y ∈ sc.names,y.2 ≠ .free:=by decide +kernel):FnScope N Ps sc:=⟨h1,h2,h3,h4,h5,h6,h7⟩
def bs{x qual}{st}{f}{fd}{ps}(F:Fun K x qual st f fd)
 (h:∀(kV doc pm:Value) (an:Option Addr) (cdv ct:Value) (us:List Value),us.length=ps.length->bindArgs (W.fnOf x qual (RY st) (Y1 st) (zu st) .none kV doc pm an cdv ct) ⟨us,[]⟩=pure (ps.zip us):=by first|exact λ_ _ _ _ _ _=>oB λ_=>rfl|exact λ_ _ _ _ _ _=>o4 λ_ _=>rfl|exact λ_ _ _ _ _ _=>oH λ_ _ _=>rfl|exact λ_ _ _ _ _ _=>o5 λ_ _ _ _=>rfl|exact λ_ _ _ _ _ _=>oz λ_ _ _ _ _=>rfl|exact λ_ _ _ _ _ _=>l6_ λ_ _ _ _ _ _=>rfl):Binds K fd ps []:=F.binds h
def bc(ha:AE X kd a fa)(hr:AA X kd es fr)(hs:isStar a=false:=by rfl):AA X kd (a::es) (aC fa fr):=Io ha hr<|Ke hs
def bd(ha:AE X kd a fa)(hr:AD X kd es fd_)(hs:isStar a=false:=by rfl):AD X kd (a::es) (dC fa fd_):=CQ ha hr<|Ke hs
def bn{op}(ha:AE X kd a fa)(hb:AE X kd b fb):AE X kd (.BinOp a op b pos) (f2 fa fb<|Wt op):=Dy (Aa op) ha hb
def tc{op}(hkd:Zi P w K kd)(hr:Room k X.A)(ha:AE X kd a fa)(hb:AE X kd b fb)(h1:X.prog=P:=by rfl)(h2:X.w=w:=by rfl)(h3:X.K=K:=by rfl)(hm:behindInMarks op b=false:=by exact OO _):AT X kd (.Compare a [op] [b] pos) (fT<|f2 fa fb<|zB op):=SD (Mz (hkd _ h1 h2 h3) (KA hr) op) (FC op) ha hb hm
def ec{op}(hkd:Zi P w K kd)(hr:Room k X.A)(ha:AE X kd a fa)(hb:AE X kd b fb)(h1:X.prog=P:=by rfl)(h2:X.w=w:=by rfl)(h3:X.K=K:=by rfl)(hm:behindInMarks op b=false:=by exact OO _):AE X kd (.Compare a [op] [b] pos) (f2 fa fb<|zB op):=DI (Mz (hkd _ h1 h2 h3) (KA hr) op) ha hb hm
def bi{id}{gg}{x}(hc:Xe X kd (.builtin id) gg)(hm:X.mg x=none)(hv:bootBuiltins x=some (.builtin id))(ha:AA X kd (e::es) fr)(hg:Gl X x:=by rfl)(hn:x≠"__name__":=by exact Bt.n _ rfl)(hdb:(x==("__debug__":Str))=false:=by decide)
 (he:starEach (e::es) X.env=(false,eval e X.env)::starEach es X.env:=by rfl) (hpl:(backTo pos<|starEach es X.env).any (·.1)=false:=by rfl):AE X kd (.Call (.Name x p) (e::es) [] pos) (fP fr gg):=AM hc hg hm hv ha hn hdb he hpl
def tm(hc:Xe X kd (.type T) gg)(hm:X.mg x=none)(hv:bootBuiltins x=some (.type T))(ha:AA X kd (e::es) fr)(hg:Gl X x:=by rfl)(hn:x≠"__name__":=by exact Bt.n _ rfl)(hdb:(x==("__debug__":Str))=false:=by decide)
 (he:starEach (e::es) X.env=(false,eval e X.env)::starEach es X.env:=by rfl) (hpl:(backTo pos<|starEach es X.env).any (·.1)=false:=by rfl):AE X kd (.Call (.Name x p) (e::es) [] pos) (fP fr gg):=Do hc hg hm hv ha hn hdb he hpl
def sj(i:Nat){z}{x}{pos'}{rest}{g}(hN:X.N.Nodup)(he:AE X kd e fa)(h2:Mw X kd rest g)(hi:X.N[i]? = some x:=by rfl)(hx:Loc X.env.scope x:=by first|exact Or.inl rfl|exact Or.inr rfl)(hs:swapsWith e (some<|.Name x pos') pos.line X.env=pure false:=by rfl)(hf:X.fn x=true\/X.env.scope.names.lookup x=some .local:=by first|exact Or.inl rfl|exact Or.inr rfl):
 Mw X kd (.Assign [.Name x pos'] e pos::rest) (zp (zy z i fa) g):=yI (Hf hN hi hx he hs hf) h2
end
end PF
end
section
namespace PySem
section
variable{prog:Program}{w:World}{K:Type}[DecidableEq K]{knd:HeapKind prog w K}{A:Around}{E:Value->Shared->Prop}{s:Shared}
def B8(hu:knd.room A)(hkey:knd.is s.heap k a)(hm:s.heap.DictOfH knd d xs)
 (h1:∀u,(atKey xs k).map (·.2)=some u->Q u {s with toks:=s.toks+knd.draws k})
 (hQ:atKey xs k=none->∀h',h'.DictOfH knd d (storedH xs k a v)->Heap.SameBut d s.heap h'->Q v {s with heap:=h',toks:=s.toks+knd.draws k})
 (hsz:xs.length<=sizeLine):wpAny (model prog w) A (dictSetDefault d (.ref a) v) Q E s:=by
 obtain⟨o,es,ep,ho,hc,hd,he,his,hn⟩:=hm;unfold dictSetDefault
 try with_reducible refine zxM ?_
 refine zxG<|knd.pyHash hu hkey<|zxG<|wpAny_dictFind_heap (s:={s with toks:=s.toks+knd.draws k}) hu hkey ho hd he his hn ?_ ?_
 . intro hno;have hnot:k ∉ xs.map (·.1):=not_mem_keys_of_get hno;refine zxG<|wpAny_rule<|zxG<|wpAny_updateDictKeys (hz:=by have e:=size_of_entries he;omega) (s:={s with toks:=s.toks+knd.draws k}) ho hd<|zxH<|hQ (atKey_none_of_get hno) _ ⟨_,_,ep+1,Heap.get?_update_self _ ho<|Obj.isFreed_of_dict<|Obj.data_mapDictKeys hd _,
    hc.mapDictKeys _,Obj.data_mapDictKeys hd _, ?_, ?_, ?_⟩<|Heap.SameBut.update ..
   . rw[storedH_new<|atKey_none_of_get hno];simp[he,entryOfKey]
   . rw[storedH_new<|atKey_none_of_get hno];intro x hx
     rcases zzM.mp hx with hx|hx
     . exact knd.keeps (his x hx) ho hd<|Heap.SameBut.update ..
     . simp only[zzR]at hx;subst hx;exact knd.keeps hkey ho hd<|Heap.SameBut.update ..
   . rw[storedH_new<|atKey_none_of_get hno,zyM,zxF];refine⟨hn,by simp, ?_⟩;intro x hx y hy;simp only[zyS,List.map_nil,zzR]at hy;subst hy;exact λe=>hnot<|e ▸ hx
 . intro j p hj;refine zxG<|wpAny_dictEntries (s:={s with toks:=s.toks+knd.draws k}) ho hd ?_;rw[entry_at he j,hj];exact zxG (wpAny_rule<|zxH<|h1 _<|by rw[atKey_of_get hn hj];rfl)
def Ex(knd:HeapKind prog w K)(d a:Addr)(hd:(d==sysModules)=false)(dflt:Value):
 MeetsIn prog w (Builtin.«dict.setdefault» ⟨[.ref d,.ref a,dflt],[]⟩) (λA R s=>knd.room A.in1/\∃k xs,knd.is s.heap k a/\s.heap.DictOfH knd d xs/\xs.length<=sizeLine/\
  (∀u,(atKey xs k).map (·.2)=some u->R (.ok<|.ret u) {s with toks:=s.toks+knd.draws k})/\
  (atKey xs k=none->∀h',h'.DictOfH knd d (storedH xs k a dflt)->Heap.SameBut d s.heap h'->R (.ok<|.ret dflt) {s with heap:=h',toks:=s.toks+knd.draws k})):=
 .of_wp λA R s ⟨hu,k,xs,hkey,hm,hz,h1,h2⟩=>by
  unfold Builtin.«dict.setdefault»;refine zxG ?_;unfold Builtin.Dict.keyAndDefault;refine zxG<|wpAny_notOrdered_dict hm.typeIs ?_;show wpAny _ _ (pure (d,Value.ref a,some dflt)) _ _ s;refine zxH ?_;show wpAny _ _ (if(d==sysModules)=true then _ else(dictSetDefault d (.ref a) dflt >>= _)) _ _ s;rw[if_neg<|by rw[hd];exact zyW];exact zxG<|B8 hu hkey hm (λv hv=>zxH ⟨v,rfl,h1 v hv⟩) (λhn h' hm' hs'=>zxH ⟨dflt,rfl,h2 hn h' hm' hs'⟩) hz
end
end PySem
namespace PF
open PySem PySem.Spec PyProof.Rows L2
def rN(x:V)(xs:List V)(H:Hp)(Q:VK):Prop:=∃a kvs k b y,x = .ref a/\xs=[.ref b,y]/\H a=some (.dT kvs)/\KC H b k/\kvs.length<sizeLine/\
 (∀v,wZ kvs k=some v->Q v H)/\(wZ kvs k=none->Q y (upd H a<|.dT<|putK kvs k y))
section
variable{X:Cx}{kd:KD}
def JC(hu:X.A.units+1<cLine):D8 X "dict.setdefault" rN:=by
 intro pins s σ H x xs v us Q I rx rv h;obtain⟨a,kvs,k,b,y,rfl,rfl,hH,hb,hz,q1,q2⟩:=h;cases rx;obtain⟨u1,u2,rfl,r1,r2⟩:=rv.two;cases r1;obtain⟨z,hd,ys,rel,dd⟩:=Jl I.hok hH;have hyl:ys.length<=sizeLine:=by rw[<-rel.length];exact z
 refine call_meetsIn PySem.F.slot_dict_setdefault dd.typeIs PySem.F.entry_dict_setdefault (PySem.F.args_dict_setdefault_3 _ _ _) (Ex (tupleKind<|xi X.prog X.w) a b hd u2) ⟨tupleKind_room_in1 hu,k,ys,Pl I.hok hb,dd,hyl,λu hu'=>?_,λhn h' dd' hs=>?_⟩
 . have:=rel.val k;rw[hu']at this;cases hv:wZ kvs k with
   |none=>rw[hv]at this;exact absurd this (by intro z;cases z)
   |some w=>
    rw[hv]at this;exact⟨w,H,I.tok _,this,q1 w hv⟩
 . have hv:wZ kvs k=none:=by
    have:=rel.val k;rw[hn]at this;cases hv:wZ kvs k with
    |none=>rfl
    |some w=>rw[hv]at this;exact absurd this (by intro z;cases z)
   refine⟨y,_, ?_,r2,q2 hv⟩;obtain⟨q,es,ep,hq,h2,h3,h4,_,h5⟩:=dd';refine Cu I (by rw[hH];exact True.intro) hs ⟨q,hq⟩ ⟨?_,hd,_,(rel.put k hb r2).keeps λc ys' ec=>?_,q,es,ep,hq,h2,h3,h4,h5⟩
   . have:(putK kvs k y).length<=kvs.length+1:=by
      unfold putK
      split
      . rw[zzB];omega
      . rw[zzJ];exact zzN _
     omega
   . rw[zJ<|sA ec hH (λz=>nomatch z)];exact ec
def pC:List O->Option (O×Bool×D)
 | [ok,.lf st d]=>some (ok,st,d)
 |_=>none
def BB(i:Nat)(fr:DF):SF:=λas=>match as[i]? with
 |some (some (.nd (.dt _) _))=>(fr as).bind λp=>(pC p.1).bind λz=>match p.2[i]? with
  |some (some (.nd (.dt ks) os))=>(QY z.1.toD).bind λk=>if ks.length<sizeLine then some (.nx (if TQ ks k=true then p.2 else p.2.set i<|some<|.nd (.dt<|ks++[k])<|os++[.lf z.2.1 z.2.2]))else none
  |_=>none
 |_=>none
def Dj{os:List O}{z:O×Bool×D}(h:pC os=some z):os=[z.1,.lf z.2.1 z.2.2]:=by
 match os,h with
 | [ok,.lf st d],h=>cases h;rfl
def Av{i:Nat}{x:Str}{p apos cpos pos':Pos}{e:Expr}{es:List Expr}{fr:DF}(hu:X.A.units+1<cLine)(ho:PE X (.Name x p) (Yi i))(ha:AD X kd (e::es) fr)
 (hbase:attributeBase (.Name x p) "setdefault" X.env (eval (.Name x p) X.env)=eval (.Name x p) X.env)
 (hfew:((backTo cpos<|starEach (e::es) X.env).all (λx=>!x.1)&&(backToKw cpos<|keywordEach [] X.env).all (λx=>x.1.isSome)
  && decide ((e::es).length+([]:List Keyword).length+(if([]:List Keyword).isEmpty then 0 else 1)<30))=true)
 (hline:(apos.endLine==cpos.line)=true) (hs:starEach (e::es) X.env=(false,eval e X.env)::starEach es X.env) (hplain:(backTo cpos<|starEach es X.env).any (·.1)=false)
 (hsw:swapsWith (.Call (.Attribute (.Name x p) "setdefault" apos) (e::es) [] cpos) none pos'.line X.env=pure false):
 Pp X kd (.Expr (.Call (.Attribute (.Name x p) "setdefault" apos) (e::es) [] cpos) pos') (BB i fr):=by
 with_unfolding_all exact(wB (YX (E4 PySem.F.plainAttrs_dict PySem.F.slot_dict_setdefault PySem.F.type_dict_setdefault (JC hu) ho ha hbase hfew hline hs hplain) hsw) λD σ H h=>by
  obtain⟨F,B,ad,as,o,R,e,q⟩:=h;cases k1:as[i]? with
  |none=>unfold BB at e;rw[k1]at e;cases e
  |some a0=>
   unfold BB at e;rw[k1]at e
   match a0,e,k1 with
   |some (.nd (.dt ks0) os0),e,k1=>
    obtain⟨⟨os1,as1⟩,h1,e⟩:=bS_<|show(fr as).bind _=_ from e;obtain⟨v0,hs0,ro0⟩:=R.sl i _ k1;generalize hfp0:ad i=fp0 at ro0;cases ro0 with
    |dt hH0 hl0 rl0=>
     rename_i l vs0 fp00;refine⟨_,hs0,.inr<|.inr<|.inl ⟨rfl,.inr ⟨_,hH0⟩⟩,F,B,ad,as,os1,as1,R,h1,λws T1 ad1 H1 R1 ro1 g1=>?_⟩;obtain⟨⟨ok,st,d⟩,h2,e⟩:=bS_ e;cases Dj h2;cases k2:as1[i]? with
     |none=>rw[k2]at e;cases e
     |some a2=>
      rw[k2]at e
      match a2,e,k2 with
      |some (.nd (.dt ks) os),e,k2=>
           obtain⟨k,hk,e⟩:=bS_<|show(QY ok.toD).bind _=_ from e;obtain⟨hz,e⟩:=zM e;cases e;have R2:=R1.drop;obtain⟨v1,hs1,ro2⟩:=R2.sl i _ k2;rw[hs0]at hs1;cases hs1;cases ro1 with
           |cons ra rb=>
            rename_i va wb fa fb;cases rb with
            |cons rc rd=>
             rename_i vc we fc fe;cases rd;cases rc with
             |lf rp=>
              have rk:Rp X.K kd (λ_=>False) H1 va ok.toD:=Ro.rp false (λst v d _ r=>Rp.less (λa z=>z.elim) r) (λ_ _ z=>z) (λz=>nomatch z) (λ_ _ z=>z) ra;obtain⟨bk,rfl,hbk⟩:=RM rk.vw hk;generalize hfp:ad1 i=fp1 at ro2;cases ro2 with
              |dt hH hl rl=>
               rename_i vs fp;have hv:TQ ks k=(wZ (ks.zip vs) k).isSome:=by rw[<-Pq,L5 k ks vs hl]
               have gd:=g1.trans<|Grow.less (H:=H1)<|Gw.drop (T:=fa++([]++[])) (ad:=ad1);refine⟨_,ks.zip vs,k,bk,vc,rfl,rfl,hH,hbk,by rw[List.length_zip,hl,Nat.min_self,<-hl];exact hz,λv ev=>?_,λev=>?_⟩
               . rw[ev]at hv;rw[show TQ ks k=true from hv,if_pos rfl]at q;exact q σ ad1 H1 R2 gd
               . rw[ev]at hv;have hv:TQ ks k=false:=hv;rw[hv,if_neg zyW]at q;have rp2:xY X.K kd F B (Gw [] ad1) H1 vc (.lf st d) []:=.lf<|Rp.less (λa z=>z.imp id λy=>Gw.drop a y) rp;have rl':vG X.K kd F B (Gw [] ad1) H1 (vs++[vc]) (os++[.lf st d]) fp:=by have:=rl.append<|RoL.one rp2;rw[zyE]at this;exact this
                 have hnd:=R2.nd i;rw[hfp]at hnd;rw[S4 hl,show FN ks k=ks++[k] by unfold FN;rw[hv];rfl,show FV ks vs k vc=vs++[vc] by unfold FV;rw[hv];rfl];obtain⟨R4,g4⟩:=R2.mut (fo:=[]) (n:=.nd (.dt<|ks++[k])<|os++[.lf st d]) (u:=.dT<|(ks++[k]).zip<|vs++[vc]) (zzG.mp k2).1 hfp hs0 (fp':=fp) (λa m=>m) (by rw[zyE];exact(zzW.mp hnd).2) (by rw[hH];simp) λH' G' hl' gr kp=>.dt hl' (by rw[zzJ,zzJ,hl];rfl)<|vG.grow gr kp rl';exact q σ _ _ R4<|gd.trans g4)
end
def U2(ss:List Int):Nat:=(ss.foldl step_dedup []).length
def SX(ss:List Int):(List.range ss.length).map (λi=>ss.getD i 0)=ss:=by
 refine List.ext_getElem? λi=>?_;rw[zzI]
 by_cases h:i<ss.length
 . rw[zzE (by rw[zyU];exact h),List.getElem_range,zzE h];show some (ss.getD i 0)=_;rw[zyF,zzE h];rfl
 . rw[List.getElem?_eq_none (by rw[zyU];omega),List.getElem?_eq_none<|by omega];rfl
def DP:bootBuiltins "set"=some (.type "set"):=by decide +kernel
theorem G7:∀{us:List Value}{ss:List Int},IntsAre us ss->us.length=ss.length
 |_,_,.nil=>rfl
 |_,_,.cons _ _ r=>congrArg (· + 1)<|G7 r
section
variable{X:Cx}{kd:KD}
def oQ(K:zzA)(ta:TA):TE:=λσ H Q=>ta σ H λvs H1=>∃r ys ss,vs=[.ref r]/\Xr K H1 r ys/\(∀us,yd ys us->IntsAre us ss)/\ss.length<=1000/\Q (.int<|U2 ss) H1
def BD(hc:X.calm=true)(hg:Gl X "set")(hm:X.mg "set"=none)(hgl:Gl X "len")(hml:X.mg "len"=none)(ha:PA X [a] ta)(hs:starEach [a] X.env=[(false,eval a X.env)])
 (hs':starEach [.Call (.Name "set" p) [a] [] pos] X.env=[(false,eval (.Call (.Name "set" p) [a] [] pos) X.env)]):PE X (.Call (.Name "len" p') [.Call (.Name "set" p) [a] [] pos] [] pos') (oQ X.K ta):=by
 intro pins s σ H Q I h;refine wpAny_Call_Name_kw<|Z1 I hgl hml Bt.len<|PyProof.Rows.callWith_builtin1 ?_ hs' rfl;rw[hs'];refine Calls.spliced_cons ?_;refine wpAny_Call_Name_kw<|Z1 I hg hm DP<|PyProof.Rows.callWith_type1 (thn (ha pos pins s σ H _ I h) λus s1 ⟨vs,H1,I1,r1,q1⟩=>?_) hs rfl;obtain⟨r,ys,ss,rfl,sq,hss,hz,q⟩:=q1;cases r1 with
 |cons rr rs=>
  cases rs;cases rr;obtain⟨its,rv,pl,_⟩:=I1.list sq;have hS:=hss its rv;have hl:=G7 hS;refine call_set_list (I1.ok.hd hc) pl.isList (by simpa using hS) (by simp only[zzH];unfold scanBound;omega) λh' tk hSet hk=>?_;refine Calls.spliced_nil ?_;obtain⟨o,es,ep,t,ho,hex,hd,_,_,hb,hf,hn⟩:=hSet;refine call_len_set ho hex hd hf (by unfold scanBound at hb;omega) ?_;have e:es.size=U2 ss:=by
   rw[hn,zzH,hl];unfold PyProof.Rows.firstMet U2;rw[SX]
  refine⟨.int<|U2 ss,H1,I1.kept λb u e=>hk b u (zxJ e) e,⟨_,by rw[e]⟩,q⟩
def t9:List D->Option R0:=JK λx=>(IH x).bind λds=>(vZ ds).bind λss=>if ss.length<=1000 then some (.im<|.int<|U2 ss)else none
def GV(hc:X.calm=true)(hg:Gl X "set")(hm:X.mg "set"=none)(hgl:Gl X "len")(hml:X.mg "len"=none)(ha:AA X kd [a] fr)(hs:starEach [a] X.env=[(false,eval a X.env)])
 (hs':starEach [.Call (.Name "set" p) [a] [] pos] X.env=[(false,eval (.Call (.Name "set" p) [a] [] pos) X.env)]):AE X kd (.Call (.Name "len" p') [.Call (.Name "set" p) [a] [] pos] [] pos') (fP fr t9):=by
 with_unfolding_all exact(yM (BD hc hg hm hgl hml ha hs hs') λσ H Q h=>by
  obtain⟨F,B,ad,as,r,as',R,e,q⟩:=h;obtain⟨⟨rs,as1⟩,h1,e⟩:=bS_<|e;obtain⟨⟨ds,lv⟩,h2,e⟩:=bS_ e;obtain⟨r0,h3,e⟩:=bS_ e;obtain⟨z,h4,e⟩:=bS_ e;cases e;refine(⟨F,B,ad,as,rs,as1,R,h1,λvs ad1 H1 R1 rv1 g1=>?_⟩);have vl:=Wk R1 rv1 h2;have rq:=ZF R1 h4 λw T' H' R' rv' g'=>q w T' ad1 H' R' rv'<|g1.trans g';obtain⟨x,d,rfl,vx,he⟩:=Q1 vl h3;obtain⟨ds',h0,he2⟩:=bS_<|he;cases VF h0;obtain⟨ss,k1,he3⟩:=bS_ he2;obtain⟨hz,he4⟩:=zM he3;cases he4;cases vx with
  |lst hr rl=>exact⟨_,_,ss,rfl,hr.sq,λus hv=>Qk rl hv k1,hz,yk rq<|.int _⟩)
end
def uZ:EF:=λas=>some (.ow<|.nd (.dt []) [],as)
section
variable{X:Cx}{kd:KD}{n:Nat}
def AC:AE X kd (.Dict [] [] pos) uZ:=by with_unfolding_all exact(yM Of λσ H Q h=>by
 obtain⟨F,B,ad,as,r,as',R,e,q⟩:=h;cases e;intro p hp;have k:∀b o,H b=some o->upd H p (.dT []) b=some o:=λb o hb=>by rw[zJ<|yE hb hp];exact hb
 obtain⟨R2,g2⟩:=R.news (T':=[p]) (by simp) (λa m=>by rw[zzR.mp m];exact hp) k (λa m=>by rw[zzR.mp m,yp];simp);exact q _ [p] ad _ R2 (.dt yp rfl .nil) g2)
end
structure Co(x:Str)(P:Program)(w:World)(K:zzA)(mg:Str->Option Value)(base:Heap)(kd:KD)(k:Nat)(f:Addr)(d:FuncData)(ps:List Str)(gg:List (Bool×D)->Option O):Prop where
 F:FnOk P w K mg base B3 k f d ps (DT K kd gg)
 m:mg x=some (.ref f)
 kp:W.keepIn K (.ref f)=true
 b:Binds K d ps []
def Sd:List Str->List Str->List (Option Nat)->List Str
 |t::ts,XN,none::c=>t::Sd ts XN c
 | [],XN,none::c=>""::Sd [] XN c
 |ts,XN,some j::c=>XN.getD j ""::Sd ts XN c
 |_,_,[]=>[]
def tQ:Expr->Str
 | .Name x _=>x
 |_=>""
def IE:Expr->List Str
 | .Tuple es _ _=>es.map tQ
 |e=>[tQ e]
def D6:Nat->List (Option Nat)->List Nat
 |_,[]=>[]
 |k,none::c=>k::D6 (k+1) c
 |k,some _::c=>D6 (k+1) c
theorem El:∀(c d:List (Option Nat)) (i:Nat),i ∈ D6 d.length c->(d++c)[i]? = some none
 | [],_,_,h=>nomatch h
 |none::c,d,i,h=>by
  have ih:=El c (d++[none]) i;rw[zzJ,zxD]at ih
  rcases zzC.mp (h)with rfl|h
  . simp
  . exact ih h
 |some x::c,d,i,h=>by
  have ih:=El c (d++[some x]) i;rw[zzJ,zxD]at ih;exact ih h
def Hl:(D6 0 cap).all (λi=>cap[i]? == some none)=true:=List.all_eq_true.mpr λi m=>by
 have:=El cap [] i m;rw[List.nil_append]at this;rw[this];rfl
def oi{N:List Str}(h:decide N.Nodup=true):N.Nodup:=of_decide_eq_true h
section
variable{X:Cx}{kd:KD}{elt tg iter e:Expr}{es ifs:List Expr}{scope:Scope}{pos p:Pos}{cap:List (Option Nat)}{g:GF}{tt:TF}{fe:EF}{fi:IF}{S:List Nat}{fr:AF}{k n:Nat}
def cq(C:Co x X.prog X.w X.K X.mg X.base kd k f d ps gg)(hr:Room n X.A)(ha:AA X kd (e::es) fr)(hn:k<=n:=by omega)(hg:Gl X x:=by rfl)(hdb:(x==("__debug__":Str))=false:=by decide)(he:starEach (e::es) X.env=(false,eval e X.env)::starEach es X.env:=by rfl)(hpl:(backTo pos<|starEach es X.env).any (·.1)=false:=by rfl):
 AE X kd (.Call (.Name x p) (e::es) [] pos) (zv fr gg):=Ia C.F (hr.mono hn) hg C.m C.kp C.b tu ha hdb he hpl
def oP(h1:AG X kd a [i] g)(h2:Jb X kd es S gs)(hs:(assignEach (a::es) X.env).map (·.2)=assign a X.env::(assignEach es X.env).map (·.2):=by rfl):Jb X kd (a::es) (i::S) (yC g gs):=vX h1 h2 hs
def D9(X:Cx)(kd:KD)(tg:Expr)(g:GF):Prop:=∃S,AG X kd tg S g
def Ov(X:Cx)(kd:KD)(es:List Expr)(gs:Jj):Prop:=∃S,Jb X kd es S gs
def rV(i:Nat)(hN:X.N.Nodup)(hi:X.N[i]? = some x:=by rfl)(hx:Loc X.env.scope x:=by first|exact Or.inl rfl|exact Or.inr rfl)(hf:X.fn x=true\/X.env.scope.names.lookup x=some .local:=by first|exact Or.inl rfl|exact Or.inr rfl):D9 X kd (.Name x pos) (gN i):=⟨_,E9 hN hi hx hf⟩
def qd(h:Ov X kd es gs)(hc:X.calm=true:=by rfl)(hn:(assignEach es X.env).length=m:=by rfl)(hst:(assignEach es X.env).findIdx? (·.1)=none:=by rfl):D9 X kd (.Tuple es j pos) (gT m gs):=h.elim λ_ h=>⟨_,P1 hc h hn hst⟩
def rf(h1:D9 X kd a g)(h2:Ov X kd es gs)(hs:(assignEach (a::es) X.env).map (·.2)=assign a X.env::(assignEach es X.env).map (·.2):=by rfl):Ov X kd (a::es) (yC g gs):=h1.elim λ_ h1=>h2.elim λ_ h2=>⟨_,vX h1 h2 hs⟩
def qt:Ov X kd [] vI:=⟨_,V0⟩
def oG(hi:AI X kd tg iter fi)(hg:D9 X kd tg g)(hb:Mw X kd body f)(hp:PassesOwn (model X.prog X.w) X.A X.env X.xe:=by exact PassesOwn.never)(hc:X.calm=true:=by rfl)(hs:∀x,foldedSetIterable iter X.env x=pure x:=by exact λ_=>rfl):Pp X kd (.For tg iter body [] pos) (yS fi g f):=hg.elim λ_ hg=>PJ hp hc hi hg hb hs
def qf(he:AE X kd e fe)(hg:D9 X kd tg g)(hs:swapsWithSole [tg] e pos.line X.env=pure false:=by rfl)(hw:swappedStores [tg] e X.env=pure none:=by rfl)(h1:(assignEach [tg] X.env).map (·.2)=[assign tg X.env]:=by rfl):Pp X kd (.Assign [tg] e pos) (XY fe g):=hg.elim λ_ hg=>DM he hg hs hw h1
theorem cm(hi:Ja X kd tg iter fi)(hg:∀cl s H fp,AG (xa X (Sd (IE tg) X.N cap) scope cl s H fp) kd tg (D6 0 cap) g)(ht:∀cl s H fp,B6 (xa X (Sd (IE tg) X.N cap) scope cl s H fp) ifs<|C8 X.K kd tt)(he:∀cl s H fp,AE (xa X (Sd (IE tg) X.N cap) scope cl s H fp) kd elt fe)
 (hc:X.calm=true:=by rfl) (hk:scope.kind = .function:=by rfl) (hcap:Za (Sd (IE tg) X.N cap) X.N scope.names X.env.scope.names cap=true:=by kernel_rfl) (hs:∀x,foldedSetIterable iter X.env x=pure x:=by exact λ_=>rfl):AE X kd (.ListComp elt [⟨tg,iter,ifs,0⟩] scope pos) (zt fi cap g tt fe):=wt hc hi hk hcap Hl hg ht he hs
theorem oV(hN:X.N.Nodup)(hi:Ja X kd tg iter fi)(hg:∀cl s H fp,AG (xa X (Sd (IE tg) X.N cap) scope cl s H fp) kd tg (D6 0 cap) g)(ht:∀cl s H fp,B6 (xa X (Sd (IE tg) X.N cap) scope cl s H fp) ifs<|C8 X.K kd tt)(he:∀cl s H fp,AE (xa X (Sd (IE tg) X.N cap) scope cl s H fp) kd elt fe)
 (hiy:X.N[i]? = some y:=by rfl) (hy:Loc X.env.scope y:=by first|exact Or.inl rfl|exact Or.inr rfl) (hf:X.fn y=true\/X.env.scope.names.lookup y=some .local:=by first|exact Or.inl rfl|exact Or.inr rfl) (hsw:swapsWith (.ListComp elt [⟨tg,iter,ifs,0⟩] scope pos) (some<|.Name y py) spos.line X.env=pure true:=by rfl)
 (hc:X.calm=true:=by rfl) (hk:scope.kind = .function:=by rfl) (hcap:Za (Sd (IE tg) X.N cap) X.N scope.names X.env.scope.names cap=true:=by kernel_rfl) (hs:∀x,foldedSetIterable iter X.env x=pure x:=by exact λ_=>rfl):Pp X kd (.Assign [.Name y py] (.ListComp elt [⟨tg,iter,ifs,0⟩] scope pos) spos) (zy z i<|zt fi cap g tt fe):=RO hN hiy hy hf hsw hc hi hk hcap Hl hg ht he hs
end
section
variable{K:zzA}{kd:KD}{F B:Addr->Prop}{ad:Ad}{as:AS}{σ:St}{H H':Hp}
def G1(G:Addr->Prop)(T T':List Addr):Addr->Prop:=λa=>(G a/\a ∉ T)\/a ∈ T'
def Rel.chg1{i:Nat}{o0:O}{v0:V}{T0:List Addr}(R:Rel K kd F B [] ad as σ H)(hi:i<as.length)(s0:σ[i]? = some (some v0))(nd:T0.Nodup)
 (sub:∀a ∈ T0,a ∈ ad i\/H a=none) (kp:∀c u,H c=some u->c ∉ ad i->H' c=some u) (al:∀a ∈ T0,H' a≠none)
 (r0:xY K kd F B (G1 (Gw [] ad) (ad i) T0) H' v0 o0 T0):
 Rel K kd F B [] (xO ad i T0) (as.set i<|some o0) σ H'/\Grow (Gw [] ad) H (Gw []<|xO ad i T0) H':=by
 have ai:xO ad i T0 i=T0:=zY;have ak:∀k,k≠i->xO ad i T0 k=ad k:=λk h=>yb h;have off:∀k a,k≠i->a ∈ ad k->a ∉ ad i:=λk a h m z=>h<|R.inj k i a m z;have gw:∀a,Gw [] (xO ad i T0) a->G1 (Gw [] ad) (ad i) T0 a:=λa z=>by
  rcases z with z|⟨k,z⟩
  . exact nomatch z
  . by_cases e:k=i
    . subst e;rw[ai]at z;exact .inr z
    . rw[ak k e]at z;exact .inl ⟨.inr ⟨k,z⟩,off k a e z⟩
 have nin:∀k a,k≠i->a ∈ ad k->a ∉ T0:=λk a h m z=>(sub a z).elim (off k a h m) λy=>(R.gtr a<|.inr ⟨k,m⟩).1 y;have g:Grow (Gw [] ad) H (Gw []<|xO ad i T0) H':=⟨λb o h n=>kp b o h λz=>n<|.inr ⟨i,z⟩,λb z=>(gw b z).elim (λy=>.inl y.1) λy=>(sub b y).elim (λx=>.inl<|.inr ⟨i,x⟩) .inr⟩;have kn:∀a,H a≠none->a ∉ ad i->H' a≠none:=λa h n=>by
  cases e:H a with
  |none=>exact absurd e h
  |some u=>rw[kp a u e n];simp
 have own:∀a,a ∈ ad i->Gw [] ad a:=λa z=>.inr ⟨i,z⟩;refine⟨⟨by rw[zzU];exact R.len,λk hk=>?_,λk=>?_,λk l a h1 h2=>?_,zyJ,(λ_ _ _ z=>nomatch z),λa z=>kn a (R.ftr a z) λy=>(R.gtr a<|own a y).2 z,λa z=>?_,λa z=>?_,λk s e=>?_⟩,g⟩
 . rw[zzU]at hk;rw[ak k<|by omega];exact R.out k hk
 . by_cases e:k=i
   . subst e;rw[ai];exact nd
   . rw[ak k e];exact R.nd k
 . by_cases e:k=i
   . subst e;rw[ai]at h1
     by_cases e':l=k
     . exact e'.symm
     . rw[ak l e']at h2;exact absurd h1<|nin l a e' h2
   . rw[ak k e]at h1
     by_cases e2:l=i
     . subst e2;rw[ai]at h2;exact absurd h2<|nin k a e h1
     . rw[ak l e2]at h2;exact R.inj k l a h1 h2
 . obtain⟨h1,h2,h3⟩:=R.btr a z;refine⟨kn a h1 λy=>h3<|own a y,h2,λy=>(gw a y).elim (λx=>h3 x.1) λx=>(sub a x).elim (λw=>h3<|own a w) h1⟩
 . rcases gw a z with⟨y,n⟩|y
   . exact⟨kn a (R.gtr a y).1 n,(R.gtr a y).2⟩
   . exact⟨al a y,(sub a y).elim (λw=>(R.gtr a<|own a w).2) λw f=>R.ftr a f w⟩
 . by_cases e2:k=i
   . subst e2;rw[zyK hi]at e;cases e;rw[ai];exact⟨v0,s0,xY.lv (λst a z=>z.imp id<|gw a) r0⟩
   . rw[zzY λz=>e2 z.symm]at e;rw[ak k e2];exact(R.sl k s e).grow g λa m u h=>kp a u h<|off k a e2 m
end
section
variable{K:zzA}{kd:KD}{F B:Addr->Prop}{T:List Addr}{ad:Ad}{as:AS}{σ:St}{H:Hp}{i:Nat}{o:O}{v:V}
def T5{a:Addr}:Gw (ad i) (xO ad i []) a ↔ Gw [] ad a:=by
 constructor
 . rintro(z|⟨j,z⟩)
   . exact .inr ⟨i,z⟩
   . by_cases e:j=i
     . subst e;rw[zY]at z;cases z
     . rw[yb e]at z;exact .inr ⟨j,z⟩
 . rintro(z|⟨j,z⟩)
   . cases z
   . by_cases e:j=i
     . subst e;exact .inl z
     . exact .inr ⟨j,by rw[yb e];exact z⟩
def Rel.mv(R:Rel K kd F B [] ad as σ H)(h:as[i]? = some (some o)):
 Rel K kd F B (ad i) (xO ad i []) (as.set i none) σ H/\∃v,σ[i]? = some (some v)/\xY K kd F B (Gw (ad i)<|xO ad i []) H v o (ad i):=by
 have hi:i<as.length:=(zzG.mp h).1;obtain⟨v,hv,ro⟩:=R.sl i _ h;refine⟨⟨by rw[zzU];exact R.len,λj hj=>?_,λj=>?_,λj k a h1 h2=>?_,R.nd i,λj a h1 h2=>?_,R.ftr,λa h1=>?_,λa h1=>R.gtr a<|T5.mp h1,λj s e=>?_⟩,v,hv,ro.less λa z=>T5.mp z⟩
 . rw[zzU]at hj;rw[yb<|by omega];exact R.out j hj
 . by_cases e:j=i
   . subst e;rw[zY];exact zyJ
   . rw[yb e];exact R.nd j
 . by_cases e:j=i
   . subst e;rw[zY]at h1;cases h1
   . rw[yb e]at h1
     by_cases e':k=i
     . subst e';rw[zY]at h2;cases h2
     . rw[yb e']at h2;exact R.inj j k a h1 h2
 . by_cases e:j=i
   . subst e;rw[zY]at h1;cases h1
   . rw[yb e]at h1;exact e<|R.inj j i a h1 h2
 . obtain⟨b1,b2,b3⟩:=R.btr a h1;exact⟨b1,b2,λz=>b3<|T5.mp z⟩
 . by_cases q:j=i
   . subst q;rw[zyK hi]at e;cases e;rw[zY];exact(rfl:([]:List Addr)=[])
   . rw[zzY<|Ne.symm q]at e;rw[yb q];have:=R.sl j s e;cases s with
     |none=>exact this
     |some o'=>
      obtain⟨w,hw,rw'⟩:=this;exact⟨w,hw,rw'.less λa z=>T5.mp z⟩
end
def FL(i:Nat):EF:=λas=>match as[i]? with
 |some (some o)=>some (.ow o,as.set i none)
 |_=>none
def GS{X:Cx}{kd:KD}{i:Nat}{x:Str}{p:Pos}(hv:PE X (.Name x p) (Yi i)):AE X kd (.Name x p) (FL i):=by with_unfolding_all exact(yM hv λσ H Q h=>by
 obtain⟨F,B,ad,as,r,as',R,e,q⟩:=h;unfold FL at e;cases k:as[i]? with
 |none=>rw[k]at e;cases e
 |some s=>
  cases s with
  |none=>rw[k]at e;cases e
  |some o=>
   rw[k]at e;cases e;obtain⟨R',v,hv,ro⟩:=R.mv k;exact⟨v,hv,q v (ad i) _ H R' ro<|Grow.less λa z=>T5.mp z⟩)
def E8(as:AS):AS:=as.map<|Option.map O.frz
def Qj{a:Addr}(z:Gw [] (λ_=>[]) a):False:=z.elim (λy=>nomatch y) λ⟨j,y⟩=>nomatch y
def Rel.lendA{K:zzA}{kd:KD}{F B:Addr->Prop}{ad:Ad}{as:AS}{σ:St}{H:Hp}(R:Rel K kd F B [] ad as σ H):Rel K kd F B [] (λ_=>[]) (E8 as) σ H:=by
 refine⟨by unfold E8;rw[zzB];exact R.len,λ_ _=>rfl,λ_=>zyJ,(λ_ _ _ x=>nomatch x),zyJ,(λ_ _ x=>nomatch x),R.ftr,λa z=>⟨(R.btr a z).1,(R.btr a z).2.1,Qj⟩,λa z=>(Qj z).elim,λi s e=>?_⟩;unfold E8 at e;rw[zzI]at e;obtain⟨s0,k,e1⟩:=zzX.mp e;subst e1;cases s0 with
 |none=>rfl
 |some o=>
  obtain⟨R',v,hv,rp⟩:=R.frz k;exact⟨v,hv,.lf<|rp.less λa z=>z.imp id λy=>(Qj y).elim⟩
def ot:RV->Option D
 | .ow (.lf _ d)=>if zR d=true then some d else none
 |_=>none
def XR(f:EF):EF:=λas=>(f<|E8 as).bind λp=>(ot p.1).bind λd=>some (.ow<|.lf true d,as)
def Ms{X:Cx}{kd:KD}{e:Expr}{f:EF}(he:AE X kd e f):AE X kd e (XR f):=by
 with_unfolding_all exact(yM he λσ H Q h=>by
  obtain⟨F,B,ad,as,r,as',R,e,q⟩:=h;obtain⟨⟨r1,as1⟩,h1,e⟩:=bS_<|show(f<|E8 as).bind _=_ from e;obtain⟨d,h2,e⟩:=bS_ e;cases e;refine⟨F,B,λ_=>[],_,r1,as1,R.lendA,h1,λv T ad' H' R' rv g=>?_⟩;obtain⟨R2,g2⟩:=R.more λb u hb=>g.keep b u hb Qj
  match r1,h2,rv with
  | .ow (.lf st d0),h2,rv=>
   obtain⟨hf,e⟩:=zM<|show(if zR d0=true then some d0 else none)=some d from h2;cases e;have rv:xY X.K kd F B (Gw T ad') H' v (.lf st d) T:=rv;cases rv with
   |lf rp=>exact q v [] ad H' R2 (.lf<|rp.flat hf) g2)
def Zq(t:TF):TF:=λas=>(t<|E8 as).bind λp=>some (p.1,as)
def Ql{X:Cx}{kd:KD}{e:Expr}{t:TF}(he:AT X kd e t):AT X kd e (Zq t):=by
 with_unfolding_all exact(Lo he λσ H Q h=>by
  obtain⟨F,B,ad,as,b,as',R,e,q⟩:=h;obtain⟨⟨b1,as1⟩,h1,e⟩:=bS_<|show(t<|E8 as).bind _=_ from e;cases e;refine⟨F,B,λ_=>[],_,_,as1,R.lendA,h1,λad' H' R' g=>?_⟩;obtain⟨R2,g2⟩:=R.more λb u hb=>g.keep b u hb Qj;exact q ad H' R2 g2)
def Je(f:EF):EF:=λas=>(f as).bind λp=>some (p.1.frz,p.2)
def tq{X:Cx}{kd:KD}{e:Expr}{fa:EF}(h:AE X kd e fa):AE X kd e (Je fa):=by with_unfolding_all exact(yM h λσ H Q q=>by
 obtain⟨F,B,ad,as,r,as',R,e,k⟩:=q;obtain⟨⟨p,as1⟩,h1,e⟩:=bS_<|show(fa as).bind _=_ from e;cases e;exact⟨F,B,ad,as,p,as1,R,h1,λv T' ad' H' R' rv g=>k v [] ad' H' R'.drop (x_.drop R' rv)<|g.trans<|Grow.less Gw.drop⟩)
section
variable{K:zzA}{kd:KD}{F B G:Addr->Prop}{H:Hp}
theorem Ta:∀(os:List O) {vs:List V}{fp:List Addr}{n:Nat}{o:O},vG K kd F B G H vs os fp->fp.Nodup->(∀a ∈ fp,G a)->os[n]? = some o->
 ∃v f,vs[n]? = some v/\xY K kd F B G H v o f/\f.Nodup/\f.Sublist fp/\∀(p:Addr) (u:HO) (o':O) (f':List Addr),p ∈ f->f'.Sublist f->xY K kd F B G (upd H p u) v o' f'->∃fp',fp'.Sublist fp/\vG K kd F B G (upd H p u) vs (os.set n o') fp'
 | [],_,_,_,_,_,_,_,e=>by simp at e
 |o1::os,_,_,n,o,r,hn,hG,e=>by
  cases r with
  |cons a r=>
   rename_i v vs fp fq;obtain⟨n1,n2,n3⟩:=zxF.mp hn;cases n with
   |zero=>
    simp at e;subst e;exact⟨v,fp,rfl,a,n1,List.sublist_append_left _ _,λp u o' f' hp hs ro=>⟨f'++fq,hs.append<|List.Sublist.refl _,.cons ro<|vG.grow (Zv<|hG p<|zzP _ hp) (λx m w h=>by rw[zJ λe=>n3 p hp x m e.symm];exact h) r⟩⟩
   |succ n=>
    obtain⟨v',f,h1,h2,h3,h4,h5⟩:=Ta os (n:=n) (o:=o) r n2 (λx m=>hG x<|zzL _ m) (by simpa using e);refine⟨v',f,by simpa using h1,h2,h3,h4.trans<|List.sublist_append_right _ _,λp u o' f' hp hs ro=>?_⟩;obtain⟨fp',s,r'⟩:=h5 p u o' f' hp hs ro;exact⟨fp++fp',(List.Sublist.refl _).append s,.cons (xY.grow (Zv<|hG p<|zzL _<|h4.subset hp) (λx m w h=>by rw[zJ λe=>n3 x m p (h4.subset hp) e];exact h) a) r'⟩
variable{v:V}{os:List O}{fp:List Addr}{n:Nat}{o:O}
def RW(r:xY K kd F B G H v (.nd .ls os) fp)(hn:fp.Nodup)(hG:∀a ∈ fp,G a)(e:os[n]? = some o):
 ∃l vs w f,v = .ref l/\H l=some (.lst vs)/\vs[n]? = some w/\xY K kd F B G H w o f/\f.Nodup/\f.Sublist fp/\l ∉ f/\∀(p:Addr) (u:HO) (o':O) (f':List Addr),p ∈ f->f'.Sublist f->xY K kd F B G (upd H p u) w o' f'->∃fp',fp'.Sublist fp/\xY K kd F B G (upd H p u) v (.nd .ls<|os.set n o') fp':=by
 cases r with
 |ls hp ir=>
  rename_i l vs ifp;obtain⟨n0,n1⟩:=zzW.mp hn;obtain⟨w,f,h1,h2,h3,h4,h5⟩:=Ta os ir n1 (λa m=>hG a<|zzD _ m) e;refine⟨l,vs,w,f,rfl,hp,h1,h2,h3,h4.trans<|List.sublist_cons_self _ _,λz=>n0<|h4.subset z,λp u o' f' hpf hs ro=>?_⟩;obtain⟨fp',s,r'⟩:=h5 p u o' f' hpf hs ro;exact⟨l::fp',s.cons_cons _,.ls (by rw[zJ λe=>n0<|by rw[e];exact h4.subset hpf];exact hp) r'⟩
def vA(r:xY K kd F B G H v (.nd .tp os) fp)(hn:fp.Nodup)(hG:∀a ∈ fp,G a)(e:os[n]? = some o):
 ∃l vs w f,v = .ref l/\H l=some (.tup vs)/\vs[n]? = some w/\xY K kd F B G H w o f/\f.Nodup/\f.Sublist fp/\∀(p:Addr) (u:HO) (o':O) (f':List Addr),p ∈ f->f'.Sublist f->xY K kd F B G (upd H p u) w o' f'->∃fp',fp'.Sublist fp/\xY K kd F B G (upd H p u) v (.nd .tp<|os.set n o') fp':=by
 cases r with
 |tp hN hp ir=>
  rename_i l vs;obtain⟨w,f,h1,h2,h3,h4,h5⟩:=Ta os ir hn hG e;refine⟨l,vs,w,f,rfl,hp,h1,h2,h3,h4,λp u o' f' hpf hs ro=>?_⟩;obtain⟨fp',s,r'⟩:=h5 p u o' f' hpf hs ro;exact⟨fp',s,.tp hN (by rw[zJ λe=>hN<|.inr<|by rw[e];exact hG p<|h4.subset hpf];exact hp) r'⟩
def Sf{c:Int}(r:xY K kd F B G H v (.nd .ls os) fp)(hn:fp.Nodup)(hG:∀a ∈ fp,G a):∃l vs,v = .ref l/\l ∈ fp/\H l=some (.lst vs)/\vs.length=os.length/\xY K kd F B G (upd H l<|.lst<|vs++[.int c]) v (.nd .ls<|os++[.lf true<|.int c]) fp:=by
 cases r with
 |ls hp ir=>
  rename_i l vs ifp;have hpfp:l ∉ ifp:=(zzW.mp hn).1;exact⟨l,vs,rfl,zzF,hp,Lx ir,.ls yp<|Nu (.int c) os<|vG.grow (Zv<|hG l zzF) (λx m w h=>by rw[zJ λe=>hpfp<|by subst e;exact m];exact h) ir⟩
def EC(r:xY K kd F B G H v (.nd .ls os) fp):∃l vs,v = .ref l/\l ∈ fp /\ [l].Sublist fp/\H l=some (.lst vs)/\xY K kd F B G (upd H l<|.lst []) v (.nd .ls []) [l]:=by
 cases r with
 |ls hp ir=>exact⟨_,_,rfl,zzF,(List.nil_sublist _).cons_cons _,hp,.ls yp .nil⟩
end
section
variable{K:zzA}{kd:KD}{F B:Addr->Prop}{ad:Ad}{as:AS}{σ:St}{H:Hp}{i:Nat}{o:O}
def Rel.slotC(R:Rel K kd F B [] ad as σ H)(k:as[i]? = some (some o)):
 ∃v,σ[i]? = some (some v)/\xY K kd F B (Gw [] ad) H v o (ad i)/\(ad i).Nodup/\(∀a ∈ ad i,Gw [] ad a)/\
  ∀(p:Addr) (u:HO) (o':O) (f':List Addr),p ∈ ad i->f'.Sublist (ad i)->xY K kd F B (Gw [] ad) (upd H p u) v o' f'->Rel K kd F B [] (xO ad i f') (as.set i<|some o') σ (upd H p u)/\Grow (Gw [] ad) H (Gw []<|xO ad i f') (upd H p u):=by
 obtain⟨v,hv,ro⟩:=R.sl i _ k;refine⟨v,hv,ro,R.nd i,λa m=>.inr ⟨i,m⟩,λp u o' f' hp hs ro'=>?_⟩;have gs:∀a,G1 (Gw [] ad) (ad i) f' a->Gw [] ad a:=λa z=>z.elim (λy=>y.1) λy=>.inr ⟨i,hs.subset y⟩;refine R.chg1 (zzG.mp k).1 hv ((R.nd i).sublist hs) (λa m=>.inl<|hs.subset m) (λc w hc n=>by rw[zJ λe=>n<|by rw[e];exact hp];exact hc) (λa m=>?_)<|xY.lv (λst a z=>z.imp id<|gs a) ro'
 by_cases e:a=p
 . subst e;rw[yp];simp
 . rw[zJ e];exact(R.gtr a<|.inr ⟨i,hs.subset m⟩).1
def Rel.poke{T:List Addr}{H':Hp}(R:Rel K kd F B T ad as σ H)(k:∀c u,H c=some u->c ∉ T->H' c=some u)(kn:∀a ∈ T,H' a≠none):Rel K kd F B T ad as σ H'/\Grow (Gw T ad) H (Gw T ad) H':=by
 have g:Grow (Gw T ad) H (Gw T ad) H':=⟨λb o e n=>k b o e λm=>n<|.inl m,λb z=>.inl z⟩;have kq:∀a,H a≠none->H' a≠none:=λa h=>by
  by_cases m:a ∈ T
  . exact kn a m
  . cases e:H a with
    |none=>exact absurd e h
    |some u=>rw[k a u e m];simp
 exact⟨⟨R.len,R.out,R.nd,R.inj,R.tnd,R.dis,λa z=>kq a<|R.ftr a z,λa z=>⟨kq a (R.btr a z).1,(R.btr a z).2⟩,λa z=>⟨kq a (R.gtr a z).1,(R.gtr a z).2⟩,λi s e=>(R.sl i s e).grow g λa m u h=>k a u h<|R.dis i a m⟩,g⟩
def Rel.slotF(R:Rel K kd F B [] ad as σ H)(k:as[i]? = some (some o)){p:Addr}{u:HO}(hp:p ∈ ad i):∃ad',Rel K kd F B [] ad' (as.set i none) σ (upd H p u)/\Grow (Gw [] ad) H (Gw [] ad') (upd H p u):=by
 obtain⟨R0,v,hv,ro⟩:=R.mv k;obtain⟨R1,g1⟩:=R0.poke (H':=upd H p u) (λc w hc n=>by rw[zJ λe=>n<|by rw[e];exact hp];exact hc) (λa m=>by
  by_cases e:a=p
  . subst e;rw[yp];simp
  . rw[zJ e];exact(R.gtr a<|.inr ⟨i,m⟩).1)
 exact⟨_,R1.drop,⟨λb w h n=>g1.keep b w h λz=>n<|T5.mp z,λb z=>(g1.own b<|Gw.drop b z).imp T5.mp id⟩⟩
end
def O7(i n1 n2:Nat)(f:RS)(c:Int):SF:=λas=>(f as).bind λk=>(Rn Yk as i).bind λos=>(YR Yk os n1).bind λps=>(YR vF ps n2).bind λrows=>(YR vF rows k.toNat).bind λinner=>if 0<=k/\inner.length<sizeLine then some (.nx<|as.set i<|some<|.nd .tp<|os.set n1<|.nd .tp<|ps.set n2<|.nd .ls<|rows.set k.toNat<|.nd .ls<|inner++[.lf true<|.int c])else none
def uW{K:zzA}{H:Hp}{r:Addr}{vs:List V}(z:H r=some (.lst vs)):sV K "list" (.ref r) H:=.inl ⟨rfl,vs,.inl<|.inl z⟩
abbrev sZ(K:zzA)(to:TE):TE:=uH K "list" SZ to
abbrev pG(K:zzA)(c:Int)(to:TE):TE:=qE K "list" LC to<|OM (tC<|.int c) JA
def Bj{as:AS}{inner:List O}{k:Nat}(h:Rn Yk as k=some inner):as[k]? = some (some<|.nd .tp inner):=by
 obtain⟨o,h1,h⟩:=M5 h;cases Fu h;exact h1
section
variable{X:Cx}{kd:KD}{i n1 n2:Nat}{f:RS}{c:Int}{x:Str}{p p1 p2 p3 apos cpos spos:Pos}{c1 c2 e3 ec:Expr}
def DH(ho:PE X (.Name x p) (Yi i))(h1:PE X c1 (tC<|.int n1))(x1:yZ c1)(h2:PE X c2 (tC<|.int n2))(x2:yZ c2)(h3:AK X kd e3 f)(x3:yZ e3)
 (b:∀te,PE X (.Subscript (.Subscript (.Subscript (.Name x p) c1 p1) c2 p2) e3 p3) te->PE X (.Call (.Attribute (.Subscript (.Subscript (.Subscript (.Name x p) c1 p1) c2 p2) e3 p3) "append" apos) [ec] [] cpos) (pG X.K c te))
 (hsw:swapsWith (.Call (.Attribute (.Subscript (.Subscript (.Subscript (.Name x p) c1 p1) c2 p2) e3 p3) "append" apos) [ec] [] cpos) none spos.line X.env=pure false):
 Pp X kd (.Expr (.Call (.Attribute (.Subscript (.Subscript (.Subscript (.Name x p) c1 p1) c2 p2) e3 p3) "append" apos) [ec] [] cpos) spos) (O7 i n1 n2 f c):=by
 with_unfolding_all exact(wB (YX (b _<|vW ZM (vW Z3 (vW Z3 ho h1 x1) h2 x2) h3 x3) hsw) λD σ H h=>by
  obtain⟨F,B,ad,as,o,R,e,q⟩:=h;obtain⟨k,j1,e⟩:=bS_<|show(f as).bind _=_ from e;obtain⟨os,e1,e⟩:=bS_ e;obtain⟨ps,e2,e⟩:=bS_ e;obtain⟨rows,e3,e⟩:=bS_ e;obtain⟨inner,e4,e⟩:=bS_ e;obtain⟨⟨k0,z1⟩,e⟩:=zM e;cases e;obtain⟨v,sv,ro,hn,hG,up⟩:=R.slotC<|Bj e1;obtain⟨l1,vs1,w1,f1,rfl,hH1,hv1,r1,m1,s1,up1⟩:=vA ro hn hG<|Ew e2;obtain⟨l2,vs2,w2,f2,rfl,hH2,hv2,r2,m2,s2,up2⟩:=vA r1 m1 (λa m=>hG a<|s1.subset m)<|RD e3;obtain⟨l3,vs3,w3,f3,rfl,hH3,hv3,r3,m3,s3,_,up3⟩:=RW r2 m2 (λa m=>hG a<|s1.subset<|s2.subset m)<|RD e4;obtain⟨L,ivs,rfl,hL,hHL,hl,r4⟩:=Sf (c:=c) r3 m3 λa m=>hG a<|s1.subset<|s2.subset<|s3.subset m;obtain⟨g3,t3,r3'⟩:=up3 L _ _ _ hL (List.Sublist.refl _) r4;obtain⟨g2,t2,r2'⟩:=up2 L _ _ _ (s3.subset hL) t3 r3';obtain⟨g1,t1,r1'⟩:=up1 L _ _ _ (s2.subset<|s3.subset hL) t2 r2';obtain⟨R',gr⟩:=up L _ _ _ (s1.subset<|s2.subset<|s3.subset hL) t1 r1';refine⟨.ref l1,sv,l1,vs1,_,_,rfl,rfl,.inl<|.inl hH1,xk hv1,l2,vs2,_,_,rfl,rfl,.inl<|.inl hH2,xk hv2,F,B,ad,as,k,R,j1,l3,vs3,k,.ref L,rfl,rfl,.inl<|.inl hH3,V1 k0 hv3,uW hHL,L,ivs,.int c,rfl,rfl,hHL,by rw[hl];exact z1,q σ _ _ R' gr⟩)
end
def OW(i n:Nat):SF:=λas=>(Rn Yk as i).bind λos=>(YR vF os n).bind λ_=>some<|.nx<|as.set i<|some<|.nd .tp<|os.set n<|.nd .ls []
def Cc(i n1 n2:Nat):SF:=λas=>(Rn Yk as i).bind λos=>(YR Yk os n1).bind λps=>(YR vF ps n2).bind λ_=>some<|.nx<|as.set i none
section
variable{X:Cx}{kd:KD}{i n n1 n2:Nat}{x:Str}{p p1 p2 apos cpos spos:Pos}{c1 c2:Expr}
def An(ho:PE X (.Name x p) (Yi i))(h1:PE X c1 (tC<|.int n))(x1:yZ c1)
 (b:∀te,PE X (.Subscript (.Name x p) c1 p1) te->PE X (.Call (.Attribute (.Subscript (.Name x p) c1 p1) "clear" apos) [] [] cpos) (sZ X.K te))
 (hsw:swapsWith (.Call (.Attribute (.Subscript (.Name x p) c1 p1) "clear" apos) [] [] cpos) none spos.line X.env=pure false):
 Pp X kd (.Expr (.Call (.Attribute (.Subscript (.Name x p) c1 p1) "clear" apos) [] [] cpos) spos) (OW i n):=by
 with_unfolding_all exact(wB (YX (b _<|vW Z3 ho h1 x1) hsw) λD σ H h=>by
  obtain⟨F,B,ad,as,o,R,e,q⟩:=h;obtain⟨os,e1,e⟩:=bS_<|show(Rn Yk as i).bind _=_ from e;obtain⟨rows,e2,e⟩:=bS_ e;cases e;obtain⟨v,sv,ro,hn,hG,up⟩:=R.slotC<|Bj e1;obtain⟨l1,vs1,w1,f1,rfl,hH1,hv1,r1,m1,s1,up1⟩:=vA ro hn hG<|RD e2;obtain⟨L,ivs,rfl,hL,sL,hHL,r4⟩:=EC r1;obtain⟨g1,t1,r1'⟩:=up1 L _ _ _ hL sL r4;obtain⟨R',gr⟩:=up L _ _ _ (s1.subset hL) t1 r1';exact⟨.ref l1,sv,l1,vs1,_,_,rfl,rfl,.inl<|.inl hH1,xk hv1,uW hHL,L,ivs,rfl,rfl,hHL,q σ _ _ R' gr⟩)
def JR(ho:PE X (.Name x p) (Yi i))(h1:PE X c1 (tC<|.int n1))(x1:yZ c1)(h2:PE X c2 (tC<|.int n2))(x2:yZ c2)
 (b:∀te,PE X (.Subscript (.Subscript (.Name x p) c1 p1) c2 p2) te->PE X (.Call (.Attribute (.Subscript (.Subscript (.Name x p) c1 p1) c2 p2) "clear" apos) [] [] cpos) (sZ X.K te))
 (hsw:swapsWith (.Call (.Attribute (.Subscript (.Subscript (.Name x p) c1 p1) c2 p2) "clear" apos) [] [] cpos) none spos.line X.env=pure false):
 Pp X kd (.Expr (.Call (.Attribute (.Subscript (.Subscript (.Name x p) c1 p1) c2 p2) "clear" apos) [] [] cpos) spos) (Cc i n1 n2):=by
 with_unfolding_all exact(wB (YX (b _<|vW Z3 (vW Z3 ho h1 x1) h2 x2) hsw) λD σ H h=>by
  obtain⟨F,B,ad,as,o,R,e,q⟩:=h;obtain⟨os,e1,e⟩:=bS_<|show(Rn Yk as i).bind _=_ from e;obtain⟨ps,e2,e⟩:=bS_ e;obtain⟨rows,e3,e⟩:=bS_ e;cases e;obtain⟨v,sv,ro,hn,hG,up⟩:=R.slotC<|Bj e1;obtain⟨l1,vs1,w1,f1,rfl,hH1,hv1,r1,m1,s1,_⟩:=vA ro hn hG<|Ew e2;obtain⟨l2,vs2,w2,f2,rfl,hH2,hv2,r2,m2,s2,_⟩:=vA r1 m1 (λa m=>hG a<|s1.subset m)<|RD e3;obtain⟨L,ivs,rfl,hL,sL,hHL,_⟩:=EC r2;obtain⟨ad',R',gr⟩:=R.slotF (u:=.lst []) (Bj e1)<|s1.subset<|s2.subset hL;exact⟨.ref l1,sv,l1,vs1,_,_,rfl,rfl,.inl<|.inl hH1,xk hv1,l2,vs2,_,_,rfl,rfl,.inl<|.inl hH2,xk hv2,uW hHL,L,ivs,rfl,rfl,hHL,q σ _ _ R' gr⟩)
end
abbrev tF(os ps ds dp:List O)(n1 n2 k n3:Nat)(r:List O):O:=.nd .tp<|os.set n1<|.nd .tp<|ps.set n2<|.nd .ls<|ds.set k<|.nd .tp<|dp.set n3<|.nd .ls r
def JF(y i n1 n2:Nat)(f:RS)(n3:Nat)(c:Int)(tt:TF):SF:=λas=>(f as).bind λk=>(Rn Yk as i).bind λos=>(YR Yk os n1).bind λps=>(YR vF ps n2).bind λds=>(YR Yk ds k.toNat).bind λdp=>(YR vF dp n3).bind λrows=>(YR vF rows 0).bind λinner=>
 if 0<=k/\inner.length<sizeLine/\Ag as y=true then
  (tt<|(E8<|as.set i<|some<|tF os ps ds dp n1 n2 k.toNat n3<|rows.set 0<|.nd .ls<|inner++[.lf true<|.int c]).set y<|some (O.nd .ls<|rows.set 0<|.nd .ls<|inner++[.lf true<|.int c]).frz).bind λp=>
   if p.1=true then some (.rt<|.lf true<|.bl false)else some (.nx<|as.set i<|some<|tF os ps ds dp n1 n2 k.toNat n3 [])
 else none
def C_{K:zzA}{kd:KD}{F B G:Addr->Prop}{H:Hp}{v:V}{o:O}{fp:List Addr}(h:xY K kd F B G H v o fp)(hg:∀a ∈ fp,¬F a/\¬B a):Rp K kd (Lv F B (Gw [] λ_=>[]) o.str) H v o.toD:=by
 have lv:∀st a,(o.str=true->st=true)->Lv F B (Gw [] λ_=>[]) o.str a->Lv F B G st a:=λst a hs z=>by
  rcases z with(z|z)|z
  . exact .inl<|.inl ⟨hs z.1,z.2⟩
  . exact .inl<|.inr z
  . exact(Qj z).elim
 exact Ro.rp o.str (λst v d hs r=>Rp.less (λa z=>lv st a hs z) r) (λa n z=>n<|lv true a (λ_=>rfl) z) (λz=>z) (λa m z=>by
  rcases z with(z|z)|z
  . exact(hg a m).1 z.2
  . exact(hg a m).2 z
  . exact Qj z) h
def TL{α:Type}{l:List α}{n:Nat}{a b:α}(h:l[n]? = some a):(l.set n b)[n]? = some b:=zyK (zzG.mp h).1
def Rel.putA{K:zzA}{kd:KD}{F B:Addr->Prop}{as:AS}{σ:St}{H:Hp}{v:V}{st:Bool}{d:D}{y:Nat}(R:Rel K kd F B [] (λ_=>[]) as σ H)(hy:y<as.length)(sy:σ[y]? = some (some v))(h:Rp K kd (Lv F B (Gw [] λ_=>[]) st) H v d):Rel K kd F B [] (λ_=>[]) (as.set y<|some<|.lf st d) σ H:=by
 have:=R.put (i:=y) (v:=v) (o:=.lf st d) hy<|.lf h;rw[show xO (λ_=>[]) y []=λ_=>([]:List Addr)from funext λj=>by
  by_cases e:j=y
  . subst e;exact zY
  . exact yb e]at this
 rwa [show σ.set y (some v)=σ from List.ext_getElem? λj=>by
  by_cases e:y=j
  . subst e;rw[zyK (zzG.mp sy).1,sy]
  . rw[zzY e]]at this
section
variable{X:Cx}{kd:KD}{y i n1 n2 n3:Nat}{f:RS}{c:Int}{tt:TF}{x z:Str}{p p1 p2 p3 p4 py pos0 q0 q1 r0 a1 c1' s1 a2 c2' s2 ip rp:Pos}{c1 c2 e3 c4 e0 ec et ef:Expr}
def JB(hN:X.N.Nodup)(hyi:X.N[y]? = some z)(hyl:Loc X.env.scope z)(hyf:X.fn z=true\/X.env.scope.names.lookup z=some .local)
 (ho:PE X (.Name x p) (Yi i)) (h1:PE X c1 (tC<|.int n1)) (x1:yZ c1) (h2:PE X c2 (tC<|.int n2)) (x2:yZ c2) (h3:AK X kd e3 f) (x3:yZ e3) (h4:PE X c4 (tC<|.int n3)) (x4:yZ c4)
 (hsw:swapsWith (.Subscript (.Subscript (.Subscript (.Subscript (.Name x p) c1 p1) c2 p2) e3 p3) c4 p4) (some<|.Name z py) pos0.line X.env=pure false)
 (ho2:PE X (.Name z q0) (Yi y)) (k0:PE X e0 (tC<|.int 0)) (x0:yZ e0)
 (b1:∀te,PE X (.Subscript (.Name z q0) e0 q1) te->PE X (.Call (.Attribute (.Subscript (.Name z q0) e0 q1) "append" a1) [ec] [] c1') (pG X.K c te)) (w1:swapsWith (.Call (.Attribute (.Subscript (.Name z q0) e0 q1) "append" a1) [ec] [] c1') none s1.line X.env=pure false)
 (ht:AT X kd et tt) (hf:PE X ef (tC<|.bl false)) (b2:PE X (.Call (.Attribute (.Name z r0) "clear" a2) [] [] c2') (sZ X.K<|Yi y)) (w2:swapsWith (.Call (.Attribute (.Name z r0) "clear" a2) [] [] c2') none s2.line X.env=pure false):
 Mw X kd [.Assign [.Name z py] (.Subscript (.Subscript (.Subscript (.Subscript (.Name x p) c1 p1) c2 p2) e3 p3) c4 p4) pos0,.Expr (.Call (.Attribute (.Subscript (.Name z q0) e0 q1) "append" a1) [ec] [] c1') s1,.If et [.Return (some ef) rp] [] ip,.Expr (.Call (.Attribute (.Name z r0) "clear" a2) [] [] c2') s2] (JF y i n1 n2 f n3 c tt):=by
 with_unfolding_all exact(RH (XU (MJ hN hyi hyl (vW Z3 (vW ZM (vW Z3 (vW Z3 ho h1 x1) h2 x2) h3 x3) h4 x4) hsw hyf)<|XU (YX (b1 _<|vW ZM ho2 k0 x0) w1)<|XU (Jd ht (RR<|OJ hf) Fw)<|RR<|YX b2 w2) λD σ H h=>by
  obtain⟨F,B,ad,as,o,R,e,q⟩:=h;obtain⟨k,j1,e⟩:=bS_<|show(f as).bind _=_ from e;obtain⟨os,e1,e⟩:=bS_ e;obtain⟨ps,e2,e⟩:=bS_ e;obtain⟨ds,e3,e⟩:=bS_ e;obtain⟨dp,e4,e⟩:=bS_ e;obtain⟨rows,e5,e⟩:=bS_ e;obtain⟨inner,e6,e⟩:=bS_ e;obtain⟨⟨k0,z1,hy⟩,e⟩:=ite_some' e;obtain⟨⟨bt,as9⟩,et,e⟩:=bS_ e;have hy:=Om hy;obtain⟨v,sv,ro,hn,hG,up⟩:=R.slotC<|Bj e1;obtain⟨l1,vs1,w1,f1,rfl,hH1,hv1,r1,m1,s1,up1⟩:=vA ro hn hG<|Ew e2;obtain⟨l2,vs2,w2,f2,rfl,hH2,hv2,r2,m2,s2,up2⟩:=vA r1 m1 (λa m=>hG a<|s1.subset m)<|RD e3;obtain⟨l3,vs3,w3,f3,rfl,hH3,hv3,r3,m3,s3,n3',up3⟩:=RW r2 m2 (λa m=>hG a<|s1.subset<|s2.subset m)<|Ew e4;obtain⟨l4,vs4,w4,f4,rfl,hH4,hv4,r4,m4,s4,up4⟩:=vA r3 m3 (λa m=>hG a<|s1.subset<|s2.subset<|s3.subset m)<|RD e5;have hG4:∀a ∈ f4,Gw [] ad a:=λa m=>hG a<|s1.subset<|s2.subset<|s3.subset<|s4.subset m;obtain⟨l5,vs5,w5,f5,rfl,hH5,hv5,r5,m5,s5,n5',up5⟩:=RW r4 m4 hG4<|RD e6;obtain⟨L,ivs,rfl,hL,hHL,hl,r6⟩:=Sf (c:=c) r5 m5 λa m=>hG4 a<|s5.subset m;obtain⟨g5,t5,r5'⟩:=up5 L _ _ _ hL (List.Sublist.refl _) r6;have hL5:=s5.subset hL;obtain⟨g4,t4,r4'⟩:=up4 L _ _ _ hL5 t5 r5';have hL4:=s4.subset hL5;obtain⟨g3,t3,r3'⟩:=up3 L _ _ _ hL4 t4 r4';have hL3:=s3.subset hL4;obtain⟨g2,t2,r2'⟩:=up2 L _ _ _ hL3 t3 r3';have hL2:=s2.subset hL3;obtain⟨g1,t1,r1'⟩:=up1 L _ _ _ hL2 t2 r2';obtain⟨R1,gr1⟩:=up L _ _ _ (s1.subset hL2) t1 r1';have yl:y<σ.length:=by rw[<-R.len];exact(zzG.mp hy).1
  have k1:=Bj e1;have niy:i≠y:=λe=>by subst e;rw[hy]at k1;cases k1
  have hy1:∀o:Option O,(as.set i o)[y]? = some none:=λo=>by rw[zzY niy];exact hy
  have Ra:=R.any (y:=y) (v:=some<|.ref l5) hy;have R1a:=R1.any (y:=y) (v:=some<|.ref l5)<|hy1 _;have sy:(σ.set y<|some<|.ref l5)[y]? = some (some<|.ref l5):=zyK yl;have sv':(σ.set y<|some<|.ref l5)[i]? = some (some<|.ref l1):=by rw[zzY<|Ne.symm niy];exact sv
  have pd:=C_ r5' λa m=>⟨(R.gtr a<|hG4 a<|t5.subset m).2,λb=>(R.btr a b).2.2<|hG4 a<|t5.subset m⟩;have Rt:=R1a.lendA.putA (y:=y) (by unfold E8;rw[zzB,zzU,R.len];exact yl) sy pd;refine⟨.ref l1,sv,l1,vs1,_,_,rfl,rfl,.inl<|.inl hH1,xk hv1,l2,vs2,_,_,rfl,rfl,.inl<|.inl hH2,xk hv2,F,B,ad,as,k,R,j1,l3,vs3,k,_,rfl,rfl,.inl<|.inl hH3,V1 k0 hv3,l4,vs4,_,_,rfl,rfl,.inl<|.inl hH4,xk hv4, ?_⟩;refine⟨.ref l5,sy,l5,vs5,_,.ref L,rfl,rfl,.inl<|.inl hH5,xk (j:=0) hv5,uW hHL,L,ivs,.int c,rfl,rfl,hHL,by rw[hl];exact z1, ?_⟩;refine⟨F,B,λ_=>[],_,bt,as9,Rt,et,λad' H' R' g=>?_⟩;obtain⟨R2,g2⟩:=R1a.more λb u hb=>g.keep b u hb Qj;have gg:=gr1.trans g2;cases bt with
  |true=>
   cases e;exact q _ [] H' ⟨zyJ,(λ_ z=>nomatch z),.lf<|.bl false⟩ (gg.trans (Grow.less λa z=>nomatch z))
  |false=>
   cases e;have keep:∀b u,H b=some u->b≠L->H' b=some u:=λb u hb n=>g.keep b u (by rw[zJ n];exact hb) Qj;have q1:H' l1=some (.tup vs1):=keep _ _ hH1 (λe=>by rw[e,hHL]at hH1;cases hH1);have q2:H' l2=some (.tup vs2):=keep _ _ hH2 (λe=>by rw[e,hHL]at hH2;cases hH2);have q3:H' l3=some (.lst vs3):=keep _ _ hH3 (λe=>n3'<|by rw[e];exact hL4);have q4:H' l4=some (.tup vs4):=keep _ _ hH4 (λe=>by rw[e,hHL]at hH4;cases hH4);obtain⟨u,su,qo,qn,qG,qup⟩:=R2.slotC<|TL k1;rw[sv']at su;cases su;obtain⟨a1,ws1,x1,y1,ea,hA1,hx1,ro1,nd1,sb1,cl1⟩:=vA qo qn qG<|TL<|Ew e2;cases ea;rw[q1]at hA1;cases hA1;rw[hv1]at hx1;cases hx1;obtain⟨a2,ws2,x2,y2,ea,hA2,hx2,ro2,nd2,sb2,cl2⟩:=vA ro1 nd1 (λa m=>qG a<|sb1.subset m)<|TL<|RD e3;cases ea;rw[q2]at hA2;cases hA2;rw[hv2]at hx2;cases hx2;obtain⟨a3,ws3,x3,y3,ea,hA3,hx3,ro3,nd3,sb3,_,cl3⟩:=RW ro2 nd2 (λa m=>qG a<|sb1.subset<|sb2.subset m)<|TL<|Ew e4;cases ea;rw[q3]at hA3;cases hA3;rw[hv3]at hx3;cases hx3;obtain⟨a4,ws4,x4,y4,ea,hA4,hx4,ro4,nd4,sb4,cl4⟩:=vA ro3 nd3 (λa m=>qG a<|sb1.subset<|sb2.subset<|sb3.subset m)<|TL<|RD e5;cases ea;rw[q4]at hA4;cases hA4;rw[hv4]at hx4;cases hx4;obtain⟨a5,jvs,ea,mL,sL,hHc,ro5⟩:=EC ro4;cases ea;obtain⟨b4,u4,r4''⟩:=cl4 l5 _ _ _ mL sL ro5;obtain⟨b3,u3,r3''⟩:=cl3 l5 _ _ _ (sb4.subset mL) u4 r4'';obtain⟨b2,u2,r2''⟩:=cl2 l5 _ _ _ (sb3.subset<|sb4.subset mL) u3 r3'';obtain⟨b1,u1,r1''⟩:=cl1 l5 _ _ _ (sb2.subset<|sb3.subset<|sb4.subset mL) u2 r2'';obtain⟨R3,g3'⟩:=qup l5 _ _ _ (sb1.subset<|sb2.subset<|sb3.subset<|sb4.subset mL) u1 r1'';simp only[List.set_set]at R3;exact⟨.ref l5,sy,uW hHc,l5,jvs,rfl,rfl,hHc,q _ _ _ R3<|gg.trans g3'⟩)
end
end PF
end
section
namespace G53
open PySem PySem.Spec PyProof.Rows L2 PF
abbrev zh:EF:=fV 1
abbrev zN:EF:=fC<|.int 0
abbrev zf:EF:=fV 0
abbrev yh:EF:=fC<|.int 2
abbrev zF:EF:=fC<|.int 1
abbrev zo:EF:=fV 2
abbrev y9:EF:=fC<|.int 4
abbrev Zs:GF:=gN 4
abbrev yc:EF:=fV 4
abbrev zA:EF:=fV 3
abbrev zH:GF:=gN 0
abbrev zr:=Wt .Add
abbrev yY:EF:=fV 5
abbrev VX:EF:=fC<|.int 5
abbrev x9:EF:=fV 6
abbrev xD:EF:=fV 7
abbrev yW:EF:=fV 11
abbrev zx:=Wt .Mod
abbrev zC:=Wt .Mult
abbrev Yd:EF:=fC<|.int 8
abbrev zQ:=Wt .FloorDiv
abbrev xU:EF:=fC<|.int 3
abbrev YC:=Wt .Sub
abbrev Vq:EF:=fC<|.int 6
abbrev Yc:AF:=aC (fV 3) aN
abbrev y8:AF:=aC (fV 0) aN
abbrev y6:AF:=aC (fV 1) aN
abbrev ZC:AF:=aC (fV 2) aN
abbrev BH:AF:=aC (fV 5) aN
abbrev CO:AF:=aC (fV 7) aN
abbrev Xq:List Str:=["algebra","join","nothing","a"]
def Yg:FnScope Xq ["algebra"] (zu wu):=ZX
def Y_:SF:=
 (zp (zy true 1<|f2 zf yh zg)
  (zp (zy true 2<|f2 zf xU zg)
  (zp (yS (z_ (aC (f2 zf zN zg) aN) ya) (gN 3)<|wG (YZ (fT<|f2 (f2 (f2 zh zo zg) zA zg) zA<|zB .NotEq)<|fT<|f2 (f2 (f2 zh zA zg) zo zg) zA<|zB .NotEq) (yi<|zX<|dC (fC<|.str "nothing")<|dC zA dN) vE)
  (yi<|fC .non))))
def v8:Fn:=v3 4 1 Y_
abbrev Xo:List Str:=["algebra","n","join","a","b","c"]
def Yb:FnScope Xo ["algebra"] (zu wo):=ZX
def Xi:SF:=
 (zp (zy true 1<|f2 zf zN zg)
  (zp (zy true 2<|f2 zf yh zg)
  (zp (yS (z_ y6 ya) (gN 3)<|yS (z_ y6 ya) Zs<|yS (z_ y6 ya) (gN 5)<|wG (fT<|f2 (f2 (f2 zo (f2 (f2 zo zA zg) yc zg) zg) yY zg) (f2 (f2 zo zA zg) (f2 (f2 zo yc zg) yY zg) zg)<|zB .NotEq) (yi<|zX<|dC (fC<|.str "parting")<|dC zA<|dC yc<|dC yY dN) vE)
  (yi<|fC .non))))
def v5:Fn:=v3 6 1 Xi
abbrev WY:List Str:=["algebra","name","rows","n","m","join","a","i","b","j"]
def X9:FnScope WY ["algebra","name","rows"] (zu vP):=ZX
def Va:SF:=
 (zp (zy true 3<|f2 zf zN zg)
  (zp (zy true 4<|f2 zf zF zg)
  (zp (zy true 5<|f2 zf yh zg)
  (zp (yS (z_ Yc ya) (gN 6)<|yS (z_ (aC yc aN) ya) (gN 7)<|yS (z_ Yc ya) (gN 8)<|yS (z_ (aC yc aN) ya) (gN 9)<|wG (fT<|f2 (f2 (f2 zo (f2 (f2 xD (fV 9) zr) yc zx) zg) (f2 (f2 yY x9 zg) (fV 8) zg) zg) (f2 (f2 yY (f2 (f2 zo xD zg) x9 zg) zg) (f2 (f2 zo (fV 9) zg) (fV 8) zg) zg)<|zB .NotEq) (yi<|zX<|dC (fC<|.str "doing")<|dC zh<|dC x9<|dC xD<|dC (fV 8)<|dC (fV 9) dN) vE)
  (yi<|fC .non)))))
def vN:Fn:=v3 10 3 Va
abbrev QA:List Str:=["algebra","nothing","name","rows","fault"]
def WW:FnScope QA ["algebra"] (zu Zh):=ZX
def V2:SF:=
 (zp (zy true 1<|f2 zf xU zg)
  (zp (yS (XA<|f2 zf y9 zg) (gT 2<|yC (gN 2)<|yC (gN 3) vI)<|zp (wG (fT<|f2 (f2 (f2 zA zN zg) zh zg) zh<|zB .NotEq) (yi<|zX<|dC (fC<|.str "empty")<|dC zo dN) vE)
  (zp (zy true 4<|zv (aC zf<|aC zo Yc) vN)
  (wG (fT<|f2 yc (fC .non)<|zB .IsNot) (yi yc) vE)))
  (yi<|fC .non)))
def YS:Fn:=v3 5 1 V2
abbrev Qd:List Str:=["algebra","fault"]
def WJ:FnScope Qd ["algebra"] (zu Zo):=ZX
def VW:SF:=
 (zp (zy true 1<|zv y8 v8)
  (zp (wG (fT<|f2 zh (fC .non)<|zB .Is) (zy true 1<|zv y8 v5) vE)
  (zp (wG (fT<|f2 zh (fC .non)<|zB .Is) (zy true 1<|zv y8 YS) vE)
  (yi zh))))
def wY:Fn:=v3 2 1 VW
abbrev X0:List Str:=["algebra","fault"]
def Y8:FnScope X0 ["algebra"] (zu wU):=ZX
def Zu:SF:=
 (zp (zy true 1<|zv y8 wY)
  (wG (fT<|f2 zh (fC .non)<|zB .IsNot) p8 vE))
def xt:Fn:=v3 2 1 Zu
abbrev UZ:List Str:=["algebra","join","places","found","name","rows"]
def VG:FnScope UZ ["algebra"] (zu ZS):=ZX
def U8:SF:=
 (zp (zy true 1<|f2 zf yh zg)
  (zp (zy true 2<|fP (aC (f2 zf zN zg) aN) CG)
  (zp (zy false 3<|f2 (zt (yA zo) [none,some 1] zH zK<|zX<|dC (zX<|dC (fC<|.str "left")<|dC zf dN)<|dC (f2 zh zf zg) dN) (zt (yA zo) [none,some 1] zH zK<|zX<|dC (zX<|dC (fC<|.str "right")<|dC zf dN)<|dC (zt (yA zh) [none,some 0] zH zK<|f2 zf zh zg) dN) zr)
  (zp (yS (XA<|f2 zf y9 zg) (gT 2<|yC Zs<|yC (gN 5) vI)<|ym<|yN 3 (dC (zt (Cw yY) [none,none,some 4] (gT 2<|yC zH<|yC (gN 1) vI) zK<|zX<|dC (zX<|dC (fC<|.str "deed")<|dC zo<|dC zf dN)<|dC zh dN) dN) Bu)
  (yi zA)))))
def ZD:Fn:=v3 6 1 U8
abbrev T6:List Str:=["keys","numbers","key"]
def Ul:FnScope T6 ["keys"] (zu Yq):=ZX
def PY:SF:=
 (zp (zy false 1 uZ)
  (zp (yS (XA zf) (gN 2)<|BB 1<|dC zo<|dC (fP y6 xN) dN)
  (yi<|zt (yA zf) [none,some 1] zH zK<|f2 zh zf rH)))
def vJ:Fn:=v3 3 1 PY
abbrev Pz:List Str:=["algebra","value"]
def Rk:FnScope Pz ["algebra","value"] (zu Y4):=ZX
def Tn:SF:=
 (yi<|fP (aC (zt (yA<|f2 zf VX zg) [none,none,some 1] (gT 2<|yC zH<|yC (gN 1) vI) zK<|f2 zo zh<|zB .In) aN) tupP)
def YL:Fn:=v3 2 2 Tn
abbrev xf:List Str:=["algebra","places","rows","numbers","finer"]
def yU:FnScope xf ["algebra"] (zu yO):=ZX
def Zz:(["step","row"]:List Str).Nodup:=by decide +kernel
def Vp:(["a","algebra"]:List Str).Nodup:=by decide +kernel
def Vh:(["a","numbers","rows"]:List Str).Nodup:=by decide +kernel
def VA:(["row","numbers","a"]:List Str).Nodup:=by decide +kernel
def Vr:(["a","numbers","rows"]:List Str).Nodup:=by decide +kernel
def Vk:(["row","numbers","a"]:List Str).Nodup:=by decide +kernel
def Xb:SF:=
 (zp (zy true 1<|fP (aC (f2 zf zN zg) aN) CG)
  (zp (zy true 2<|f2 (yK<|dC zh dN) (zt (yA<|zv y8 ZD) [none,none] (gT 2<|yC zH<|yC (gN 1) vI) zK zh) zr)
  (zp (zy false 3<|zv (aC (zt (yA zh) [none,some 0] zH zK<|zv (aC zh y8) YL) aN) vJ)
  (zp (zy false 4<|zv (aC (zt (yA zh) [none,some 3,some 2] zH zK<|fP (aC (zt (yA zo) [none,some 1,some 0] zH zK<|f2 zh (f2 zf zo zg) zg) aN) tupP) aN) vJ)
  (zp (B4 (fT<|f2 yc zA<|zB .NotEq) (zp (zy false 3<|FL 4)
  (zy false 4<|zv (aC (zt (yA zh) [none,some 3,some 2] zH zK<|fP (aC (zt (yA zo) [none,some 1,some 0] zH zK<|f2 zh (f2 zf zo zg) zg) aN) tupP) aN) vJ)) 10000)
  (yi zA))))))
def wx:Fn:=v3 5 1 Xb
abbrev xg:List Str:=["algebra","numbers","chosen","join","deeds","signs"]
def y7:FnScope xg ["algebra"] (zu yP):=ZX
def Vn:(["k","numbers"]:List Str).Nodup:=by decide +kernel
def Vx:(["a","numbers","chosen","algebra"]:List Str).Nodup:=by decide +kernel
def VC:(["b","numbers","a","algebra"]:List Str).Nodup:=by decide +kernel
def Zx:(["name","rows","numbers","chosen"]:List Str).Nodup:=by decide +kernel
def Vo:(["row","numbers","chosen"]:List Str).Nodup:=by decide +kernel
def VD:(["a","numbers","row"]:List Str).Nodup:=by decide +kernel
def Zt:(["name","values","numbers","chosen"]:List Str).Nodup:=by decide +kernel
def Vm:(["a","numbers","values"]:List Str).Nodup:=by decide +kernel
def Xc:SF:=
 (zp (ym<|zv y8 xt)
  (zp (zy false 1<|zv y8 wx)
  (zp (zy true 2<|zt (z_ (aC (fP y6 t9) aN) ya) [none,some 1] zH zK<|wN .lst zh y8 wF)
  (zp (zy false 3<|zt (yA zo) [none,some 1,some 2,some 0] zH zK<|zt (yA zo) [none,some 1,some 0,some 3] zH zK<|f2 zh (f2 (f2 (f2 zA yh zg) zo zg) zf zg) zg)
  (zp (zy false 4<|zt (yA<|f2 zf y9 zg) [none,none,some 1,some 2] (gT 2<|yC zH<|yC (gN 1) vI) zK<|zX<|dC zf<|dC (zt (yA zh) [none,some 2,some 3] zH zK<|zt (yA zo) [none,some 1,some 0] zH zK<|f2 zh (f2 zo zf zg) zg) dN)
  (zp (zy false 5<|zt (yA<|f2 zf VX zg) [none,none,some 1,some 2] (gT 2<|yC zH<|yC (gN 1) vI) zK<|zX<|dC zf<|dC (zt (yA zA) [none,some 2,some 1] zH (fT<|f2 zf zo<|zB .In)<|f2 zh zf zg) dN)
  (yi<|zX<|dC (zX<|dC (fP ZC xN)<|dC (f2 zf zF zg)<|dC (FL 3)<|dC (f2 zh (f2 zf xU zg) zg)<|dC (FL 4)<|dC (FL 5) dN)<|dC (FL 1) dN)))))))
def xh:Fn:=v3 6 1 Xc
abbrev W5:List Str:=["_law_script","_law_k"]
def XX:FnScope W5 ["_law_script","_law_k"] (zu vS):=ZX
def Wz:SF:=
 (zp (wG (fT<|f2 zh (fP y8 xN)<|zB .Lt) (yi<|f2 zf zh zg) vE)
  (yi zN))
def yg:Fn:=v3 2 2 Wz
abbrev QI:List Str:=["_law_cell","_law_many","_law_found","_law_number","_law_k"]
def W4:FnScope QI ["_law_cell","_law_many"] (zu Zk):=ZX
def VH:SF:=
 (zp (zy false 2<|yK dN)
  (zp (zy true 3<|f2 (f2 zf (fC<|.int 2147483647) zx) (fC<|.int 48271) zr)
  (zp (yS (z_ (aC (f2 zh zF zr) aN) ya) Zs<|zp (zy true 3<|f2 (f2 (f2 (f2 zA zA zC) (f2 (fC<|.int 48271) zA zC) zr) yc zr) (fC<|.int 2147483647) zx)
  (ym<|yN 2 (dC (f2 (f2 (f2 zA (fC<|.int 40692) zC) (f2 (fC<|.int 7) yc zC) zr) (fC<|.int 2147483399) zx) dN) yT))
  (yi<|v_ zo (oS zF) oN ZO))))
def yD:Fn:=v3 5 2 VH
abbrev U_:List Str:=["_law_cell","_law_many","_law_letters","_law_xs","_law_base","_law_at","_law_found","_law_k"]
def QD:FnScope U_ ["_law_cell","_law_many"] (zu ZI):=ZX
def UW:SF:=
 (zp (zy true 2<|fC<|.str "abcdefghijklmnopqrstuvwxyz")
  (zp (zy true 3<|zv (aC zf<|aC (fC<|.int 9) aN) yD)
  (zp (zy true 4<|wN .str (fC<|.str "") (aC (zt (yA<|v_ zA oN (oS<|f2 zF (f2 zf Yd zx) zr) ZO) [none,some 2] zH zK<|f2 zh (f2 zf (fC<|.int 26) zx) zg) aN) Fz)
  (zp (zy true 5<|f2 (f2 zf Yd zQ) (fP (aC yc aN) xN) zx)
  (zp (zy false 6<|yK dN)
  (zp (yS (z_ y6 ya) (gN 7)<|ym<|yN 6 (dC (f2 (f2 (v_ yc oN (oS yY) HW) (f2 zo (f2 (f2 (f2 zA Yd zg) (f2 xU xD zC) zr) (fC<|.int 26) zx) zg) zr) (v_ yc (oS<|f2 yY zF zr) oN HW) zr) dN) yT)
  (yi x9)))))))
def Xw:Fn:=v3 8 2 UW
abbrev Vb:List Str:=["_law_one","_law_other"]
def XE:FnScope Vb ["_law_one","_law_other"] (zu vT):=ZX
def W8:SF:=
 (zp (B4 (fT<|f2 zh zN<|zB .Gt) (OK 0 1<|dC zh<|dC (f2 zf zh zx) dN) 10000)
  (yi zf))
def Z8:Fn:=v3 2 2 W8
abbrev Tb:List Str:=["_law_n","_law_m","_law_xs","_law_step_here","_law_rows_here","_law_c"]
def U3:FnScope Tb ["_law_n","_law_m","_law_xs"] (zu YD):=ZX
def P8:SF:=
 (zp (zy true 3<|f2 zf (zv (aC zf y6) Z8) zQ)
  (zp (zy false 4<|yK dN)
  (zp (yS (z_ y6 ya) (gN 5)<|ym<|yN 4 (dC (zt (z_ y8 ya) [none,some 0,some 2,some 5,some 3] zH zK<|f2 (f2 (f2 zf (f2 zo zN zg) zC) (f2 (f2 zA yc zC) (f2 zo zF zg) zC) zr) zh zx) dN) yT)
  (yi yc))))
def Vv:Fn:=v3 6 3 P8
abbrev Qh:List Str:=["_law_n","_law_m","_law_xs","_law_row"]
def WV:FnScope Qh ["_law_n","_law_m","_law_xs"] (zu Zf):=ZX
def V9:SF:=
 (zp (zy false 3<|fP (aC (f2 (yK<|dC zN dN) (zt (z_ (aC (f2 zf zF YC) aN) ya) [none,some 0,some 2] zH zK<|f2 (f2 zo zf zg) zh zx) zr) aN) HJ)
  (zp (HI 3 (xC 0)<|xC 0)
  (yi<|zt (z_ y6 ya) [none,some 3] zH zK<|fP y6 lstP)))
def YE:Fn:=v3 4 3 V9
abbrev Gj:List Str:=["_law_n","_law_m","_law_xs","_law_row"]
def UC:FnScope Gj ["_law_n","_law_m","_law_xs"] (zu YY):=ZX
def Ti:SF:=
 (zp (zy true 3<|f2 (yK<|dC zN dN) (zt (z_ (aC (f2 zf zF YC) aN) ya) [none,some 2,some 0] zH zK<|f2 zF (f2 (f2 zh zf zg) (f2 zo zF YC) zx) zr) zr)
  (yi<|zt (z_ y6 ya) [none,some 3] zH zK<|fP y6 lstP))
def Vt:Fn:=v3 4 3 Ti
abbrev U6:List Str:=["_law_kind","_law_n","_law_maps"]
def V5:FnScope U6 ["_law_kind","_law_n"] (zu ZE):=ZX
def US:SF:=
 (zp (wG (fT<|f2 zf zN<|zB .Eq) (yi<|zt (z_ y6 ya) [none,some 1] zH zK<|zt (z_ y6 ya) [none,some 1,some 0] zH zK<|f2 (f2 zo zf zr) zh zx) vE)
  (zp (wG (fT<|f2 zf zF<|zB .Eq) (yi<|zt (z_ y6 ya) [none,some 1] zH zK<|zt (z_ y6 ya) [none,some 0] zH zK<|fP (aC zh y8) MP) vE)
  (zp (wG (fT<|f2 zf yh<|zB .Eq) (yi<|zt (z_ y6 ya) [none,some 1] zH zK<|zt (z_ y6 ya) [none,some 0] zH zK<|f2 (yK<|dC zf<|dC zh dN) (fP (aC (f2 zf zN<|zB .Eq) aN) Mj) zg) vE)
  (zp (wG (fT<|f2 zf xU<|zB .Eq) (yi<|zt (z_ y6 ya) [none,some 1] zH zK<|zt (z_ y6 ya) [none,some 0] zH zK<|f2 (yK<|dC zh<|dC zf dN) (fP (aC (f2 zh zN<|zB .Eq) aN) Mj) zg) vE)
  (zp (zy true 2<|yK<|dC (zX<|dC zN<|dC zF dN)<|dC (zX<|dC zF<|dC zN dN)<|dC (zX<|dC zN<|dC zN dN)<|dC (zX<|dC zF<|dC zF dN) dN)
  (yi<|zt (yA zo) [none,some 2] zH zK<|zt (yA zh) [none,some 1,some 0] zH zK<|wN .lst zh (aC (zX<|dC (f2 zf (f2 zo zN zg) zg)<|dC (f2 zf (f2 zo zF zg) zg) dN) aN) wF))))))
def ZG:Fn:=v3 3 2 US
abbrev P5:List Str:=["_law_kind","_law_n","_law_m","_law_xs"]
def UM:FnScope P5 ["_law_kind","_law_n","_law_m","_law_xs"] (zu YM):=ZX
def Td:SF:=
 (zp (wG (fT<|f2 zf zN<|zB .Eq) (yi<|zv (aC zh<|aC zo Yc) Vv) vE)
  (zp (wG (fT<|f2 zf zF<|zB .Eq) (yi<|zv (aC zh<|aC zo Yc) YE) vE)
  (zp (wG (fT<|f2 zf y9<|zB .Lt) (yi<|zv (aC zh<|aC zo Yc) Vt) vE)
  (yi<|zt (z_ ZC ya) [none,some 3] zH zK<|f2 (yK<|dC (yK<|dC zN<|dC zF<|dC yh<|dC xU dN)<|dC (yK<|dC zN<|dC zF<|dC xU<|dC yh dN) dN) (f2 (f2 zh zN zg) yh zx) zg))))
def Yz:Fn:=v3 4 4 Td
abbrev Rf:List Str:=["_law_kind","_law_n","_law_m","_law_many","_law_cell","_law_rows_here"]
def VS:FnScope Rf ["_law_kind","_law_n","_law_m","_law_many","_law_cell"] (zu ZW):=ZX
def Rc:SF:=
 (zp (zy true 5<|zt (z_ Yc ya) [none,some 0,some 1,some 2,some 4] zH zK<|zv (aC zh<|aC zo<|aC zA<|aC (zv (aC (f2 yc (f2 (fC<|.int 31) zf zC) zr)<|aC (fC<|.int 9) aN) yD) aN) Yz)
  (yi<|zX<|dC zh<|dC (zv (aC zf y6) ZG)<|dC yY dN))
def wJ:Fn:=v3 6 5 Rc
abbrev Qa:List Str:=["_law_one","_law_other","_law_m","_law_n","_law_by","_law_join","_law_p","_law_here","_law_there","_law_deeds","_law_rows_here","_law_c","_law_made_here","_law_ahead"]
def W7:FnScope Qa ["_law_one","_law_other","_law_m"] (zu Zd):=ZX
def QF:SF:=
 (zp (zy true 3<|f2 (f2 zf zN zg) (f2 zh zN zg) zC)
  (zp (zy true 4<|f2 zh zN zg)
  (zp (zy false 5<|yK dN)
  (zp (yS (z_ Yc ya) (gN 6)<|zp (zy true 7<|f2 (f2 zf zF zg) (f2 x9 yc zQ) zg)
  (zp (zy true 8<|f2 (f2 zh zF zg) (f2 x9 yc zx) zg)
  (ym<|yN 5 (dC (zt (z_ Yc ya) [none,some 4,some 8,some 7] zH zK<|f2 (f2 (f2 zA (f2 zf zh zQ) zg) zh zC) (f2 zo (f2 zf zh zx) zg) zr) dN) yT)))
  (zp (zy false 9<|yK dN)
  (zp (yS (FZ<|aC (f2 zf yh zg)<|aC (f2 zh yh zg) aN) (gT 2<|yC (gN 7)<|yC (gN 8) vI)<|zp (zy false 10<|yK dN)
  (zp (yS (z_ ZC ya) (gN 11)<|zp (zy false 12<|yK dN)
  (zp (yS (z_ Yc ya) (gN 6)<|zp (zy true 13<|f2 (f2 (f2 xD yW zg) (f2 x9 yc zQ) zg) yc zC)
  (ym<|yN 12 (dC (f2 (fV 13) (f2 (f2 (fV 8) yW zg) (f2 x9 yc zx) zg) zr) dN) yT))
  (ym<|yN 10 (dC (fV 12) dN) yT)))
  (ym<|yN 9 (dC (fV 10) dN) yT)))
  (yi<|zX<|dC zA<|dC yY<|dC (fV 9) dN)))))))
def YJ:Fn:=v3 14 3 QF
abbrev Pe:List Str:=["_law_cell","_law_m","_law_many","_law_xs","_law_kind","_law_sizes","_law_one","_law_n"]
def U5:FnScope Pe ["_law_cell","_law_m","_law_many"] (zu YA):=ZX
def Tf:SF:=
 (zp (zy true 3<|zv (aC zf<|aC VX aN) yD)
  (zp (zy true 4<|f2 (f2 zA zN zg) (fC<|.int 7) zx)
  (zp (wG (fT<|f2 yc y9<|zB .Gt) (zp (zy true 5<|f2 (yK<|dC (zX<|dC yh<|dC yh dN)<|dC (zX<|dC xU<|dC yh dN)<|dC (zX<|dC yh<|dC xU dN)<|dC (zX<|dC y9<|dC yh dN)<|dC (zX<|dC yh<|dC y9 dN)<|dC (zX<|dC yh<|dC yh dN) dN) (f2 (f2 zA zF zg) Vq zx) zg)
  (zp (zy true 6<|zv (aC (f2 (f2 zA yh zg) y9 zx)<|aC (f2 yY zN zg)<|aC zh<|aC zo<|aC (f2 zA xU zg) aN) wJ)
  (yi<|zv (aC x9<|aC (zv (aC (f2 (f2 zA y9 zg) y9 zx)<|aC (f2 yY zF zg)<|aC zh<|aC zo<|aC (f2 (f2 zA xU zg) (fC<|.int 7) zr) aN) wJ) y6) YJ))) vE)
  (zp (zy true 7<|f2 (yK<|dC yh<|dC xU<|dC y9<|dC VX<|dC xU<|dC y9<|dC Vq<|dC Yd dN) (f2 (f2 zA zF zg) Yd zx) zg)
  (zp (wG (WI (fT<|f2 yc zN<|zB .Eq)<|fT<|f2 (f2 (f2 zA yh zg) (fC<|.int 9) zx) zN<|zB .Eq) (zy true 7 zF) vE)
  (zp (wG (fT<|f2 yc y9<|zB .Eq) (zy true 7 y9) vE)
  (yi<|zv (aC yc<|aC xD<|aC zh<|aC zo<|aC (f2 zA xU zg) aN) wJ)))))))
def Vj:Fn:=v3 8 3 Tf
abbrev UY:List Str:=["_law_cell","_law_n","_law_left","_law_found","_law_x"]
def VR:FnScope UY ["_law_cell","_law_n"] (zu Z0):=ZX
def Uo:SF:=
 (zp (zy false 2<|fP y6 CG)
  (zp (zy false 3<|yK dN)
  (zp (yS (XA<|zv (aC zf y6) yD) Zs<|ym<|yN 3 (dC (yN 2 (dC (f2 yc (fP ZC xN) zx) dN) X3) dN) yT)
  (yi zA))))
def X6:Fn:=v3 5 2 Uo
abbrev UQ:List Str:=["_law_cell","_law_n","_law_names_here","_law_signs_here","_law_x","_law_name"]
def VJ:FnScope UQ ["_law_cell","_law_n","_law_names_here"] (zu ZH):=ZX
def UO:SF:=
 (zp (zy false 3<|yK dN)
  (zp (yS (FZ<|aC (zv (aC zf<|aC (fP ZC xN) aN) yD) ZC) (gT 2<|yC Zs<|yC (gN 5) vI)<|ym<|yN 3 (dC (zX<|dC yY<|dC (zt (z_ y6 ya) [none,some 4] zH (fT<|f2 (f2 (f2 zh (f2 (yK<|dC zF<|dC yh<|dC y9<|dC Yd<|dC (fC<|.int 16)<|dC (fC<|.int 32)<|dC (fC<|.int 64)<|dC (fC<|.int 128) dN) zf zg) zQ) yh zx) zF<|zB .Eq) zf) dN) dN) yT)
  (yi zA)))
def ZR:Fn:=v3 6 3 UO
abbrev Vc:List Str:=["_law_cell","_law_other","_law_ys","_law_m","_law_many","_law_n","_law_join","_law_deeds","_law_order_here","_law_back","_law_joins_here","_law_names_here","_law_told","_law_name","_law_rows_here","_law_signs_here"]
def Xv:FnScope Vc ["_law_cell","_law_other"] (zu vM):=ZX
def WG:SF:=
 (zp (zy true 2<|zv (aC zh<|aC Vq aN) yD)
  (zp (zy true 3<|f2 zF (f2 (f2 zo zN zg) Vq zx) zr)
  (zp (wG (fT<|f2 (f2 (f2 (f2 zo zN zg) Vq zQ) yh zx) zN<|zB .Eq) (zy true 3<|f2 zF (f2 (f2 (f2 zo zN zg) (fC<|.int 12) zQ) xU zx) zr) vE)
  (zp (zy true 4<|f2 (yK<|dC zF<|dC yh<|dC zN<|dC y9<|dC xU<|dC yh<|dC Vq<|dC VX dN) (f2 (f2 zo zF zg) Yd zx) zg)
  (zp (wG (fT<|f2 yc xU<|zB .Gt) (zy true 3<|f2 zF (f2 zA yh zx) zr) vE)
  (zp (XY (zv (aC zf<|aC zA<|aC yc aN) Vj)<|gT 3<|yC (gN 5)<|yC (gN 6)<|yC (gN 7) vI)
  (zp (zy true 8<|zv (aC (f2 zo yh zg) BH) X6)
  (zp (zy true 9<|zt (z_ BH ya) [none,some 8] zH zK<|wN .lst zh y8 wF)
  (zp (zy true 10<|zt (z_ BH ya) [none,some 8,some 5,some 6,some 9] zH zK<|zt (z_ ZC ya) [none,some 1,some 3,some 4,some 0] zH zK<|f2 zh (f2 (f2 zo (f2 zA yc zg) zg) (f2 zA zf zg) zg) zg)
  (zp (zy true 11<|zv (aC (f2 zo xU zg)<|aC (fC<|.int 10) aN) Xw)
  (zp (zy false 12<|yK dN)
  (zp (yS (FZ<|aC (v_ yW oN (oS Vq) ZO) CO) (gT 2<|yC (gN 13)<|yC (gN 14) vI)<|ym<|yN 12 (dC (zX<|dC (fV 13)<|dC (zt (yA<|fV 14) [none,some 8,some 5,some 9] zH zK<|zt (z_ ZC ya) [none,some 1,some 0,some 3] zH zK<|f2 zh (f2 zo (f2 zA zf zg) zg) zg) dN) dN) yT)
  (zp (zy true 15<|zv (aC (f2 zo y9 zg)<|aC yY<|aC (v_ yW (oS Vq) (oS<|f2 Vq (f2 (yK<|dC zF<|dC yh<|dC zF<|dC y9<|dC zN<|dC yh<|dC xU<|dC zF dN) (f2 (f2 zo VX zg) Yd zx) zg) zr) ZO) aN) ZR)
  (yi<|zX<|dC yY<|dC zA<|dC (fV 10)<|dC (f2 (fV 8) zN zg)<|dC (fV 12)<|dC (fV 15) dN))))))))))))))
def xJ:Fn:=v3 16 2 WG
abbrev Ge:List Str:=["_law_algebra_here","_law_cell","_law_n","_law_m","_law_join","_law_nothing","_law_deeds","_law_signs_here","_law_xs","_law_joins_here","_law_told","_law_way","_law_rows_here"]
def vV:FnScope Ge ["_law_algebra_here","_law_cell"] (zu YV):=ZX
def Tp:SF:=
 (zp (XY zf<|gT 6<|yC (gN 2)<|yC (gN 3)<|yC Zs<|yC (gN 5)<|yC (gN 6)<|yC (gN 7) vI)
  (zp (zy true 8<|zv (aC zh<|aC Yd aN) yD)
  (zp (zy false 9<|zt (yA yc) [none] zH zK<|fP y8 lstP)
  (zp (zy false 10<|zt (yA x9) [none,none] (gT 2<|yC zH<|yC (gN 1) vI) zK<|zX<|dC zf<|dC (zt (yA zh) [none] zH zK<|fP y8 lstP) dN)
  (zp (zy true 11<|f2 (f2 (fV 8) zN zg) Vq zx)
  (zp (wG (fT<|f2 yW zN<|zB .Eq) (zy true 5<|f2 (f2 (fV 8) zF zg) zo zx) vE)
  (zp (wG (YZ (fT<|f2 yW zF<|zB .Eq)<|fT<|f2 yW yh<|zB .Eq) (ND 9 (XM (Nl 8<|xC 2)<|xV 2) (XM (Nl 8<|xC 3)<|xV 2)<|XM (Nl 8<|xC 4)<|xV 2) vE)
  (zp (wG (WI (fT<|f2 yW yh<|zB .Gt)<|fT<|f2 (fV 10) (yK dN)<|zB .NotEq) (SQ 12 10 (XM (Nl 8<|xC 5)<|SA 10) 1 (XM (Nl 8<|xC 6)<|xV 3) (XM (Nl 8<|xC 7)<|xV 2)<|XM (Nl 8<|xC 4)<|xV 2) vE)
  (yi<|zX<|dC zo<|dC zA<|dC (fV 9)<|dC yY<|dC (fV 10)<|dC xD dN)))))))))
def Vs:Fn:=v3 13 2 Tp
abbrev QE:List Str:=["_law_cell","_law_base","_law_many","_law_found","_law_k"]
def WH:FnScope QE ["_law_cell","_law_base","_law_many"] (zu Zl):=ZX
def Qv:SF:=
 (zp (zy false 3<|yK dN)
  (zp (yS (z_ ZC ya) Zs<|zp (ym<|yN 3 (dC (f2 zf zh zx) dN) yT)
  (zy true 0<|f2 zf zh zQ))
  (yi zA)))
def Ys:Fn:=v3 5 3 Qv
abbrev Xn:List Str:=["_law_algebra_here","_law_cell","_law_n","_law_m","_law_join","_law_nothing","_law_deeds","_law_signs_here","_law_digits_here","_law_joins_here","_law_told","_law_k","_law_at"]
def Ye:FnScope Xn ["_law_algebra_here","_law_cell"] (zu wq):=ZX
def Y9:SF:=
 (zp (XY zf<|gT 6<|yC (gN 2)<|yC (gN 3)<|yC Zs<|yC (gN 5)<|yC (gN 6)<|yC (gN 7) vI)
  (zp (zy true 8<|zv (aC zh<|aC zo<|aC (f2 (f2 zF (f2 zo zo zC) zr) (f2 (f2 zo zA zC) (fP (aC x9 aN) xN) zC) zr) aN) Ys)
  (zp (zy true 9<|zt (z_ ZC ya) [none,some 8,some 2] zH zK<|v_ zh (oS<|f2 zF (f2 zo zf zC) zr) (oS<|f2 (f2 zF (f2 zo zf zC) zr) zo zr) ZO)
  (zp (zy false 10<|yK dN)
  (zp (yS (z_ (aC (fP (aC x9 aN) xN) aN) ya) (gN 11)<|zp (zy true 12<|f2 (f2 zF (f2 zo zo zC) zr) (f2 (f2 zo zA zC) yW zC) zr)
  (ym<|yN 10 (dC (zX<|dC (f2 (f2 x9 yW zg) zN zg)<|dC (zt (z_ Yc ya) [none,some 8,some 12,some 2] zH zK<|v_ zh (oS<|f2 zo (f2 zA zf zC) zr) (oS<|f2 (f2 zo (f2 zA zf zC) zr) zA zr) ZO) dN) dN) yT))
  (yi<|zX<|dC zo<|dC zA<|dC (fV 9)<|dC (f2 (fV 8) zN zg)<|dC (fV 10)<|dC xD dN))))))
def v9:Fn:=v3 13 2 Y9
abbrev G3:List Str:=["_law_script","_law_cell","_law_algebra_here"]
def PL:FnScope G3 ["_law_script"] (zu Wm):=ZX
def GZ:SF:=
 (zp (zy true 1<|zv (aC zf<|aC yh aN) yg)
  (zp (zy true 2<|zv (aC (zv (aC zf<|aC zN aN) yg)<|aC (zv (aC zf<|aC zF aN) yg) aN) xJ)
  (zp (wG (fT<|f2 (f2 zh yh zx) zF<|zB .Eq) (yi<|zv (aC zo<|aC (f2 zh yh zQ) aN) v9) vE)
  (yi<|zv (aC zo<|aC (f2 zh yh zQ) aN) Vs))))
def Ub:Fn:=v3 3 1 GZ
abbrev Wy:List Str:=["_law_n","_law_join","_law_nothing","_law_a","_law_b","_law_c"]
def X1:FnScope Wy ["_law_n","_law_join","_law_nothing"] (zu vR):=ZX
def Wx:SF:=
 (zp (yS (z_ y8 ya) (gN 3)<|wG (YZ (fT<|f2 (f2 (f2 zh zo zg) zA zg) zA<|zB .NotEq)<|fT<|f2 (f2 (f2 zh zA zg) zo zg) zA<|zB .NotEq) (yi<|zX<|dC (fC<|.str "nothing")<|dC zA dN) vE)
  (zp (yS (z_ y8 ya) (gN 3)<|yS (z_ y8 ya) Zs<|yS (z_ y8 ya) (gN 5)<|wG (fT<|f2 (f2 (f2 zh (f2 (f2 zh zA zg) yc zg) zg) yY zg) (f2 (f2 zh zA zg) (f2 (f2 zh yc zg) yY zg) zg)<|zB .NotEq) (yi<|zX<|dC (fC<|.str "parting")<|dC zA<|dC yc<|dC yY dN) vE)
  (yi<|fC .non)))
def Z5:Fn:=v3 6 3 Wx
abbrev UH:List Str:=["_law_n","_law_m","_law_join","_law_name","_law_rows_here","_law_p","_law_q","_law_a","_law_i","_law_b","_law_j","_law_made_here"]
def QG:FnScope UH ["_law_n","_law_m","_law_join","_law_name","_law_rows_here"] (zu ZL):=ZX
def UB:SF:=
 (zp (yS (z_ (aC (f2 zf zh zC) aN) ya) (gN 5)<|yS (z_ (aC (f2 zf zh zC) aN) ya) (gN 6)<|zp (XY (fP (aC yY y6) EK)<|gT 2<|yC (gN 7)<|yC (gN 8) vI)
  (zp (XY (fP (aC x9 y6) EK)<|gT 2<|yC (gN 9)<|yC (gN 10) vI)
  (zp (zy true 11<|f2 (f2 zo (f2 (f2 yc (fV 8) zg) xD zg) zg) (f2 (f2 yc (fV 10) zg) (fV 9) zg) zg)
  (wG (fT<|f2 (f2 (f2 yc (f2 (f2 (fV 8) (fV 10) zr) zh zx) zg) (f2 (f2 zo xD zg) (fV 9) zg) zg) yW<|zB .NotEq) (yi<|zX<|dC (fC<|.str "doing")<|dC zA<|dC xD<|dC (fV 8)<|dC (fV 9)<|dC (fV 10) dN) vE))))
  (yi<|fC .non))
def ZT:Fn:=v3 12 5 UB
abbrev Up:List Str:=["_law_algebra_here","_law_n","_law_m","_law_join","_law_nothing","_law_deeds","_law_signs_here","_law_found","_law_name","_law_rows_here"]
def VL:FnScope Up ["_law_algebra_here"] (zu ZZ):=ZX
def UL:SF:=
 (zp (XY zf<|gT 6<|yC (gN 1)<|yC (gN 2)<|yC (gN 3)<|yC Zs<|yC (gN 5)<|yC (gN 6) vI)
  (zp (zy true 7<|zv (aC zh<|aC zA<|aC yc aN) Z5)
  (zp (yS (XA yY) (gT 2<|yC (gN 8)<|yC (gN 9) vI)<|zp (wG (WI (fT<|f2 xD (fC .non)<|zB .Is)<|fT<|f2 (f2 (f2 (fV 9) zN zg) yc zg) yc<|zB .NotEq) (zy true 7<|zX<|dC (fC<|.str "empty")<|dC (fV 8) dN) vE)
  (wG (fT<|f2 xD (fC .non)<|zB .Is) (zy true 7<|zv (aC zh<|aC zo<|aC zA<|aC (fV 8)<|aC (fV 9) aN) ZT) vE))
  (yi xD))))
def wH:Fn:=v3 10 1 UL
abbrev Tu:List Str:=["_law_script","_law_some"]
def Re:FnScope Tu ["_law_script"] (zu YI):=ZX
def P0:SF:=
 (zp (zy true 1<|zv y8 Ub)
  (zp (wG (WI (fT<|f2 (f2 (zv (aC zf<|aC yh aN) yg) yh zx) zF<|zB .Eq)<|fT<|f2 (zv y6 wH) (fC .non)<|zB .Is) (yi zh) vE)
  (yi<|zv (aC (zv (aC zf<|aC zN aN) yg)<|aC (zv (aC zf<|aC zF aN) yg) aN) xJ)))
def Vu:Fn:=v3 2 1 P0
abbrev P7:List Str:=["_law_algebra_here","_law_step_here","_law_value","_law_name","_law_rows_here"]
def UX:FnScope P7 ["_law_algebra_here","_law_step_here","_law_value"] (zu YB):=ZX
def Tg:SF:=
 (zp (wG (fT<|f2 (f2 zh zN zg) (fC<|.str "left")<|zB .Eq) (yi<|f2 (f2 (f2 zf yh zg) (f2 zh zF zg) zg) zo zg) vE)
  (zp (wG (fT<|f2 (f2 zh zN zg) (fC<|.str "right")<|zB .Eq) (yi<|f2 (f2 (f2 zf yh zg) zo zg) (f2 zh zF zg) zg) vE)
  (zp (yS (XA<|f2 zf y9 zg) (gT 2<|yC (gN 3)<|yC Zs vI)<|wG (fT<|f2 zA (f2 zh zF zg)<|zB .Eq) (yi<|f2 (f2 yc (f2 zh yh zg) zg) zo zg) vE)
  (yi<|fC .non))))
def Zw:Fn:=v3 5 3 Tg
abbrev Uv:List Str:=["_law_algebra_here","_law_found","_law_x","_law_name","_law_rows_here"]
def VZ:FnScope Uv ["_law_algebra_here"] (zu ZY):=ZX
def Rb:SF:=
 (zp (zy true 1<|yK dN)
  (zp (yS (z_ (aC (f2 zf zN zg) aN) ya) (gN 2)<|zy true 1<|f2 zh (yK<|dC (zX<|dC (fC<|.str "left")<|dC zo dN)<|dC (zX<|dC (fC<|.str "right")<|dC zo dN) dN) zr)
  (zp (yS (XA<|f2 zf y9 zg) (gT 2<|yC (gN 3)<|yC Zs vI)<|zy true 1<|f2 zh (zt (z_ (aC (f2 zf zF zg) aN) ya) [none,some 3] zH zK<|zX<|dC (fC<|.str "deed")<|dC zh<|dC zf dN) zr)
  (yi zh))))
def XO:Fn:=v3 5 1 Rb
abbrev T_:List Str:=["_law_algebra_here","_law_value"]
def UD:FnScope T_ ["_law_algebra_here","_law_value"] (zu YW):=ZX
def PK:SF:=
 (yi<|fP (aC (zt (yA<|f2 zf VX zg) [none,none,some 1] (gT 2<|yC zH<|yC (gN 1) vI) zK<|f2 zo zh<|zB .In) aN) tupP)
def Y0:Fn:=v3 2 2 PK
abbrev XC:List Str:=["_law_keys","_law_known","_law_key"]
def Xm:FnScope XC ["_law_keys"] (zu wR):=ZX
def XW:SF:=
 (zp (zy false 1<|yK dN)
  (zp (yS (XA zf) (gN 2)<|wG (fT<|f2 zo zh<|zB .NotIn) (ym<|yN 1 (dC zo dN) yT) vE)
  (yi<|zt (yA zf) [none,some 1] zH zK<|wN .lst zh y8 wF)))
def xr:Fn:=v3 3 1 XW
abbrev QC:List Str:=["_law_algebra_here","_law_steps_here","_law_levels_here","_law_k","_law_last","_law_keys","_law_v"]
def WM:FnScope QC ["_law_algebra_here"] (zu Zg):=ZX
def V4:SF:=
 (zp (zy true 1<|zv y8 XO)
  (zp (zy false 2<|yK<|dC (Je<|zv (aC (zt (z_ (aC (f2 zf zN zg) aN) ya) [none,some 0] zH zK<|zv (aC zh y8) Y0) aN) xr) dN)
  (zp (yS (z_ (aC (f2 zf zN zg) aN) ya) (gN 3)<|zp (zy true 4<|f2 zo (f1 zF NI) zg)
  (zp (zy false 5<|yK dN)
  (zp (yS (z_ (aC (f2 zf zN zg) aN) ya) (gN 6)<|ym<|yN 5 (dC (Je<|f2 (zX<|dC (f2 yc x9 zg) dN) (fP (aC (zt (yA zh) [none,some 4,some 0,some 6] zH zK<|f2 zh (zv (aC zo<|aC zf Yc) Zw) zg) aN) tupP) zr) dN) yT)
  (ym<|yN 2 (dC (Je<|zv BH xr) dN) yT))))
  (yi zo))))
def w_:Fn:=v3 7 1 V4
abbrev Ko:List Str:=["_law_algebra_here","_law_cell","_law_n","_law_m","_law_join","_law_nothing","_law_deeds","_law_signs_here","_law_x","_law_values"]
def Py:FnScope Ko ["_law_algebra_here","_law_cell"] (zu Wh):=ZX
def GW:SF:=
 (zp (XY zf<|gT 6<|yC (gN 2)<|yC (gN 3)<|yC Zs<|yC (gN 5)<|yC (gN 6)<|yC (gN 7) vI)
  (zp (wG (YZ (fT<|f2 (f2 zh yh zx) zN<|zB .Eq)<|fT<|f2 xD (yK dN)<|zB .Eq) (yi zf) vE)
  (zp (zy true 8<|f2 (zv (aC zh<|aC zF aN) yD) zN zg)
  (zp (zy true 9<|zt (z_ ZC ya) [none,some 2,some 4,some 8] zH (fT<|f2 (f2 (f2 zo zf zg) (f2 zA zh zx) zg) (f2 (f2 zA Yd zQ) zh zx)<|zB .Eq) zf)
  (yi<|zX<|dC zo<|dC zA<|dC yc<|dC yY<|dC x9<|dC (yK<|dC (zX<|dC (f2 (f2 xD zN zg) zN zg)<|dC (fV 9) dN) dN) dN)))))
def QM:Fn:=v3 10 2 GW
abbrev Uz:List Str:=["_law_script"]
def Qb:FnScope Uz ["_law_script"] (zu ZQ):=ZX
def UI:SF:=
 (yi<|zv (aC (zv y8 Vu)<|aC (zv (aC zf<|aC y9 aN) yg) aN) QM)
def xS:Fn:=v3 1 1 UI
abbrev Ki:List Str:=["_law_algebra_here","_law_n","_law_m","_law_join","_law_nothing","_law_deeds","_law_signs_here","_law_numbers","_law_least","_law_joins_here","_law_told","_law_name","_law_rows_here","_law_held_here","_law_values"]
def TX:FnScope Ki ["_law_algebra_here"] (zu Wp):=ZX
def Kg:SF:=
 (zp (XY zf<|gT 6<|yC (gN 1)<|yC (gN 2)<|yC (gN 3)<|yC Zs<|yC (gN 5)<|yC (gN 6) vI)
  (zp (zy true 7<|f2 (zv y8 w_) (f1 zF NI) zg)
  (zp (zy true 8<|zt (z_ (aC (f2 (fP CO MP) zF zr) aN) ya) [none,some 7] zH zK<|wN .lst zh y8 wF)
  (zp (zy true 9<|zt (yA<|fV 8) [none,some 7,some 8,some 3] zH zK<|zt (yA zo) [none,some 1,some 3,some 0] zH zK<|f2 zh (f2 (f2 zo zA zg) zf zg) zg)
  (zp (zy false 10<|yK dN)
  (zp (yS (XA yY) (gT 2<|yC (gN 11)<|yC (gN 12) vI)<|ym<|yN 10 (dC (zX<|dC yW<|dC (zt (yA<|fV 12) [none,some 7,some 8] zH zK<|zt (yA zo) [none,some 1,some 0] zH zK<|f2 zh (f2 zo zf zg) zg) dN) dN) yT)
  (zp (zy false 13<|yK dN)
  (zp (yS (XA x9) (gT 2<|yC (gN 11)<|yC (gN 14) vI)<|ym<|yN 13 (dC (zX<|dC yW<|dC (zt (z_ (aC (fP (aC (fV 8) aN) xN) aN) ya) [none,some 14,some 8] zH (fT<|f2 (f2 zo zf zg) zh<|zB .In) zf) dN) dN) yT)
  (yi<|zX<|dC (zX<|dC (fP (aC (fV 8) aN) xN)<|dC zo<|dC (fV 9)<|dC (f2 xD yc zg)<|dC (fV 10)<|dC (fV 13) dN)<|dC xD dN)))))))))
def QL:Fn:=v3 15 1 Kg
abbrev Wv:List Str:=["_law_found","_law_due_here"]
def XH:FnScope Wv ["_law_found","_law_due_here"] (zu vL):=ZX
def WQ:SF:=
 (yi<|BU (SG zf "tuple")<|BU (f2 zf zh<|zB .Eq)<|f2 (fP y8 Nd) (fP y6 Nd)<|zB .Eq)
def xI:Fn:=v3 2 2 WQ
abbrev IG:List Str:=["_law_script","_law_algebra_here","_law_due_here","_law_found","_law_at","_law_k","_law_rows_here"]
def Vy:FnScope IG ["_law_script"] (zu Fv):=ZX
def Jq:SF:=
 (zp (zy true 1<|zv y8 xS)
  (zp (zy true 2<|zv (aC (zv y8 xS) aN) QL)
  (zp (zy false 3<|zv y6 xh)
  (zp (wG (Zq<|YZ (Mf<|fT<|zv (aC zA ZC) xI)<|fT<|f2 zh (zv y8 xS)<|zB .NotEq) (yi<|fC<|.bl false) vE)
  (zp (wG (Zq<|YZ (fT<|f2 (zv (aC (f2 zA zN zg) aN) wH) (fC .non)<|zB .IsNot)<|fT<|f2 (zv (aC (f2 zA zN zg) aN) wY) (fC .non)<|zB .IsNot) (yi<|fC<|.bl false) vE)
  (zp (zy true 4<|f2 (zv (aC zf<|aC xU aN) yg) (XR<|fP (aC (f2 (f2 zA zN zg) yh zg) aN) xN) zx)
  (zp (O7 3 0 2 (xV 4) 9)
  (zp (wG (Zq<|YZ (fT<|f2 (v_ (f2 (f2 zA zN zg) yh zg) oN (oS yc) ZO) (v_ (f2 (f2 zo zN zg) yh zg) oN (oS yc) ZO)<|zB .NotEq)<|fT<|f2 (v_ (f2 (f2 zA zN zg) yh zg) (oS<|f2 yc zF zr) oN ZO) (v_ (f2 (f2 zo zN zg) yh zg) (oS<|f2 yc zF zr) oN ZO)<|zB .NotEq) (yi<|fC<|.bl false) vE)
  (zp (wG (Zq<|fT<|f2 (v_ (f2 zA zN zg) (oS y9) oN ZO) (v_ (f2 zo zN zg) (oS y9) oN ZO)<|zB .NotEq) (yi<|fC<|.bl false) vE)
  (zp (yS (z_ (aC (XR<|fP (aC (f2 (f2 zA zN zg) y9 zg) aN) xN) aN) ya) (gN 5)<|JF 6 3 0 4 (xV 5) 1 9
  (YZ (fT<|f2 (v_ x9 (oS zF) oN ZO) (v_ (f2 (f2 (f2 (f2 zo zN zg) y9 zg) yY zg) zF zg) (oS zF) oN ZO)<|zB .NotEq)<|fT<|f2 (v_ (f2 (f2 zA zN zg) y9 zg) (oS<|f2 yY zF zr) oN ZO) (v_ (f2 (f2 zo zN zg) y9 zg) (oS<|f2 yY zF zr) oN ZO)<|zB .NotEq))
  (zp (OW 3 1)
  (zp (Cc 3 0 5)
  (yi<|BU (f2 zh (zv y8 xS)<|zB .Eq)<|zv (aC (zv y6 xh) ZC) xI)))))))))))))
def Kp:Fn:=v3 7 1 Jq
structure Fq(K:zzA)(mg:Str->Option Value)(x:Str)(st:Stmt)(f:Addr)(d:FuncData)(ps:List Str):Prop where
 F:Fun K x x st f d
 b:Binds K d ps []
 m:mg x=some (.ref f)
def ZV{P:Program}{w:World}{K:zzA}{mg:Str->Option Value}{base:Heap}{kd:KD}{x:Str}{st:Stmt}{f:Addr}{d:FuncData}{N ps:List Str}{k:Nat}{c:SF}(Q:Fq K mg x st f d ps)(S:FnScope N ps (zu st))
 (hb:∀(cdv:Value) (A:Around) (outer:List Env) (s:Shared) (H:Hp) (E:XK),Room k (A.deeper<|envOfC x (zu st) s.heap.objs.size f cdv)->Mw (Nw B3 P w K mg base N x (zu st) f cdv A outer s H E).nox kd (Y1 st) c):
 Co x P w K mg base kd (k+1) f d ps (v3 N.length ps.length c):=⟨uE Q.F S hb,Q.m,Q.F.kp,Q.b⟩
set_option genInjectivity false in
set_option genSizeOf false in
structure Adr where
 Y7:Addr
 Xa:FuncData
 Xg:Addr
 Xp:FuncData
 WB:Addr
 W6:FuncData
 Qo:Addr
 Qw:FuncData
 Qz:Addr
 VP:FuncData
 XF:Addr
 X8:FuncData
 U7:Addr
 Rh:FuncData
 Gi:Addr
 PX:FuncData
 TN:Addr
 To:FuncData
 Xh:Addr
 Xd:FuncData
 Y6:Addr
 Xk:FuncData
 WZ:Addr
 W9:FuncData
 NG:Addr
 NY:FuncData
 VU:Addr
 V7:FuncData
 Us:Addr
 Uq:FuncData
 WX:Addr
 W0:FuncData
 Pg:Addr
 Pr:FuncData
 VT:Addr
 Qx:FuncData
 Po:Addr
 Pd:FuncData
 Rg:Addr
 Uy:FuncData
 Th:Addr
 PB:FuncData
 UF:Addr
 U9:FuncData
 VM:Addr
 V8:FuncData
 TK:Addr
 Gg:FuncData
 Uk:Addr
 Ur:FuncData
 Rj:Addr
 UV:FuncData
 WL:Addr
 Vg:FuncData
 Tr:Addr
 T9:FuncData
 Qi:Addr
 Qr:FuncData
 Xf:Addr
 Xj:FuncData
 G_:Addr
 Ka:FuncData
 WU:Addr
 WK:FuncData
 UA:Addr
 Uu:FuncData
 Uw:Addr
 UG:FuncData
 Pf:Addr
 Tw:FuncData
 Pn:Addr
 PN:FuncData
 UK:Addr
 U0:FuncData
 P_:Addr
 P2:FuncData
 XS:Addr
 XJ:FuncData
 V_:Addr
 Qs:FuncData
 G2:Addr
 Kn:FuncData
 UN:Addr
 UP:FuncData
 GY:Addr
 Kc:FuncData
 Ve:Addr
 Vd:FuncData
 I_:Addr
 Jh:FuncData
structure Txt(K:zzA)(kd:KD)(mg:Str->Option Value)(t:Adr):Prop where
 Ry:Fq K mg "nothing_fails" wu t.Y7 t.Xa ["algebra"]
 RF:Fq K mg "parting_fails" wo t.Xg t.Xp ["algebra"]
 GM:Fq K mg "doing_fails" vP t.WB t.W6 ["algebra","name","rows"]
 Lg:Fq K mg "deeds_fail" Zh t.Qo t.Qw ["algebra"]
 L3:Fq K mg "what_fails" Zo t.Qz t.VP ["algebra"]
 Tj:Fq K mg "check_let_by" wU t.XF t.X8 ["algebra"]
 NA:Fq K mg "all_steps" ZS t.U7 t.Rh ["algebra"]
 M4:Fq K mg "numbered" Yq t.Gi t.PX ["keys"]
 En:Fq K mg "signs_of" Y4 t.TN t.To ["algebra","value"]
 Ru:Fq K mg "class_numbers" yO t.Xh t.Xd ["algebra"]
 Rv:Fq K mg "least_algebra" yP t.Y6 t.Xk ["algebra"]
 GE:Fq K mg "_law_cell_at" vS t.WZ t.W9 ["_law_script","_law_k"]
 IR:Fq K mg "_law_whole" Xx t.NG t.NY ["_law_found"]
 KW:Fq K mg "_law_stream" Zk t.VU t.V7 ["_law_cell","_law_many"]
 N5:Fq K mg "_law_names" ZI t.Us t.Uq ["_law_cell","_law_many"]
 GG:Fq K mg "_law_divisor" vT t.WX t.W0 ["_law_one","_law_other"]
 ES:Fq K mg "_law_sums" YD t.Pg t.Pr ["_law_n","_law_m","_law_xs"]
 L_:Fq K mg "_law_rising" Zf t.VT t.Qx ["_law_n","_law_m","_law_xs"]
 Ef:Fq K mg "_law_kept" YY t.Po t.Pd ["_law_n","_law_m","_law_xs"]
 Nm:Fq K mg "_law_joins" ZE t.Rg t.Uy ["_law_kind","_law_n"]
 ED:Fq K mg "_law_rows" YM t.Th t.PB ["_law_kind","_law_n","_law_m","_law_xs"]
 Nj:Fq K mg "_law_plain" ZW t.UF t.U9 ["_law_kind","_law_n","_law_m","_law_many","_law_cell"]
 LB:Fq K mg "_law_beside" Zd t.VM t.V8 ["_law_one","_law_other","_law_m"]
 EN:Fq K mg "_law_made" YA t.TK t.Gg ["_law_cell","_law_m","_law_many"]
 Mu:Fq K mg "_law_order" Z0 t.Uk t.Ur ["_law_cell","_law_n"]
 N_:Fq K mg "_law_signs" ZH t.Rj t.UV ["_law_cell","_law_n","_law_names_here"]
 GQ:Fq K mg "_law_algebra" vM t.WL t.Vg ["_law_cell","_law_other"]
 EH:Fq K mg "_law_bent" YV t.Tr t.T9 ["_law_algebra_here","_law_cell"]
 KM:Fq K mg "_law_digits" Zl t.Qi t.Qr ["_law_cell","_law_base","_law_many"]
 RB:Fq K mg "_law_by_digits" wq t.Xf t.Xj ["_law_algebra_here","_law_cell"]
 BO:Fq K mg "_law_any" Wm t.G_ t.Ka ["_law_script"]
 Gv:Fq K mg "_law_parting" vR t.WU t.WK ["_law_n","_law_join","_law_nothing"]
 NV:Fq K mg "_law_doing" ZL t.UA t.Uu ["_law_n","_law_m","_law_join","_law_name","_law_rows_here"]
 Md:Fq K mg "_law_fails" ZZ t.Uw t.UG ["_law_algebra_here"]
 Ej:Fq K mg "_law_good" YI t.Pf t.Tw ["_law_script"]
 My:Fq K mg "_law_step" YB t.Pn t.PN ["_law_algebra_here","_law_step_here","_law_value"]
 NZ:Fq K mg "_law_steps" ZY t.UK t.U0 ["_law_algebra_here"]
 MQ:Fq K mg "_law_held" YW t.P_ t.P2 ["_law_algebra_here","_law_value"]
 PR:Fq K mg "_law_numbered" wR t.XS t.XJ ["_law_keys"]
 LG:Fq K mg "_law_levels" Zg t.V_ t.Qs ["_law_algebra_here"]
 Bw:Fq K mg "_law_few" Wh t.G2 t.Kn ["_law_algebra_here","_law_cell"]
 Mp:Fq K mg "_law_drawn" ZQ t.UN t.UP ["_law_script"]
 BS:Fq K mg "_law_due" Wp t.GY t.Kc ["_law_algebra_here"]
 GN:Fq K mg "_law_told_so" vL t.Ve t.Vd ["_law_found","_law_due_here"]
 tZ:Fq K mg "law" Fv t.I_ t.Jh ["_law_script"]
 Az:mg "bool"=none
 HE:mg "divmod"=none
 N4:mg "enumerate"=none
 IW:mg "int"=none
 Yx:mg "isinstance"=none
 UJ:mg "len"=none
 MT:mg "list"=none
 tH:mg "max"=none
 We:mg "range"=none
 Aq:mg "repr"=none
 I0:mg "set"=none
 SN:mg "sorted"=none
 RP:mg "tuple"=none
 uV:mg "zip"=none
set_option maxHeartbeats 8000000
section
variable{P:Program}{w:World}{K:zzA}{mg:Str->Option Value}{base:Heap}{kd:KD}{t:Adr}
local macro_rules | `(tactic| trivial)=>do let T:=Lean.mkIdent `T;let h:=Lean.mkIdent `hkd;let r:=Lean.mkIdent `hr;`(tactic| first|(show AE _ _ _ _;first|exact av _|exact aI|(refine ax $h ?_ ?_<;>trivial)|(refine bn ?_ ?_<;>trivial)|exact aS|exact aZ|exact aB|(refine ec $h $r ?_ ?_<;>trivial)|(refine ec $h $r ?_ ?_ (hm:=rfl)<;>trivial)|(refine cq (by assumption) $r ?_<;>trivial)|(refine QU ?_;trivial)|(refine Eb ?_;trivial)|(refine cm ?_ ?_ ?_ ?_<;>trivial)|(refine xT ?_ ?_ ?_<;>trivial)|(refine B0 ?_ ?_ ?_<;>trivial)|(refine bi (Wr ($h _ rfl rfl rfl)) (Txt.UJ $T) Bt.len ?_;trivial)|(refine bi (Be rfl) (Txt.tH $T) Bt.max ?_;trivial)|(refine bi (EU ($r).gd (KA $r)) (Txt.Aq $T) Bt.repr ?_;trivial)|(refine bi MC (Txt.SN $T) Bt.sorted ?_;trivial)|(refine bi Bp (Txt.HE $T) Bt.divmod ?_;trivial)|(refine tm MY (Txt.IW $T) Bt.int ?_;trivial)|(refine MN ($h _ rfl rfl rfl) rfl rfl (Txt.Yx $T) Bt.isinstance rfl (Txt.IW $T) Bt.int ?_ (Bt.n _ rfl) (by decide) (Bt.n _ rfl) (by decide) rfl rfl rfl;trivial)|(refine tm Ud (Txt.RP $T) Bt.tuple ?_;trivial)|(refine MN ($h _ rfl rfl rfl) rfl rfl (Txt.Yx $T) Bt.isinstance rfl (Txt.RP $T) Bt.tuple ?_ (Bt.n _ rfl) (by decide) (Bt.n _ rfl) (by decide) rfl rfl rfl;trivial)|(refine tm Bc (Txt.MT $T) Bt.list ?_;trivial)|(refine MN ($h _ rfl rfl rfl) rfl rfl (Txt.Yx $T) Bt.isinstance rfl (Txt.Az $T) Bt.bool ?_ (Bt.n _ rfl) (by decide) (Bt.n _ rfl) (by decide) rfl rfl rfl;trivial)|(refine Kl rfl rfl (Txt.We $T) rfl (Txt.MT $T) ?_ rfl rfl;trivial)|(refine GV rfl rfl (Txt.I0 $T) rfl (Txt.UJ $T) ?_ rfl rfl;trivial)|(refine ae_not ?_;trivial)|(refine uk qH ?_;trivial)|(refine S0 ?_ ?_<;>trivial)|(refine Sw ?_;trivial)|(refine IC (uh (IX $r)) ?_ ?_ (λ_ _=>rfl)<;>trivial)|exact AC|exact ae_d0|(refine EO Q6 De PySem.F.slot_list_append PySem.F.type_list_append (pv _) ?_ rfl rfl rfl rfl rfl;trivial)|(refine EO HC H0 PySem.F.slot_list_pop PySem.F.type_list_pop (pv _) ?_ rfl rfl rfl rfl rfl;trivial)|(refine EO BE Jw PySem.F.slot_list_extend PySem.F.type_list_extend (pv _) ?_ rfl rfl rfl rfl rfl;trivial)|(refine K1 (ty:=.str) ($h _ rfl rfl rfl) Cn PySem.F.plainAttrs_str PySem.F.slot_str_join PySem.F.type_str_join ?_ ?_ rfl rfl rfl rfl rfl<;>trivial)|(refine K1 (ty:=.lst) ($h _ rfl rfl rfl) (NW ($h _ rfl rfl rfl) (KA $r)) PySem.F.plainAttrs_list PySem.F.slot_list_index PySem.F.type_list_index ?_ ?_ rfl rfl rfl rfl rfl<;>trivial)|(refine tq ?_;trivial)|exact GS (pv _))|(show AA _ _ _ _;first|(refine bc ?_ ?_<;>trivial)|exact yL)|exact xQ|(refine Fi ?_;trivial)|(intro _;trivial)|(show Pp _ _ _ _;first|(refine oV (by assumption) ?_ ?_ ?_ ?_<;>trivial)|(refine Av (IX $r) (pv _) ?_ rfl rfl rfl rfl rfl rfl;trivial)|(refine YQ ?_;trivial)|(refine GX ?_ ?_ ?_<;>trivial)|(refine oG ?_ ?_ ?_<;>trivial)|(refine NL PassesOwn.never ?_ ?_<;>trivial)|(refine E6 ?_ rfl;trivial)|(refine sv _ _ (by assumption) ?_;trivial)|(refine Af rfl (by assumption) rfl rfl (by decide) rfl rfl ?_ rfl rfl;trivial)|(refine qf ?_ ?_<;>trivial)|(refine Cb (pv _) ?_ ?_ (λ_=>rfl) rfl rfl rfl<;>trivial)|(refine CA (pv _) ?_ (λ_ _=>rfl) ?_ ?_ (λ_=>rfl) rfl rfl rfl<;>trivial)|exact se)|(show Mw _ _ _ _;first|(refine sj _ (by assumption) ?_ ?_<;>trivial)|(refine yI ?_ ?_<;>trivial)|(refine vQ ?_;trivial)|exact X_)|(show AT _ _ _ _;first|(refine tc $h $r ?_ ?_<;>trivial)|(refine tc $h $r ?_ ?_ (hm:=rfl)<;>trivial)|(refine HZ ?_;trivial)|(refine Hv ?_ (λ_=>rfl);trivial)|(refine AW.at_ ?_;trivial))|(show AD _ _ _ _;first|(refine bd ?_ ?_<;>trivial)|exact XZ)|(show AO _ _ _ _;first|(refine vC ?_;trivial)|exact wO)|(show AG _ _ _ _ _;first|exact an _ (by assumption)|exact an _ (oi (by kernel_rfl))|(refine P1 rfl ?_ rfl rfl;trivial))|(show Jb _ _ _ _ _;first|(refine oP ?_ ?_<;>trivial)|exact V0)|(show D9 _ _ _ _;first|exact rV _ (by assumption)|(refine qd ?_;trivial))|(show Ov _ _ _ _;first|(refine rf ?_ ?_<;>trivial)|exact qt)|(show Ja _ _ _ _ _;first|(refine Kd rfl (Txt.We $T) ?_ rfl;trivial)|(refine O4 rfl (Txt.N4 $T) ?_ rfl;trivial)|(refine vB ?_;trivial))|(show AI _ _ _ _ _;first|(refine G0 rfl (Txt.We $T) ?_ rfl;trivial)|(refine AB rfl (Txt.uV $T) ?_ rfl rfl;trivial)|(refine Jz ?_;trivial))|(show AW _ _ _ _;first|(refine Ng ?_ ?_<;>trivial)|(refine HK ?_ ?_<;>trivial)|(refine Ym ?_;trivial)|(refine Gb ?_;trivial))|(show AK _ _ _ _;first|exact PD|exact Q2 (pv _)|(refine Mq (pv _) ?_ (λ_ _=>rfl);trivial)|(refine Gf ?_ ?_<;>trivial)|exact HM rfl (Txt.UJ $T) Bt.len (pv _) rfl rfl))
def RG(T:Txt K kd mg t)(hkd:Zi P w K kd):Co "nothing_fails" P w K mg base kd 1 t.Y7 t.Xa ["algebra"] v8:=by
 refine ZV (N:=Xq) (k:=0) (c:=Y_) T.Ry Yg λ_ _ _ _ _ _ hr=>?_;have:=Yg.nd;conv=>arg 3;whnf
 trivial
def Rz(T:Txt K kd mg t)(hkd:Zi P w K kd):Co "parting_fails" P w K mg base kd 1 t.Xg t.Xp ["algebra"] v5:=by
 refine ZV (N:=Xo) (k:=0) (c:=Xi) T.RF Yb λ_ _ _ _ _ _ hr=>?_;have:=Yb.nd;conv=>arg 3;whnf
 trivial
def Gy(T:Txt K kd mg t)(hkd:Zi P w K kd):Co "doing_fails" P w K mg base kd 1 t.WB t.W6 ["algebra","name","rows"] vN:=by
 refine ZV (N:=WY) (k:=0) (c:=Va) T.GM X9 λ_ _ _ _ _ _ hr=>?_;have:=X9.nd;conv=>arg 3;whnf
 trivial
def K0(T:Txt K kd mg t)(hkd:Zi P w K kd):Co "deeds_fail" P w K mg base kd 2 t.Qo t.Qw ["algebra"] YS:=by
 refine ZV (N:=QA) (k:=1) (c:=V2) T.Lg WW λ_ _ _ _ _ _ hr=>?_;have:=WW.nd;have:=Gy (base:=base) T hkd;conv=>arg 3;whnf
 trivial
def Qn(T:Txt K kd mg t)(hkd:Zi P w K kd):Co "what_fails" P w K mg base kd 3 t.Qz t.VP ["algebra"] wY:=by
 refine ZV (N:=Qd) (k:=2) (c:=VW) T.L3 WJ λ_ _ _ _ _ _ hr=>?_;have:=WJ.nd;have:=RG (base:=base) T hkd;have:=Rz (base:=base) T hkd;have:=K0 (base:=base) T hkd;conv=>arg 3;whnf
 trivial
def Tz(T:Txt K kd mg t)(hkd:Zi P w K kd):Co "check_let_by" P w K mg base kd 4 t.XF t.X8 ["algebra"] xt:=by
 refine ZV (N:=X0) (k:=3) (c:=Zu) T.Tj Y8 λ_ _ _ _ _ _ hr=>?_;have:=Y8.nd;have:=Qn (base:=base) T hkd;conv=>arg 3;whnf
 trivial
def NU(T:Txt K kd mg t)(hkd:Zi P w K kd):Co "all_steps" P w K mg base kd 1 t.U7 t.Rh ["algebra"] ZD:=by
 refine ZV (N:=UZ) (k:=0) (c:=U8) T.NA VG λ_ _ _ _ _ _ hr=>?_;have:=VG.nd;conv=>arg 3;whnf
 trivial
def VE(T:Txt K kd mg t)(hkd:Zi P w K kd):Co "numbered" P w K mg base kd 1 t.Gi t.PX ["keys"] vJ:=by
 refine ZV (N:=T6) (k:=0) (c:=PY) T.M4 Ul λ_ _ _ _ _ _ hr=>?_;have:=Ul.nd;conv=>arg 3;whnf
 trivial
def MI(T:Txt K kd mg t)(hkd:Zi P w K kd):Co "signs_of" P w K mg base kd 1 t.TN t.To ["algebra","value"] YL:=by
 refine ZV (N:=Pz) (k:=0) (c:=Tn) T.En Rk λ_ _ _ _ _ _ hr=>?_;have:=Rk.nd;conv=>arg 3;whnf
 trivial
def RC(T:Txt K kd mg t)(hkd:Zi P w K kd):Co "class_numbers" P w K mg base kd 2 t.Xh t.Xd ["algebra"] wx:=by
 refine ZV (N:=xf) (k:=1) (c:=Xb) T.Ru yU λcdv A outer s H E hr=>?_;exact(by
  refine sj 1 yU.nd ?_ ?_;exact(Kl rfl rfl T.We rfl T.MT (bc (ax hkd (av 0) aI) yL) rfl rfl);refine sj 2 yU.nd ?_ ?_;exact(bn (Eb<|bd (av 1) XZ)<|wt (N:=["step","row"]) (cap:=[none,none]) (S:=[0,1]) rfl (vB<|cq (NU T hkd) hr<|bc (av 0) yL) rfl (by change Za _ xf _ (zu yO).names _=true;decide +kernel) (by decide) (λcl s H fp=>(P1 rfl (vX (an 0 Zz) (vX (an 1 Zz) V0 rfl) rfl) rfl rfl)) (λcl s H fp=>xQ) (λcl s H fp=>(av 1)) λ_=>rfl);refine sj 3 yU.nd ?_ ?_;exact(cq (VE T hkd) hr<|bc (wt (N:=["a","algebra"]) (cap:=[none,some 0]) (S:=[0]) rfl (vB<|av 1) rfl (by change Za _ xf _ (zu yO).names _=true;decide +kernel) (by decide) (λcl s H fp=>(an 0 Vp)) (λcl s H fp=>xQ) (λcl s H fp=>(cq (MI T hkd) hr<|bc (av 1)<|bc (av 0) yL)) λ_=>rfl) yL);refine sj 4 yU.nd ?_ ?_;exact(cq (VE T hkd) hr<|bc (wt (N:=["a","numbers","rows"]) (cap:=[none,some 3,some 2]) (S:=[0]) rfl (vB<|av 1) rfl (by change Za _ xf _ (zu yO).names _=true;decide +kernel) (by decide) (λcl s H fp=>(an 0 Vh)) (λcl s H fp=>xQ) (λcl s H fp=>(tm Ud T.RP Bt.tuple<|bc (wt (N:=["row","numbers","a"]) (cap:=[none,some 1,some 0]) (S:=[0]) rfl (vB<|av 2) rfl (by with_unfolding_all rfl) (by decide) (λcl s H fp=>(an 0 VA)) (λcl s H fp=>xQ) (λcl s H fp=>(ax hkd (av 1)<|ax hkd (av 0)<|av 2)) λ_=>rfl) yL)) λ_=>rfl) yL);refine yI ?_ ?_;exact(NL (n:=10000) PassesOwn.never (tc hkd hr (av 4)<|av 3)<|by
  refine sj 3 yU.nd ?_ ?_;exact(GS<|pv 4);exact vQ<|by refine sv false 4 yU.nd ?_;exact(cq (VE T hkd) hr<|bc (wt (N:=["a","numbers","rows"]) (cap:=[none,some 3,some 2]) (S:=[0]) rfl (vB<|av 1) rfl (by change Za _ xf _ (zu yO).names _=true;decide +kernel) (by decide) (λcl s H fp=>(an 0 Vr)) (λcl s H fp=>xQ) (λcl s H fp=>(tm Ud T.RP Bt.tuple<|bc (wt (N:=["row","numbers","a"]) (cap:=[none,some 1,some 0]) (S:=[0]) rfl (vB<|av 2) rfl (by with_unfolding_all rfl) (by decide) (λcl s H fp=>(an 0 Vk)) (λcl s H fp=>xQ) (λcl s H fp=>(ax hkd (av 1)<|ax hkd (av 0)<|av 2)) λ_=>rfl) yL)) λ_=>rfl) yL))
  exact vQ<|YQ<|av 3)
def Xl(T:Txt K kd mg t)(hkd:Zi P w K kd):Co "least_algebra" P w K mg base kd 5 t.Y6 t.Xk ["algebra"] xh:=by
 refine ZV (N:=xg) (k:=4) (c:=Xc) T.Rv y7 λcdv A outer s H E hr=>?_;exact(by
  refine yI ?_ ?_;exact(E6 (cq (Tz T hkd) hr<|bc (av 0) yL) rfl);refine sj 1 y7.nd ?_ ?_;exact(cq (RC T hkd) hr<|bc (av 0) yL);refine sj 2 y7.nd ?_ ?_;exact(wt (N:=["k","numbers"]) (cap:=[none,some 1]) (S:=[0]) rfl (Kd rfl T.We (bc (GV rfl rfl T.I0 rfl T.UJ (bc (av 1) yL) rfl rfl) yL) rfl) rfl (by change Za _ xg _ (zu yP).names _=true;decide +kernel) (by decide) (λcl s H fp=>(an 0 Vn)) (λcl s H fp=>xQ) (λcl s H fp=>(K1 (ty:=.lst) (hkd _ rfl rfl rfl) (NW (hkd _ rfl rfl rfl)<|KA hr) PySem.F.plainAttrs_list PySem.F.slot_list_index PySem.F.type_list_index (av 1) (bc (av 0) yL) rfl rfl rfl rfl rfl)) λ_=>rfl);refine yI ?_ ?_;exact(RO (z:=false) (i:=3) (N:=["a","numbers","chosen","algebra"]) (cap:=[none,some 1,some 2,some 0]) (S:=[0]) y7.nd rfl (by exact Or.inl rfl) (by exact Or.inr rfl) rfl rfl (vB<|av 2) rfl (by change Za _ xg _ (zu yP).names _=true;decide +kernel) (by decide) (λcl s H fp=>(an 0 Vx)) (λcl s H fp=>xQ) (λcl s H fp=>(wt (N:=["b","numbers","a","algebra"]) (cap:=[none,some 1,some 0,some 3]) (S:=[0]) rfl (vB<|av 2) rfl (by with_unfolding_all rfl) (by decide) (λcl s H fp=>(an 0 VC)) (λcl s H fp=>xQ) (λcl s H fp=>(ax hkd (av 1)<|ax hkd (ax hkd (ax hkd (av 3) aI)<|av 2)<|av 0)) λ_=>rfl)) λ_=>rfl);refine yI ?_ ?_;exact(RO (z:=false) (i:=4) (N:=["name","rows","numbers","chosen"]) (cap:=[none,none,some 1,some 2]) (S:=[0,1]) y7.nd rfl (by exact Or.inl rfl) (by exact Or.inr rfl) rfl rfl (vB<|ax hkd (av 0) aI) rfl (by change Za _ xg _ (zu yP).names _=true;decide +kernel) (by decide) (λcl s H fp=>(P1 rfl (vX (an 0 Zx) (vX (an 1 Zx) V0 rfl) rfl) rfl rfl)) (λcl s H fp=>xQ) (λcl s H fp=>(QU<|bd (av 0)<|bd (wt (N:=["row","numbers","chosen"]) (cap:=[none,some 2,some 3]) (S:=[0]) rfl (vB<|av 1) rfl (by with_unfolding_all rfl) (by decide) (λcl s H fp=>(an 0 Vo)) (λcl s H fp=>xQ) (λcl s H fp=>(wt (N:=["a","numbers","row"]) (cap:=[none,some 1,some 0]) (S:=[0]) rfl (vB<|av 2) rfl (by with_unfolding_all rfl) (by decide) (λcl s H fp=>(an 0 VD)) (λcl s H fp=>xQ) (λcl s H fp=>(ax hkd (av 1)<|ax hkd (av 2)<|av 0)) λ_=>rfl)) λ_=>rfl) XZ)) λ_=>rfl);refine yI ?_ ?_;exact(RO (z:=false) (i:=5) (N:=["name","values","numbers","chosen"]) (cap:=[none,none,some 1,some 2]) (S:=[0,1]) y7.nd rfl (by exact Or.inl rfl) (by exact Or.inr rfl) rfl rfl (vB<|ax hkd (av 0) aI) rfl (by change Za _ xg _ (zu yP).names _=true;decide +kernel) (by decide) (λcl s H fp=>(P1 rfl (vX (an 0 Zt) (vX (an 1 Zt) V0 rfl) rfl) rfl rfl)) (λcl s H fp=>xQ) (λcl s H fp=>(QU<|bd (av 0)<|bd (wt (N:=["a","numbers","values"]) (cap:=[none,some 2,some 1]) (S:=[0]) rfl (vB<|av 3) rfl (by with_unfolding_all rfl) (by decide) (λcl s H fp=>(an 0 Vm)) (λcl s H fp=>(Fi<|SD (Mz (hkd _ rfl rfl rfl) (KA hr) .In) (FC .In) (av 0) (av 2) rfl)) (λcl s H fp=>(ax hkd (av 1)<|av 0)) λ_=>rfl) XZ)) λ_=>rfl);exact vQ<|YQ<|QU<|bd (QU<|bd (bi (Wr<|hkd _ rfl rfl rfl) T.UJ Bt.len<|bc (av 2) yL)<|bd (ax hkd (av 0) aI)<|bd (GS<|pv 3)<|bd (ax hkd (av 1)<|ax hkd (av 0) aI)<|bd (GS<|pv 4)<|bd (GS<|pv 5) XZ)<|bd (GS<|pv 1) XZ)
def vO(T:Txt K kd mg t)(hkd:Zi P w K kd):Co "_law_cell_at" P w K mg base kd 1 t.WZ t.W9 ["_law_script","_law_k"] yg:=by
 refine ZV (N:=W5) (k:=0) (c:=Wz) T.GE XX λ_ _ _ _ _ _ hr=>?_;have:=XX.nd;conv=>arg 3;whnf
 trivial
def xj(T:Txt K kd mg t)(hkd:Zi P w K kd):Co "_law_stream" P w K mg base kd 1 t.VU t.V7 ["_law_cell","_law_many"] yD:=by
 refine ZV (N:=QI) (k:=0) (c:=VH) T.KW W4 λ_ _ _ _ _ _ hr=>?_;have:=W4.nd;conv=>arg 3;whnf
 trivial
def Mr(T:Txt K kd mg t)(hkd:Zi P w K kd):Co "_law_names" P w K mg base kd 2 t.Us t.Uq ["_law_cell","_law_many"] Xw:=by
 refine ZV (N:=U_) (k:=1) (c:=UW) T.N5 QD λ_ _ _ _ _ _ hr=>?_;have:=QD.nd;have:=xj (base:=base) T hkd;conv=>arg 3;whnf
 trivial
def GJ(T:Txt K kd mg t)(hkd:Zi P w K kd):Co "_law_divisor" P w K mg base kd 1 t.WX t.W0 ["_law_one","_law_other"] Z8:=by
 refine ZV (N:=Vb) (k:=0) (c:=W8) T.GG XE λ_ _ _ _ _ _ hr=>?_;have:=XE.nd;conv=>arg 3;whnf
 trivial
def MF(T:Txt K kd mg t)(hkd:Zi P w K kd):Co "_law_sums" P w K mg base kd 2 t.Pg t.Pr ["_law_n","_law_m","_law_xs"] Vv:=by
 refine ZV (N:=Tb) (k:=1) (c:=P8) T.ES U3 λ_ _ _ _ _ _ hr=>?_;have:=U3.nd;have:=GJ (base:=base) T hkd;conv=>arg 3;whnf
 trivial
def K2(T:Txt K kd mg t)(hkd:Zi P w K kd):Co "_law_rising" P w K mg base kd 1 t.VT t.Qx ["_law_n","_law_m","_law_xs"] YE:=by
 refine ZV (N:=Qh) (k:=0) (c:=V9) T.L_ WV λ_ _ _ _ _ _ hr=>?_;have:=WV.nd;conv=>arg 3;whnf
 trivial
def MD(T:Txt K kd mg t)(hkd:Zi P w K kd):Co "_law_kept" P w K mg base kd 1 t.Po t.Pd ["_law_n","_law_m","_law_xs"] Vt:=by
 refine ZV (N:=Gj) (k:=0) (c:=Ti) T.Ef UC λ_ _ _ _ _ _ hr=>?_;have:=UC.nd;conv=>arg 3;whnf
 trivial
def Ni(T:Txt K kd mg t)(hkd:Zi P w K kd):Co "_law_joins" P w K mg base kd 1 t.Rg t.Uy ["_law_kind","_law_n"] ZG:=by
 refine ZV (N:=U6) (k:=0) (c:=US) T.Nm V5 λ_ _ _ _ _ _ hr=>?_;have:=V5.nd;conv=>arg 3;whnf
 trivial
def MM(T:Txt K kd mg t)(hkd:Zi P w K kd):Co "_law_rows" P w K mg base kd 3 t.Th t.PB ["_law_kind","_law_n","_law_m","_law_xs"] Yz:=by
 refine ZV (N:=P5) (k:=2) (c:=Td) T.ED UM λ_ _ _ _ _ _ hr=>?_;have:=UM.nd;have:=MF (base:=base) T hkd;have:=K2 (base:=base) T hkd;have:=MD (base:=base) T hkd;conv=>arg 3;whnf
 trivial
def Mh(T:Txt K kd mg t)(hkd:Zi P w K kd):Co "_law_plain" P w K mg base kd 4 t.UF t.U9 ["_law_kind","_law_n","_law_m","_law_many","_law_cell"] wJ:=by
 refine ZV (N:=Rf) (k:=3) (c:=Rc) T.Nj VS λ_ _ _ _ _ _ hr=>?_;have:=VS.nd;have:=MM (base:=base) T hkd;have:=xj (base:=base) T hkd;have:=Ni (base:=base) T hkd;conv=>arg 3;whnf
 trivial
def Lj(T:Txt K kd mg t)(hkd:Zi P w K kd):Co "_law_beside" P w K mg base kd 1 t.VM t.V8 ["_law_one","_law_other","_law_m"] YJ:=by
 refine ZV (N:=Qa) (k:=0) (c:=QF) T.LB W7 λ_ _ _ _ _ _ hr=>?_;have:=W7.nd;conv=>arg 3;whnf
 trivial
def MW(T:Txt K kd mg t)(hkd:Zi P w K kd):Co "_law_made" P w K mg base kd 5 t.TK t.Gg ["_law_cell","_law_m","_law_many"] Vj:=by
 refine ZV (N:=Pe) (k:=4) (c:=Tf) T.EN U5 λ_ _ _ _ _ _ hr=>?_;have:=U5.nd;have:=xj (base:=base) T hkd;have:=Mh (base:=base) T hkd;have:=Lj (base:=base) T hkd;conv=>arg 3;whnf
 trivial
def NJ(T:Txt K kd mg t)(hkd:Zi P w K kd):Co "_law_order" P w K mg base kd 2 t.Uk t.Ur ["_law_cell","_law_n"] X6:=by
 refine ZV (N:=UY) (k:=1) (c:=Uo) T.Mu VR λ_ _ _ _ _ _ hr=>?_;have:=VR.nd;have:=xj (base:=base) T hkd;conv=>arg 3;whnf
 trivial
def N1(T:Txt K kd mg t)(hkd:Zi P w K kd):Co "_law_signs" P w K mg base kd 2 t.Rj t.UV ["_law_cell","_law_n","_law_names_here"] ZR:=by
 refine ZV (N:=UQ) (k:=1) (c:=UO) T.N_ VJ λ_ _ _ _ _ _ hr=>?_;have:=VJ.nd;have:=xj (base:=base) T hkd;conv=>arg 3;whnf
 trivial
def W3(T:Txt K kd mg t)(hkd:Zi P w K kd):Co "_law_algebra" P w K mg base kd 6 t.WL t.Vg ["_law_cell","_law_other"] xJ:=by
 refine ZV (N:=Vc) (k:=5) (c:=WG) T.GQ Xv λ_ _ _ _ _ _ hr=>?_;have:=Xv.nd;have:=xj (base:=base) T hkd;have:=MW (base:=base) T hkd;have:=NJ (base:=base) T hkd;have:=Mr (base:=base) T hkd;have:=N1 (base:=base) T hkd;conv=>arg 3;whnf
 trivial
def ET(T:Txt K kd mg t)(hkd:Zi P w K kd):Co "_law_bent" P w K mg base kd 2 t.Tr t.T9 ["_law_algebra_here","_law_cell"] Vs:=by
 refine ZV (N:=Ge) (k:=1) (c:=Tp) T.EH vV λ_ _ _ _ _ _ hr=>?_;have:=vV.nd;have:=xj (base:=base) T hkd;conv=>arg 3;whnf
 exact(by
  refine yI ?_ ?_;trivial;refine sj 8 vV.nd ?_ ?_;trivial;refine yI ?_ ?_;trivial;refine yI ?_ ?_;trivial;refine sj 11 vV.nd ?_ ?_;trivial;refine yI ?_ ?_;trivial;refine yI ?_ ?_;trivial;refine yI ?_ ?_;exact(GX (AW.at_<|HK (tc hkd hr (av 11) aI)<|Gb<|tc hkd hr (av 10)<|Eb XZ) (Cp (y:=12) (n:=1) vV.nd rfl (by exact Or.inl rfl) (by exact Or.inr rfl) (pv 10) (Gf (Mq (pv 8) PD λ_ _=>rfl)<|HM rfl T.UJ Bt.len (pv 10) rfl rfl) (λ_ _=>rfl) wX (λ_ _=>rfl) rfl (pv 12) (Gf (Mq (pv 8) PD λ_ _=>rfl)<|Q2<|pv 3) (λ_ _=>rfl) (Gf (Mq (pv 8) PD λ_ _=>rfl)<|Q2<|pv 2) (Gf (Mq (pv 8) PD λ_ _=>rfl)<|Q2<|pv 2) (λ_=>rfl) rfl rfl rfl) X_);exact vQ<|YQ<|QU<|bd (av 2)<|bd (av 3)<|bd (av 9)<|bd (av 5)<|bd (av 10)<|bd (av 7) XZ)
def LI(T:Txt K kd mg t)(hkd:Zi P w K kd):Co "_law_digits" P w K mg base kd 1 t.Qi t.Qr ["_law_cell","_law_base","_law_many"] Ys:=by
 refine ZV (N:=QE) (k:=0) (c:=Qv) T.KM WH λ_ _ _ _ _ _ hr=>?_;have:=WH.nd;conv=>arg 3;whnf
 trivial
def Rw(T:Txt K kd mg t)(hkd:Zi P w K kd):Co "_law_by_digits" P w K mg base kd 2 t.Xf t.Xj ["_law_algebra_here","_law_cell"] v9:=by
 refine ZV (N:=Xn) (k:=1) (c:=Y9) T.RB Ye λ_ _ _ _ _ _ hr=>?_;have:=Ye.nd;have:=LI (base:=base) T hkd;conv=>arg 3;whnf
 trivial
def BJ(T:Txt K kd mg t)(hkd:Zi P w K kd):Co "_law_any" P w K mg base kd 7 t.G_ t.Ka ["_law_script"] Ub:=by
 refine ZV (N:=G3) (k:=6) (c:=GZ) T.BO PL λ_ _ _ _ _ _ hr=>?_;have:=PL.nd;have:=vO (base:=base) T hkd;have:=W3 (base:=base) T hkd;have:=Rw (base:=base) T hkd;have:=ET (base:=base) T hkd;conv=>arg 3;whnf
 trivial
def GI(T:Txt K kd mg t)(hkd:Zi P w K kd):Co "_law_parting" P w K mg base kd 1 t.WU t.WK ["_law_n","_law_join","_law_nothing"] Z5:=by
 refine ZV (N:=Wy) (k:=0) (c:=Wx) T.Gv X1 λ_ _ _ _ _ _ hr=>?_;have:=X1.nd;conv=>arg 3;whnf
 trivial
def Nn(T:Txt K kd mg t)(hkd:Zi P w K kd):Co "_law_doing" P w K mg base kd 1 t.UA t.Uu ["_law_n","_law_m","_law_join","_law_name","_law_rows_here"] ZT:=by
 refine ZV (N:=UH) (k:=0) (c:=UB) T.NV QG λ_ _ _ _ _ _ hr=>?_;have:=QG.nd;conv=>arg 3;whnf
 trivial
def U1(T:Txt K kd mg t)(hkd:Zi P w K kd):Co "_law_fails" P w K mg base kd 2 t.Uw t.UG ["_law_algebra_here"] wH:=by
 refine ZV (N:=Up) (k:=1) (c:=UL) T.Md VL λ_ _ _ _ _ _ hr=>?_;have:=VL.nd;have:=GI (base:=base) T hkd;have:=Nn (base:=base) T hkd;conv=>arg 3;whnf
 trivial
def Eu(T:Txt K kd mg t)(hkd:Zi P w K kd):Co "_law_good" P w K mg base kd 8 t.Pf t.Tw ["_law_script"] Vu:=by
 refine ZV (N:=Tu) (k:=7) (c:=P0) T.Ej Re λ_ _ _ _ _ _ hr=>?_;have:=Re.nd;have:=BJ (base:=base) T hkd;have:=vO (base:=base) T hkd;have:=U1 (base:=base) T hkd;have:=W3 (base:=base) T hkd;conv=>arg 3;whnf
 trivial
def EI(T:Txt K kd mg t)(hkd:Zi P w K kd):Co "_law_step" P w K mg base kd 1 t.Pn t.PN ["_law_algebra_here","_law_step_here","_law_value"] Zw:=by
 refine ZV (N:=P7) (k:=0) (c:=Tg) T.My UX λ_ _ _ _ _ _ hr=>?_;have:=UX.nd;conv=>arg 3;whnf
 trivial
def Mc(T:Txt K kd mg t)(hkd:Zi P w K kd):Co "_law_steps" P w K mg base kd 1 t.UK t.U0 ["_law_algebra_here"] XO:=by
 refine ZV (N:=Uv) (k:=0) (c:=Rb) T.NZ VZ λ_ _ _ _ _ _ hr=>?_;have:=VZ.nd;conv=>arg 3;whnf
 trivial
def Et(T:Txt K kd mg t)(hkd:Zi P w K kd):Co "_law_held" P w K mg base kd 1 t.P_ t.P2 ["_law_algebra_here","_law_value"] Y0:=by
 refine ZV (N:=T_) (k:=0) (c:=PK) T.MQ UD λ_ _ _ _ _ _ hr=>?_;have:=UD.nd;conv=>arg 3;whnf
 trivial
def Tc(T:Txt K kd mg t)(hkd:Zi P w K kd):Co "_law_numbered" P w K mg base kd 1 t.XS t.XJ ["_law_keys"] xr:=by
 refine ZV (N:=XC) (k:=0) (c:=XW) T.PR Xm λ_ _ _ _ _ _ hr=>?_;have:=Xm.nd;conv=>arg 3;whnf
 trivial
def LW(T:Txt K kd mg t)(hkd:Zi P w K kd):Co "_law_levels" P w K mg base kd 2 t.V_ t.Qs ["_law_algebra_here"] w_:=by
 refine ZV (N:=QC) (k:=1) (c:=V4) T.LG WM λ_ _ _ _ _ _ hr=>?_;have:=WM.nd;have:=Mc (base:=base) T hkd;have:=Tc (base:=base) T hkd;have:=Et (base:=base) T hkd;have:=EI (base:=base) T hkd;conv=>arg 3;whnf
 trivial
def B1(T:Txt K kd mg t)(hkd:Zi P w K kd):Co "_law_few" P w K mg base kd 2 t.G2 t.Kn ["_law_algebra_here","_law_cell"] QM:=by
 refine ZV (N:=Ko) (k:=1) (c:=GW) T.Bw Py λ_ _ _ _ _ _ hr=>?_;have:=Py.nd;have:=xj (base:=base) T hkd;conv=>arg 3;whnf
 trivial
def ZK(T:Txt K kd mg t)(hkd:Zi P w K kd):Co "_law_drawn" P w K mg base kd 9 t.UN t.UP ["_law_script"] xS:=by
 refine ZV (N:=Uz) (k:=8) (c:=UI) T.Mp Qb λ_ _ _ _ _ _ hr=>?_;have:=Qb.nd;have:=B1 (base:=base) T hkd;have:=Eu (base:=base) T hkd;have:=vO (base:=base) T hkd;conv=>arg 3;whnf
 trivial
def Bx(T:Txt K kd mg t)(hkd:Zi P w K kd):Co "_law_due" P w K mg base kd 3 t.GY t.Kc ["_law_algebra_here"] QL:=by
 refine ZV (N:=Ki) (k:=2) (c:=Kg) T.BS TX λ_ _ _ _ _ _ hr=>?_;have:=TX.nd;have:=LW (base:=base) T hkd;conv=>arg 3;whnf
 trivial
def WR(T:Txt K kd mg t)(hkd:Zi P w K kd):Co "_law_told_so" P w K mg base kd 1 t.Ve t.Vd ["_law_found","_law_due_here"] xI:=by
 refine ZV (N:=Wv) (k:=0) (c:=WQ) T.GN XH λ_ _ _ _ _ _ hr=>?_;have:=XH.nd;conv=>arg 3;whnf
 trivial
def tI(T:Txt K kd mg t)(hkd:Zi P w K kd):Co "law" P w K mg base kd 10 t.I_ t.Jh ["_law_script"] Kp:=by
 refine ZV (N:=IG) (k:=9) (c:=Jq) T.tZ Vy λcdv A outer s H E hr=>?_;exact(by
  refine sj 1 Vy.nd ?_ ?_;exact(cq (ZK T hkd) hr<|bc (av 0) yL);refine sj 2 Vy.nd ?_ ?_;exact(cq (Bx T hkd) hr<|bc (cq (ZK T hkd) hr<|bc (av 0) yL) yL);refine sj 3 Vy.nd ?_ ?_;exact(cq (Xl T hkd) hr<|bc (av 1) yL);refine yI ?_ ?_;exact(GX (Ql<|AW.at_<|Ng (HZ<|Hv (cq (WR T hkd) hr<|bc (av 3)<|bc (av 2) yL) λ_=>rfl)<|Ym<|tc hkd hr (av 1)<|cq (ZK T hkd) hr<|bc (av 0) yL) (vQ<|YQ aB) X_);refine yI ?_ ?_;exact(GX (Ql<|AW.at_<|Ng (tc hkd hr (cq (U1 T hkd) hr<|bc (ax hkd (av 3) aI) yL) aZ)<|Ym<|tc hkd hr (cq (Qn T hkd) hr<|bc (ax hkd (av 3) aI) yL) aZ) (vQ<|YQ aB) X_);refine sj 4 Vy.nd ?_ ?_;exact(bn (cq (vO T hkd) hr<|bc (av 0)<|bc aI yL)<|Ms<|bi (Wr<|hkd _ rfl rfl rfl) T.UJ Bt.len<|bc (ax hkd (ax hkd (av 3) aI) aI) yL);refine yI ?_ ?_;exact(DH (pv 3) wX (λ_ _=>rfl) wX (λ_ _=>rfl) (Q2<|pv 4) (λ_ _=>rfl) (λ_ z=>E4 PySem.F.plainAttrs_list PySem.F.slot_list_append PySem.F.type_list_append Q6 z (Zj wX XG rfl) rfl rfl rfl rfl rfl) rfl);refine yI ?_ ?_;exact(GX (Ql<|AW.at_<|Ng (tc hkd hr (xT (ax hkd (ax hkd (av 3) aI) aI) wO<|vC<|av 4)<|xT (ax hkd (ax hkd (av 2) aI) aI) wO<|vC<|av 4)<|Ym<|tc hkd hr (xT (ax hkd (ax hkd (av 3) aI) aI) (vC<|bn (av 4) aI) wO)<|xT (ax hkd (ax hkd (av 2) aI) aI) (vC<|bn (av 4) aI) wO) (vQ<|YQ aB) X_);refine yI ?_ ?_;exact(GX (Ql<|tc hkd hr (xT (ax hkd (av 3) aI) (vC aI) wO)<|xT (ax hkd (av 2) aI) (vC aI) wO) (vQ<|YQ aB) X_);refine yI ?_ ?_;exact(PJ PassesOwn.never rfl (G0 rfl T.We (bc (Ms<|bi (Wr<|hkd _ rfl rfl rfl) T.UJ Bt.len<|bc (ax hkd (ax hkd (av 3) aI) aI) yL) yL) rfl) (an 5 Vy.nd) (JB Vy.nd rfl (by exact Or.inl rfl) (by exact Or.inr rfl) (pv 3) wX (λ_ _=>rfl) wX (λ_ _=>rfl) (Q2<|pv 5) (λ_ _=>rfl) wX (λ_ _=>rfl) rfl (pv 6) wX (λ_ _=>rfl) (λ_ z=>E4 PySem.F.plainAttrs_list PySem.F.slot_list_append PySem.F.type_list_append Q6 z (Zj wX XG rfl) rfl rfl rfl rfl rfl) rfl (AW.at_<|Ng (tc hkd hr (xT (av 6) (vC aI) wO)<|xT (ax hkd (ax hkd (ax hkd (ax hkd (av 2) aI) aI)<|av 5) aI) (vC aI) wO)<|Ym<|tc hkd hr (xT (ax hkd (ax hkd (av 3) aI) aI) (vC<|bn (av 5) aI) wO)<|xT (ax hkd (ax hkd (av 2) aI) aI) (vC<|bn (av 5) aI) wO) Jf (M0 PySem.F.plainAttrs_list PySem.F.slot_list_clear PySem.F.type_list_clear Ts (pv 6) rfl rfl) rfl) λ_=>rfl);refine yI ?_ ?_;exact(An (pv 3) wX (λ_ _=>rfl) (λ_ z=>M0 PySem.F.plainAttrs_list PySem.F.slot_list_clear PySem.F.type_list_clear Ts z rfl rfl) rfl);refine yI ?_ ?_;exact(JR (pv 3) wX (λ_ _=>rfl) wX (λ_ _=>rfl) (λ_ z=>M0 PySem.F.plainAttrs_list PySem.F.slot_list_clear PySem.F.type_list_clear Ts z rfl rfl) rfl);exact vQ<|YQ<|S0 (ec hkd hr (av 1)<|cq (ZK T hkd) hr<|bc (av 0) yL)<|Sw<|cq (WR T hkd) hr<|bc (cq (Xl T hkd) hr<|bc (av 1) yL)<|bc (av 2) yL)
end
abbrev og(K:zzA)(x:Str)(f:Addr):Prop:=W.nsIn K mainGlobals x=some (some<|.ref f)
abbrev FnAt(K:zzA)(x q:Str)(s:Stmt)(f:Addr):Prop:=∃d,Fun K x q s f d
abbrev Fk(K:zzA)(x:Str)(s:Stmt)(f:Addr):Prop:=og K x f/\FnAt K x x s f
def Dk{l:PySem.W.OpenLaw}{w:World}{K:zzA}{h:Heap}{mg:Str->Option Value}{fa:Addr}(X:K.In h)(G:h.Ns mainGlobals mg)(hfa:mg "law"=some (.ref fa))
 {f0 f1 f2 f3 f4 f5 f6 f7 f8 f9 f10 f11 f12 f13 f14 f15 f16 f17 f18 f19 f20 f21 f22 f23 f24 f25 f26 f27 f28 f29 f30 f31 f32 f33 f34 f35 f36 f37 f38 f39 f40 f41 f42 f43 f44:Addr}
 (a0:Fk K "nothing_fails" wu f0)
 (a1:Fk K "parting_fails" wo f1)
 (a2:Fk K "doing_fails" vP f2)
 (a3:Fk K "deeds_fail" Zh f3)
 (a4:Fk K "what_fails" Zo f4)
 (a5:Fk K "check_let_by" wU f5)
 (a6:Fk K "all_steps" ZS f6)
 (a7:Fk K "numbered" Yq f7)
 (a8:Fk K "signs_of" Y4 f8)
 (a9:Fk K "class_numbers" yO f9)
 (a10:Fk K "least_algebra" yP f10)
 (a11:Fk K "_law_cell_at" vS f11)
 (a12:Fk K "_law_whole" Xx f12)
 (a13:Fk K "_law_stream" Zk f13)
 (a14:Fk K "_law_names" ZI f14)
 (a15:Fk K "_law_divisor" vT f15)
 (a16:Fk K "_law_sums" YD f16)
 (a17:Fk K "_law_rising" Zf f17)
 (a18:Fk K "_law_kept" YY f18)
 (a19:Fk K "_law_joins" ZE f19)
 (a20:Fk K "_law_rows" YM f20)
 (a21:Fk K "_law_plain" ZW f21)
 (a22:Fk K "_law_beside" Zd f22)
 (a23:Fk K "_law_made" YA f23)
 (a24:Fk K "_law_order" Z0 f24)
 (a25:Fk K "_law_signs" ZH f25)
 (a26:Fk K "_law_algebra" vM f26)
 (a27:Fk K "_law_bent" YV f27)
 (a28:Fk K "_law_digits" Zl f28)
 (a29:Fk K "_law_by_digits" wq f29)
 (a30:Fk K "_law_any" Wm f30)
 (a31:Fk K "_law_parting" vR f31)
 (a32:Fk K "_law_doing" ZL f32)
 (a33:Fk K "_law_fails" ZZ f33)
 (a34:Fk K "_law_good" YI f34)
 (a35:Fk K "_law_step" YB f35)
 (a36:Fk K "_law_steps" ZY f36)
 (a37:Fk K "_law_held" YW f37)
 (a38:Fk K "_law_numbered" wR f38)
 (a39:Fk K "_law_levels" Zg f39)
 (a40:Fk K "_law_few" Wh f40)
 (a41:Fk K "_law_drawn" ZQ f41)
 (a42:Fk K "_law_due" Wp f42)
 (a43:Fk K "_law_told_so" vL f43)
 (a44:Fk K "law" Fv f44)
 (z0:W.nsIn K mainGlobals "bool"=some none) (z1:W.nsIn K mainGlobals "divmod"=some none) (z2:W.nsIn K mainGlobals "enumerate"=some none) (z3:W.nsIn K mainGlobals "int"=some none) (z4:W.nsIn K mainGlobals "isinstance"=some none) (z5:W.nsIn K mainGlobals "len"=some none) (z6:W.nsIn K mainGlobals "list"=some none) (z7:W.nsIn K mainGlobals "max"=some none) (z8:W.nsIn K mainGlobals "range"=some none) (z9:W.nsIn K mainGlobals "repr"=some none) (z10:W.nsIn K mainGlobals "set"=some none) (z11:W.nsIn K mainGlobals "sorted"=some none) (z12:W.nsIn K mainGlobals "tuple"=some none) (z13:W.nsIn K mainGlobals "zip"=some none):
 ∃fd:FuncData,(∀(s:Shared) (v:Value),BindsTo s fd ⟨[v],[]⟩ [("_law_script",v)])/\∀base:Heap,K.In base->base.Ns mainGlobals mg->FnOk l.prog w K mg base B3 10 fa fd ["_law_script"] (qW K Kp):=by
 have e:=hfa.symm.trans<|W.mg_of X G a44.1;cases e;obtain⟨a0,_,F0⟩:=a0;obtain⟨a1,_,F1⟩:=a1;obtain⟨a2,_,F2⟩:=a2;obtain⟨a3,_,F3⟩:=a3;obtain⟨a4,_,F4⟩:=a4;obtain⟨a5,_,F5⟩:=a5;obtain⟨a6,_,F6⟩:=a6;obtain⟨a7,_,F7⟩:=a7;obtain⟨a8,_,F8⟩:=a8;obtain⟨a9,_,F9⟩:=a9;obtain⟨a10,_,O0⟩:=a10;obtain⟨a11,_,F11⟩:=a11;obtain⟨a12,_,F12⟩:=a12;obtain⟨a13,_,F13⟩:=a13;obtain⟨a14,_,F14⟩:=a14;obtain⟨a15,_,F15⟩:=a15;obtain⟨a16,_,F16⟩:=a16;obtain⟨a17,_,F17⟩:=a17;obtain⟨a18,_,F18⟩:=a18;obtain⟨a19,_,F19⟩:=a19;obtain⟨a20,_,F20⟩:=a20;obtain⟨a21,_,F21⟩:=a21;obtain⟨a22,_,F22⟩:=a22;obtain⟨a23,_,F23⟩:=a23;obtain⟨a24,_,F24⟩:=a24;obtain⟨a25,_,F25⟩:=a25;obtain⟨a26,_,F26⟩:=a26;obtain⟨a27,_,F27⟩:=a27;obtain⟨a28,_,F28⟩:=a28;obtain⟨a29,_,F29⟩:=a29;obtain⟨a30,_,F30⟩:=a30;obtain⟨a31,_,F31⟩:=a31;obtain⟨a32,_,F32⟩:=a32;obtain⟨a33,_,F33⟩:=a33;obtain⟨a34,_,F34⟩:=a34;obtain⟨a35,_,F35⟩:=a35;obtain⟨a36,_,F36⟩:=a36;obtain⟨a37,_,F37⟩:=a37;obtain⟨a38,_,F38⟩:=a38;obtain⟨a39,_,F39⟩:=a39;obtain⟨a40,_,F40⟩:=a40;obtain⟨a41,_,F41⟩:=a41;obtain⟨a42,_,F42⟩:=a42;obtain⟨a43,_,F43⟩:=a43;obtain⟨a44,_,F44⟩:=a44;obtain⟨_,_,_,_,_,_,_,_,_,rfl,_,_⟩:=F44.ex;let KL:List (Addr×List (Key×V)):=[];have hkd:Zi l.prog w K (qi KL):=DJ λp m=>by
  exact absurd (show p ∈ ([]:List (Addr×List (Key×V)))from m) zxC
 have T:Txt K (qi KL) mg ⟨_,_,_,_,_,_,_,_,_,_,_,_,_,_,_,_,_,_,_,_,_,_,_,_,_,_,_,_,_,_,_,_,_,_,_,_,_,_,_,_,_,_,_,_,_,_,_,_,_,_,_,_,_,_,_,_,_,_,_,_,_,_,_,_,_,_,_,_,_,_,_,_,_,_,_,_,_,_,_,_,_,_,_,_,_,_,_,_,_,_⟩:=⟨⟨F0,bs F0,W.mg_of X G a0⟩,⟨F1,bs F1,W.mg_of X G a1⟩,⟨F2,bs F2,W.mg_of X G a2⟩,⟨F3,bs F3,W.mg_of X G a3⟩,⟨F4,bs F4,W.mg_of X G a4⟩,⟨F5,bs F5,W.mg_of X G a5⟩,⟨F6,bs F6,W.mg_of X G a6⟩,⟨F7,bs F7,W.mg_of X G a7⟩,⟨F8,bs F8,W.mg_of X G a8⟩,⟨F9,bs F9,W.mg_of X G a9⟩,⟨O0,bs O0,W.mg_of X G a10⟩,⟨F11,bs F11,W.mg_of X G a11⟩,⟨F12,bs F12,W.mg_of X G a12⟩,⟨F13,bs F13,W.mg_of X G a13⟩,⟨F14,bs F14,W.mg_of X G a14⟩,⟨F15,bs F15,W.mg_of X G a15⟩,⟨F16,bs F16,W.mg_of X G a16⟩,⟨F17,bs F17,W.mg_of X G a17⟩,⟨F18,bs F18,W.mg_of X G a18⟩,⟨F19,bs F19,W.mg_of X G a19⟩,⟨F20,bs F20,W.mg_of X G a20⟩,⟨F21,bs F21,W.mg_of X G a21⟩,⟨F22,bs F22,W.mg_of X G a22⟩,⟨F23,bs F23,W.mg_of X G a23⟩,⟨F24,bs F24,W.mg_of X G a24⟩,⟨F25,bs F25,W.mg_of X G a25⟩,⟨F26,bs F26,W.mg_of X G a26⟩,⟨F27,bs F27,W.mg_of X G a27⟩,⟨F28,bs F28,W.mg_of X G a28⟩,⟨F29,bs F29,W.mg_of X G a29⟩,⟨F30,bs F30,W.mg_of X G a30⟩,⟨F31,bs F31,W.mg_of X G a31⟩,⟨F32,bs F32,W.mg_of X G a32⟩,⟨F33,bs F33,W.mg_of X G a33⟩,⟨F34,bs F34,W.mg_of X G a34⟩,⟨F35,bs F35,W.mg_of X G a35⟩,⟨F36,bs F36,W.mg_of X G a36⟩,⟨F37,bs F37,W.mg_of X G a37⟩,⟨F38,bs F38,W.mg_of X G a38⟩,⟨F39,bs F39,W.mg_of X G a39⟩,⟨F40,bs F40,W.mg_of X G a40⟩,⟨F41,bs F41,W.mg_of X G a41⟩,⟨F42,bs F42,W.mg_of X G a42⟩,⟨F43,bs F43,W.mg_of X G a43⟩,⟨F44,bs F44,W.mg_of X G a44⟩,W.mg_none_of X G z0,W.mg_none_of X G z1,W.mg_none_of X G z2,W.mg_none_of X G z3,W.mg_none_of X G z4,W.mg_none_of X G z5,W.mg_none_of X G z6,W.mg_none_of X G z7,W.mg_none_of X G z8,W.mg_none_of X G z9,W.mg_none_of X G z10,W.mg_none_of X G z11,W.mg_none_of X G z12,W.mg_none_of X G z13⟩;exact⟨_,λs v=>.of_eq rfl,λbase _ _=>(tI T hkd).F.imp λvs H Q E h=>h _⟩
def walk{l:PySem.W.OpenLaw}{q:Program}{loose:List Str}{XP:(Str->Option Value)->Heap->Prop}{YP:World->Heap->Prop}{d:DefRec}{K:Params->zzA}(hn:l.most=some 63)(hdf:d.params.defaults=[])
 (hY:∀(w:World) (h:Heap),YP w h->(K w.params).In h) (hm:∀ns:List Int,ns.length<=63->Kp [(true,.lst<|ns.map D.int)]=some (.lf true<|.bl true))
 (F:∀(w:World) (mg:Str->Option Value) (fa:Addr) (h:Heap),(K w.params).In h->h.Ns mainGlobals mg->mg d.name=some (.ref fa)->
  ∃fd:FuncData,(∀(s:Shared) (u:Value),BindsTo s fd ⟨[u],[]⟩ [("_law_script",u)])/\∀base:Heap,(K w.params).In base->base.Ns mainGlobals mg->FnOk l.prog w (K w.params) mg base B3 10 fa fd ["_law_script"] (qW (K w.params) Kp)):
 PySem.W.WalkO q loose XP YP l.row.toRowW d [] (λf vs=>PySem.call f vs):=
 L2.walk_of (n:=63) (k:=10) (x:="_law_script") (CX:=λ_=>B3) (sp:=λw=>qW (K w.params) Kp) hn (by decide) hdf ⟨rfl,by decide,by decide,rfl⟩ hY F (λ_ _ a ns hl _ hS kd=>J9 (hm ns hl) hS) λ_ _ _ _ _ z=>z
end G53
end
section
namespace PP
abbrev zL(n:Nat)(x:Int):Prop:=0<=x/\x<(n:Int)
def least{P:Nat->Prop}:∀(x:Nat),P x->∃y,P y/\y<=x/\∀z,z<y->¬P z:=λx=>by
 induction x using Nat.strongRecOn with
 |_ x ih=>
  intro h
  by_cases e:∃z,z<x/\P z
  . obtain⟨z,hz,pz⟩:=e;obtain⟨y,h1,h2,h3⟩:=ih z hz pz;exact⟨y,h1,by omega,h3⟩
  . exact⟨x,h,zzN _,λz hz pz=>e ⟨z,hz,pz⟩⟩
noncomputable def cnt(P:Nat->Prop):Nat->Nat
 |0=>0
 |n+1=>cnt P n + @ite Nat (P n) (Classical.propDecidable _) 1 0
theorem Jc(P:Nat->Prop):∀n,cnt P n<=n
 |0=>zzN _
 |n+1=>by
  have:=Jc P n;unfold cnt
  split<;>omega
theorem MB{P Q:Nat->Prop}:∀n,(∀v,v<n->P v->Q v)->cnt P n<=cnt Q n
 |0,_=>zzN _
 |n+1,h=>by
  have ih:=MB n λv hv=>h v (by omega);unfold cnt
  by_cases p:P n
  . rw[if_pos p,if_pos<|h n (by omega) p];omega
  . rw[if_neg p];omega
theorem Sz{P Q:Nat->Prop}{v:Nat}:∀n,(∀v,v<n->P v->Q v)->v<n->Q v->¬P v->cnt P n<cnt Q n
 |0,_,hv,_,_=>absurd hv (Nat.not_lt_zero _)
 |n+1,h,hv,q,np=>by
  unfold cnt
  by_cases e:v=n
  . subst e;have ih:=MB v λw hw=>h w (by omega);rw[if_neg np,if_pos q];omega
  . have ih:=Sz n (λw hw=>h w<|by omega) (by omega) q np
    by_cases p:P n
    . rw[if_pos p,if_pos<|h n (by omega) p];omega
    . rw[if_neg p];omega
section
variable{β δ:Type}{H:Int->β}{f:δ->Int->Int}{P:δ->Prop}{n:Nat}
def fr(f:δ->Int->Int)(r:List δ)(v:Int):Int:=r.foldl (λw d=>f d w) v
def Ek(H:Int->β)(f:δ->Int->Int)(P:δ->Prop)(k:Nat)(u v:Int):Prop:=∀r:List δ,(∀d ∈ r,P d)->r.length<=k->H (fr f r u)=H (fr f r v)
theorem Ek.symm{k:Nat}{u v:Int}(h:Ek H f P k u v):Ek H f P k v u:=λr hr hl=>(h r hr hl).symm
theorem Ek.trans{k:Nat}{u v w:Int}(h:Ek H f P k u v)(g:Ek H f P k v w):Ek H f P k u w:=λr hr hl=>(h r hr hl).trans<|g r hr hl
def Ek.refl{k:Nat}{u:Int}:Ek H f P k u u:=λ_ _ _=>rfl
def Ek.mono{j k:Nat}{u v:Int}(h:Ek H f P k u v)(g:j<=k):Ek H f P j u v:=λr hr hl=>h r hr<|zzO hl g
def Ek.succ{k:Nat}{u v:Int}:Ek H f P (k+1) u v ↔ Ek H f P k u v/\∀d,P d->Ek H f P k (f d u) (f d v):=
 ⟨λh=>⟨h.mono<|zyX _,λd hd r hr hl=>h (d::r) (λx mx=>(zzC.mp mx).elim (λz=>z ▸ hd)<|hr x)<|Nat.succ_le_succ hl⟩,λ⟨h,g⟩ r hr hl=>by
  cases r with
  |nil=>exact h [] hr (Nat.zero_le _)
  |cons d r=>exact g d (hr d<|zzF ..) r (λx mx=>hr x<|zzD _ mx) (Nat.le_of_succ_le_succ hl)⟩
def Ek.zero{u v:Int}:Ek H f P 0 u v ↔ H u=H v:=⟨λh=>h [] (λ_ m=>nomatch m)<|zzN _,λh r _ hl=>by
 cases r with
 |nil=>exact h
 |cons=>exact absurd hl (Nat.not_succ_le_zero _)⟩
abbrev St(H:Int->β)(f:δ->Int->Int)(P:δ->Prop)(n k:Nat):Prop:=∀u v:Nat,u<n->v<n->Ek H f P k u v->Ek H f P (k+1) u v
abbrev Rep(H:Int->β)(f:δ->Int->Int)(P:δ->Prop)(k v:Nat):Prop:=∀u:Nat,u<v->¬Ek H f P k (u:Int) (v:Int)
def Se{k:Nat}(h:¬St H f P n k):cnt (Rep H f P k) n<cnt (Rep H f P<|k+1) n:=by
 have mo:∀v,v<n->Rep H f P k v->Rep H f P (k+1) v:=λv _ hv u hu z=>hv u hu<|z.mono<|zyX _;have⟨u,v,hu,hv,e,ne⟩:∃u v:Nat,u<n/\v<n/\Ek H f P k u v/\¬Ek H f P (k+1) u v:=Classical.byContradiction λz=>h λu v hu hv e=>Classical.byContradiction λne=>z ⟨u,v,hu,hv,e,ne⟩;obtain⟨m0,h1,h2,h3⟩:=least (P:=λw=>Ek H f P k (u:Int) (w:Int)) u .refl;have⟨x,hx,ex,nx⟩:∃x:Nat,x<n/\Ek H f P k (u:Int) (x:Int)/\¬Ek H f P (k+1) (x:Int) (m0:Int):=by
  by_cases z:Ek H f P (k+1) (u:Int) (m0:Int)
  . exact⟨v,hv,e,λy=>ne<|z.trans y.symm⟩
  . exact⟨u,hu,.refl,z⟩
 obtain⟨w,g1,g2,g3⟩:=least (P:=λw=>Ek H f P (k+1) (x:Int) (w:Int)) x .refl;have kw:Ek H f P k (u:Int) (w:Int):=ex.trans<|g1.mono<|zyX _;have mw:m0<w:=by
  have:m0<=w:=Nat.le_of_not_lt λz=>h3 w z kw
  rcases Nat.lt_or_eq_of_le this with z|z
  . exact z
  . exact absurd (z ▸ g1) nx
 exact Sz (v:=w) n mo (by omega) (λy hy z=>g3 y hy<|g1.trans z.symm) λz=>z m0 mw<|h1.symm.trans kw
def stable(n1:1<=n):∃k,k<n/\St H f P n k:=Classical.byContradiction λz=>by
 have gr:∀k,k<=n->k+1<=cnt (Rep H f P k) n:=λk=>by
  induction k with
  |zero=>
   intro _;obtain⟨m,rfl⟩:∃m,n=m+1:=⟨n-1,by omega⟩;have h0:cnt (λv=>v=0) (m+1)<=cnt (Rep H f P 0) (m+1):=MB _ λv _ hv u hu=>by subst hv;exact absurd hu<|Nat.not_lt_zero _
   have h1:∀j,1<=cnt (λv=>v=0) (j+1):=λj=>by
    induction j with
    |zero=>unfold cnt;rw[if_pos rfl];omega
    |succ j ih=>unfold cnt;omega
   have:=h1 m;omega
  |succ k ih=>
   intro hk;have:=ih (by omega);have:=Se (n:=n) λh=>z ⟨k,by omega,h⟩;omega
 have:=gr n<|zzN _;have:=Jc (Rep H f P n) n;omega
theorem St.more(hf:∀d v,P d->zL n v->zL n (f d v)){k:Nat}(h:St H f P n k):∀j (u v:Int),zL n u->zL n v->Ek H f P k u v->Ek H f P (k+j) u v
 |0,_,_,_,_,e=>e
 |j+1,u,v,hu,hv,e=>by
  have s:∀a b:Int,zL n a->zL n b->Ek H f P k a b->Ek H f P (k+1) a b:=λa b ha hb he=>by
   have:=h a.toNat b.toNat (by omega) (by omega);rw[show((a.toNat:Nat):Int)=a by omega,show((b.toNat:Nat):Int)=b by omega]at this;exact this he
  refine Ek.succ.mpr ⟨St.more hf h j u v hu hv e,λd hd=>?_⟩;exact St.more hf h j _ _ (hf d u hd hu) (hf d v hd hv)<|(Ek.succ.mp<|s u v hu hv e).2 d hd
def AZ(hf:∀d v,P d->zL n v->zL n (f d v))(n1:1<=n){u v:Int}(hu:zL n u)(hv:zL n v)(e:Ek H f P n u v)(j:Nat):Ek H f P j u v:=by
 obtain⟨k,hk,h⟩:=stable (H:=H) (f:=f) (P:=P) n1;exact(h.more hf j u v hu hv<|e.mono<|by omega).mono (by omega)
end
end PP
end
section
namespace G53
abbrev zL(n:Nat)(x:Int):Prop:=0<=x/\x<(n:Int)
structure LJ(n:Nat)(j:Int->Int->Int)(e:Int):Prop where
 cl:∀a b,zL n a->zL n b->zL n (j a b)
 ce:zL n e
 ul:∀a,zL n a->j e a=a
 ur:∀a,zL n a->j a e=a
 as:∀a b c,zL n a->zL n b->zL n c->j (j a b) c=j a (j b c)
structure LD(n m:Nat)(j:Int->Int->Int)(e:Int)(d:Int->Int->Int):Prop where
 cl:∀c a,zL m c->zL n a->zL n (d c a)
 em:d 0 e=e
 dn:∀a i b k,zL n a->zL m i->zL n b->zL m k->d ((i+k)%m) (j a b)=j (d i a) (d k b)
def N9{x:Int}{n:Nat}(hn:0<n):zL n (x%n):=⟨zyN _ (by omega),zyH _<|by omega⟩
def LJ.congr{n:Nat}{j j':Int->Int->Int}{e:Int}(h:LJ n j e)(q:∀a b,zL n a->zL n b->j' a b=j a b):LJ n j' e:=by
 refine⟨λa b ha hb=>by rw[q a b ha hb];exact h.cl a b ha hb,h.ce,λa ha=>by rw[q _ _ h.ce ha];exact h.ul a ha,λa ha=>by rw[q _ _ ha h.ce];exact h.ur a ha,λa b c ha hb hc=>?_⟩;rw[q a b ha hb,q b c hb hc,q _ _ (h.cl a b ha hb) hc,q _ _ ha<|h.cl b c hb hc];exact h.as a b c ha hb hc
def LD.congr{n m:Nat}{j j':Int->Int->Int}{e:Int}{d d':Int->Int->Int}(hm:0<m)(hj:LJ n j e)(h:LD n m j e d)(q:∀a b,zL n a->zL n b->j' a b=j a b)(p:∀c a,zL m c->zL n a->d' c a=d c a):LD n m j' e d':=by
 refine⟨λc a hc ha=>by rw[p c a hc ha];exact h.cl c a hc ha,by rw[p 0 e ⟨by omega,by omega⟩ hj.ce];exact h.em,λa i b k ha hi hb hk=>?_⟩;rw[q a b ha hb,p _ _ (N9 hm)<|hj.cl a b ha hb,p i a hi ha,p k b hk hb,q _ _ (h.cl i a hi ha)<|h.cl k b hk hb];exact h.dn a i b k ha hi hb hk
def jS(n:Nat)(a b:Int):Int:=(a+b)%n
def jM(a b:Int):Int:=if b > a then b else a
def jL(a b:Int):Int:=if b=0 then a else b
def jF(a b:Int):Int:=if a=0 then b else a
def p1(a:Int):Int:=if a=1\/a=3 then 1 else 0
def p2(a:Int):Int:=if a=0\/a=3 then 1 else 0
def rC(u v:Int):Int:=if u=0 then(if v=0 then 2 else 0)else(if v=0 then 1 else 3)
def pk(u v k:Int):Int:=if k=0 then u else v
def j4(a b:Int):Int:=rC (pk (p1 b) (p2 b)<|p1 a)<|pk (p1 b) (p2 b)<|p2 a
def pD{n:Nat}(hn:0<n):LJ n (jS n) 0:=by
 refine⟨λa b _ _=>N9 hn,⟨by omega,by omega⟩,λa ha=>?_,λa ha=>?_,λa b c _ _ _=>?_⟩
 . unfold jS;rw[Int.zero_add,Int.emod_eq_of_lt ha.1 ha.2]
 . unfold jS;rw[Int.add_zero,Int.emod_eq_of_lt ha.1 ha.2]
 . unfold jS;rw[Int.emod_add_emod,Int.add_emod_emod,Int.add_assoc]
def qB{n:Nat}(hn:0<n):LJ n jM 0:=by
 refine⟨λa b ha hb=>?_,⟨by omega,by omega⟩,λa ha=>?_,λa ha=>?_,λa b c _ _ _=>?_⟩<;>unfold jM<;>(try unfold jM)<;>grind
def qJ{n:Nat}(hn:0<n):LJ n jL 0:=by
 refine⟨λa b ha hb=>?_,⟨by omega,by omega⟩,λa ha=>?_,λa ha=>?_,λa b c _ _ _=>?_⟩<;>unfold jL<;>grind
def rK{n:Nat}(hn:0<n):LJ n jF 0:=by
 refine⟨λa b ha hb=>?_,⟨by omega,by omega⟩,λa ha=>?_,λa ha=>?_,λa b c _ _ _=>?_⟩<;>unfold jF<;>grind
def four{P:Int->Prop}(h0:P 0)(h1:P 1)(h2:P 2)(h3:P 3){a:Int}(h:zL 4 a):P a:=by
 rcases(show a=0\/a=1\/a=2\/a=3 by have:=h.1;have:=h.2;omega)with rfl|rfl|rfl|rfl<;>assumption
def f4{P:Int->Prop}(h:∀a ∈ ([0,1,2,3]:List Int),P a){a:Int}(ha:zL 4 a):P a:=four (h 0<|by decide) (h 1<|by decide) (h 2<|by decide) (h 3<|by decide) ha
def sU:LJ 4 j4 0:=by
 refine⟨λa b ha hb=>?_,⟨by decide,by decide⟩,λa ha=>?_,λa ha=>?_,λa b c ha hb hc=>?_⟩
 . revert b;refine f4 (P:=λa=>∀b,zL 4 b->zL 4 (j4 a b)) ?_ ha
   have:∀a ∈ ([0,1,2,3]:List Int),∀b ∈ ([0,1,2,3]:List Int),zL 4 (j4 a b):=by decide
   exact λa m b hb=>f4 (P:=λb=>zL 4<|j4 a b) (this a m) hb
 . exact f4 (P:=λa=>j4 0 a=a) (by decide) ha
 . exact f4 (P:=λa=>j4 a 0=a) (by decide) ha
 . have:∀a ∈ ([0,1,2,3]:List Int),∀b ∈ ([0,1,2,3]:List Int),∀c ∈ ([0,1,2,3]:List Int),j4 (j4 a b) c=j4 a (j4 b c):=by decide
   refine f4 (P:=λa=>j4 (j4 a b) c=j4 a (j4 b c)) (λa m=>f4 (P:=λb=>j4 (j4 a b) c=j4 a (j4 b c)) (λb m'=>f4 (P:=λc=>j4 (j4 a b) c=j4 a (j4 b c)) (this a m b m') hc) hb) ha
def oO{n m:Nat}{g x0 x1:Int}(hn:0<n)(hm:0<m)(g0:0<g)(gn:g ∣ n)(gm:g ∣ m):LD n m (jS n) 0 (λc a=>(a*x0+c*((n:Int)/g)*x1)%n):=by
 refine⟨λc a _ _=>N9 hn,by simp,λa i b k _ _ _ _=>?_⟩;obtain⟨t,ht⟩:=gm;have h:(m:Int)*((n:Int)/g)=n*t:=by
  obtain⟨s,hs⟩:=gn;rw[hs,Int.mul_ediv_cancel_left _ (by omega),ht];grind
 show(_:Int)=jS n _ _;unfold jS;rw[<-Int.add_emod];generalize (n:Int)/g=st at h;rw[Int.emod_def (i+k) m,Int.emod_def (a+b) n];generalize (i+k)/(m:Int)=q;generalize (a+b)/(n:Int)=p;rw[show((a+b)-(n:Int)*p)*x0+((i+k)-(m:Int)*q)*st*x1=(a*x0+i*st*x1+(b*x0+k*st*x1))+(n:Int)*(-(p*x0)-t*q*x1) by grind,Int.add_mul_emod_self_left]
def oR{n m:Nat}{r:Int->Int}(hm:0<m)(h0:r 0=0)(hc:∀a,zL n a->zL n (r a))(hr:∀a b,zL n a->zL n b->a<=b->r a<=r b):LD n m jM 0 (λ_ a=>r a):=by
 refine⟨λc a _ ha=>hc a ha,h0,λa i b k ha _ hb _=>?_⟩;show r (jM a b)=jM (r a) (r b);unfold jM;have h1:=hr a b ha hb;have h2:=hr b a hb ha
 split<;>split<;>grind
def om{n m:Nat}{r:Int->Int}(h0:r 0=0)(hc:∀a,zL n a->zL n (r a))(hr:∀a,zL n a->a≠0->r a≠0):LD n m jL 0 (λ_ a=>r a):=by
 refine⟨λc a _ ha=>hc a ha,h0,λa i b k ha _ hb _=>?_⟩;show r (jL a b)=jL (r a) (r b);unfold jL;have h2:=hr b hb
 split<;>split<;>grind
def oI{n m:Nat}{r:Int->Int}(h0:r 0=0)(hc:∀a,zL n a->zL n (r a))(hr:∀a,zL n a->a≠0->r a≠0):LD n m jF 0 (λ_ a=>r a):=by
 refine⟨λc a _ ha=>hc a ha,h0,λa i b k ha _ hb _=>?_⟩;show r (jF a b)=jF (r a) (r b);unfold jF;have h2:=hr a ha
 split<;>split<;>grind
def pX{m:Nat}{r:Int->Int}(h:(∀a,zL 4 a->r a=a)\/(∀a,zL 4 a->r a=(if a=2 then 3 else if a=3 then 2 else a))):LD 4 m j4 0 (λ_ a=>r a):=by
 rcases h with h|h
 . refine⟨λc a _ ha=>by show zL 4 (r a);rw[h a ha];exact ha,h 0 ⟨by decide,by decide⟩,λa i b k ha _ hb _=>?_⟩;show r (j4 a b)=j4 (r a) (r b);rw[h a ha,h b hb,h _<|sU.cl a b ha hb]
 . refine⟨λc a _ ha=>by show zL 4 (r a);rw[h a ha];exact f4 (P:=λa=>zL 4 (if a=2 then 3 else if a=3 then 2 else a)) (by decide) ha,h 0 ⟨by decide,by decide⟩,λa i b k ha _ hb _=>?_⟩;show r (j4 a b)=j4 (r a) (r b);rw[h a ha,h b hb,h _<|sU.cl a b ha hb];have:∀a ∈ ([0,1,2,3]:List Int),∀b ∈ ([0,1,2,3]:List Int),(if j4 a b=2 then 3 else if j4 a b=3 then 2 else j4 a b)=j4 (if a=2 then 3 else if a=3 then 2 else a) (if b=2 then 3 else if b=3 then 2 else b):=by decide
   exact f4 (P:=λa=>(if j4 a b=2 then 3 else if j4 a b=3 then 2 else j4 a b)=j4 (if a=2 then 3 else if a=3 then 2 else a) (if b=2 then 3 else if b=3 then 2 else b)) (λa m=>f4 (P:=λb=>(if j4 a b=2 then 3 else if j4 a b=3 then 2 else j4 a b)=j4 (if a=2 then 3 else if a=3 then 2 else a) (if b=2 then 3 else if b=3 then 2 else b)) (this a m) hb) ha
def OT{n1 n2:Nat}{x y:Int}(hx:zL n1 x)(hy:zL n2 y):zL (n1*n2) (x*n2+y):=by
 have h1:0<=x*n2:=Int.mul_nonneg hx.1 (by omega);have h2:x*n2<=((n1:Int)-1)*n2:=Int.mul_le_mul_of_nonneg_right (by have:=hx.2;omega) (by omega);rw[Int.sub_mul,Int.one_mul]at h2;refine⟨by have:=hy.1;omega, ?_⟩;rw[zzV];have:=hy.2;omega
def yo{n1 n2:Nat}{p:Int}(h2:0<n2)(h:zL (n1*n2) p):zL n1 (p/n2)/\zL n2 (p%n2):=
 ⟨⟨Int.ediv_nonneg h.1 (by omega),Int.ediv_lt_of_lt_mul (by omega)<|by have:=h.2;rw[zzV]at this;exact this⟩,N9 h2⟩
def Gq{n2:Nat}{x y:Int}(hy:zL n2 y):(x*n2+y)/n2=x/\(x*n2+y)%n2=y:=by
 have h0:(n2:Int)≠0:=by have:=hy.1;have:=hy.2;omega
 constructor
 . rw[Int.add_comm,Int.add_mul_ediv_right _ _ h0,Int.ediv_eq_zero_of_lt hy.1 hy.2,Int.zero_add]
 . rw[Int.add_comm,Int.add_mul_emod_self_right,Int.emod_eq_of_lt hy.1 hy.2]
def uP{n2:Nat}{p:Int}:(p/n2)*n2+p%n2=p:=by rw[Int.mul_comm];exact Int.mul_ediv_add_emod p n2
def jB(n2:Nat)(j1 j2:Int->Int->Int)(p q:Int):Int:=j1 (p/n2) (q/n2)*n2+j2 (p%n2) (q%n2)
def dB(n2:Nat)(d1 d2:Int->Int->Int)(c p:Int):Int:=d1 c (p/n2)*n2+d2 c (p%n2)
def pY{n1 n2:Nat}{j1 j2:Int->Int->Int}(h1:LJ n1 j1 0)(h2:LJ n2 j2 0)(p2:0<n2):LJ (n1*n2) (jB n2 j1 j2) 0:=by
 refine⟨λa b ha hb=>?_, ?_,λa ha=>?_,λa ha=>?_,λa b c ha hb hc=>?_⟩
 . exact OT (h1.cl _ _ (yo p2 ha).1 (yo p2 hb).1)<|h2.cl _ _ (yo p2 ha).2 (yo p2 hb).2
 . have:=OT h1.ce h2.ce;simpa using this
 . unfold jB;rw[Int.zero_ediv,Int.zero_emod,h1.ul _ (yo p2 ha).1,h2.ul _ (yo p2 ha).2,uP]
 . unfold jB;rw[Int.zero_ediv,Int.zero_emod,h1.ur _ (yo p2 ha).1,h2.ur _ (yo p2 ha).2,uP]
 . unfold jB;rw[(Gq<|h2.cl _ _ (yo p2 ha).2 (yo p2 hb).2).1,(Gq<|h2.cl _ _ (yo p2 ha).2 (yo p2 hb).2).2,(Gq<|h2.cl _ _ (yo p2 hb).2 (yo p2 hc).2).1,(Gq<|h2.cl _ _ (yo p2 hb).2 (yo p2 hc).2).2,h1.as _ _ _ (yo p2 ha).1 (yo p2 hb).1 (yo p2 hc).1,h2.as _ _ _ (yo p2 ha).2 (yo p2 hb).2 (yo p2 hc).2]
def oW{n1 n2 m:Nat}{j1 j2 d1 d2:Int->Int->Int}(h1:LJ n1 j1 0)(h2:LJ n2 j2 0)(p2:0<n2)(e1:LD n1 m j1 0 d1)(e2:LD n2 m j2 0 d2):LD (n1*n2) m (jB n2 j1 j2) 0 (dB n2 d1 d2):=by
 refine⟨λc a hc ha=>OT (e1.cl _ _ hc (yo p2 ha).1)<|e2.cl _ _ hc (yo p2 ha).2, ?_,λa i b k ha hi hb hk=>?_⟩
 . unfold dB;rw[Int.zero_ediv,Int.zero_emod,e1.em,e2.em,Int.zero_mul,Int.add_zero]
 . unfold jB dB;rw[(Gq<|h2.cl _ _ (yo p2 ha).2 (yo p2 hb).2).1,(Gq<|h2.cl _ _ (yo p2 ha).2 (yo p2 hb).2).2,(Gq<|e2.cl i _ hi (yo p2 ha).2).1,(Gq<|e2.cl i _ hi (yo p2 ha).2).2,(Gq<|e2.cl k _ hk (yo p2 hb).2).1,(Gq<|e2.cl k _ hk (yo p2 hb).2).2,e1.dn _ _ _ _ (yo p2 ha).1 hi (yo p2 hb).1 hk,e2.dn _ _ _ _ (yo p2 ha).2 hi (yo p2 hb).2 hk]
def oF{n:Nat}{j:Int->Int->Int}{F B:Int->Int}(h:LJ n j 0)(hF:∀a,zL n a->zL n (F a))(hB:∀a,zL n a->zL n (B a))(hFB:∀a,zL n a->F (B a)=a)(hBF:∀a,zL n a->B (F a)=a):LJ n (λa b=>F<|j (B a)<|B b) (F 0):=by
 refine⟨λa b ha hb=>hF _<|h.cl _ _ (hB a ha)<|hB b hb,hF 0 h.ce,λa ha=>?_,λa ha=>?_,λa b c ha hb hc=>?_⟩
 . show F (j (B<|F 0)<|B a)=a;rw[hBF 0 h.ce,h.ul _<|hB a ha,hFB a ha]
 . show F (j (B a)<|B<|F 0)=a;rw[hBF 0 h.ce,h.ur _<|hB a ha,hFB a ha]
 . show F (j (B<|F<|j (B a)<|B b)<|B c)=F (j (B a)<|B<|F<|j (B b)<|B c);rw[hBF _<|h.cl _ _ (hB a ha)<|hB b hb,hBF _<|h.cl _ _ (hB b hb)<|hB c hc,h.as _ _ _ (hB a ha) (hB b hb)<|hB c hc]
def oY{n m:Nat}{j d:Int->Int->Int}{F B:Int->Int}(hm:0<m)(h:LJ n j 0)(e:LD n m j 0 d)(hF:∀a,zL n a->zL n (F a))(hB:∀a,zL n a->zL n (B a))(hFB:∀a,zL n a->F (B a)=a)(hBF:∀a,zL n a->B (F a)=a):LD n m (λa b=>F<|j (B a)<|B b) (F 0) (λc a=>F<|d c<|B a):=by
 refine⟨λc a hc ha=>hF _<|e.cl _ _ hc<|hB a ha, ?_,λa i b k ha hi hb hk=>?_⟩
 . show F (d 0<|B<|F 0)=F 0;rw[hBF 0 h.ce,e.em]
 . show F (d ((i+k)%m)<|B<|F<|j (B a)<|B b)=F (j (B<|F<|d i<|B a)<|B<|F<|d k<|B b);rw[hBF _<|h.cl _ _ (hB a ha)<|hB b hb,hBF _<|e.cl _ _ hi<|hB a ha,hBF _<|e.cl _ _ hk<|hB b hb,e.dn _ _ _ _ (hB a ha) hi (hB b hb) hk]
def GP{n k:Nat}(h:n<=8)(hk:8<=k:=by decide):n<=k:=zzO h hk
def Gs{n:Nat}(h:1<=n):(0:Int)<n:=Int.natCast_pos.mpr h
def GH{n:Nat}(h:1<=n):0<n:=h
def GA{n:Nat}(h:2<=n):0<n:=zzO (by decide) h
def Gz{x k:Int}(h:0<=x/\x<k) : -(10 ^ 200:Int)<x:=Int.lt_of_lt_of_le (by decide) h.1
def GO{x:Int}(h:0<=x/\x<2147483399):x<10 ^ 200:=Int.lt_trans h.2 (by decide)
def Gp{l i m:Nat}(h:m<=8)(e:l=0+i)(hi:i<m):l<1000:=by rw[e,zyY];exact zzK hi (zzO h<|by decide)
def Gu(i:Nat):0+i+1=i+1:=by rw[zyY]
def GD{l m:Nat}(h:l=0+m):l=m:=by rw[h,zyY]
def Gx{l k:Nat}{a:Int}(h:l=k)(hk:a<(k:Int):=by decide):a<(l:Int):=h ▸ hk
def tS{a:Int}{n:Nat}(h0:0<=a)(h1:a<n):a.toNat<n:=Int.ofNat_lt.mp (by rw[zyZ h0];exact h1)
def b6{n:Nat}(h:n<=6):(n:Int)<10 ^ 200:=Int.lt_of_le_of_lt (Int.ofNat_le.mpr h) (by decide)
def Gn{n:Nat}(h:n<=8):(n:Int)<10 ^ 200:=Int.lt_of_le_of_lt (Int.ofNat_le.mpr h) (by decide)
def GL(n:Nat) : -(10 ^ 200:Int)<n:=Int.lt_of_lt_of_le (by decide)<|Int.natCast_nonneg n
def mU{n:Nat}{k:Int}(h:n<=8)(hk:8<k:=by decide):(n:Int)<k:=Int.lt_of_le_of_lt (Int.ofNat_le.mpr h) hk
def iT{n:Nat}{x:Int}(h:zL n x):x.toNat<n:=Int.ofNat_lt.mp (by rw[zyZ h.1];exact h.2)
def iC{n:Nat}{x:Int}(h:zL n x):((x.toNat:Nat):Int)=x:=zyZ h.1
def zI(i:Nat):(0:Int)<=0+i:=by rw[Int.zero_add];exact Int.natCast_nonneg i
def GK{x:Int}(h:0<=x) : -(10 ^ 200:Int)<x:=Int.lt_of_lt_of_le (by decide) h
def GB{x:Int}{n:Nat}(h:x<(n:Int))(hn:n<=8):x<10 ^ 200:=Int.lt_trans h<|Gn hn
def zD(r:List Int)(v:Int):Int:=(r[v.toNat]?).getD 0
def yw(J:List (List Int))(w v:Int):Int:=zD ((J[w.toNat]?).getD []) v
open PySem PySem.Spec PyProof.Rows L2 PF
local macro_rules | `(tactic| trivial)=>`(tactic| first|with_reducible first|assumption|exact Int.natCast_nonneg _|exact Nat.le_refl _|exact Int.le_refl _|exact rfl|exact GP (by assumption)|exact Gs (by assumption)|exact np2 (by assumption)|exact GH (by assumption)|exact GA (by assumption)|exact Int.natCast_pos.mpr (by assumption)|exact Nat.le_trans (by assumption) (by decide)|exact GL _|exact Gn (by assumption)|exact mU (by assumption)|exact zI _|exact GK (by assumption)|exact GB (by assumption) (by assumption)|exact iL (by assumption)|exact iU (by assumption) (by assumption)|exact iC (by assumption)|exact iT (by assumption)|exact Gz (by assumption)|exact GO (by assumption)|exact Gp (by assumption) (by assumption) (by assumption)|exact Gu _|exact GD (by assumption)|exact Gx (by assumption)|exact Int.toNat_of_nonneg (by assumption)|exact tS (by assumption) (by assumption)|exact b6 (by assumption)|exact Int.emod_nonneg _ (by decide)|exact Int.emod_lt_of_pos _ (by decide)|decide|omega)
abbrev yt(x:Int):O:=.lf true<|.int x
abbrev sI(x:Int):Option O:=some<|yt x
abbrev sT(d:D):Option O:=some<|.lf true d
abbrev sN(os:List O):Option O:=some<|.nd .ls os
abbrev TZ:Type:=List<|List Int
abbrev DZ:Type:=List<|Str×TZ
abbrev SS:Type:=List<|Str×List Int
def YK{f:EF}{as as1:AS}{o:O}(h:f as=some (.ow o,as1))(hs:o.str=true):yi f as=some (.rt o):=by
 unfold yi;rw[h];show((if o.str=true then some o else none).bind _)=_;rw[if_pos hs];rfl
def Gk{n:Nat}(h:n<=1000000):n<=sizeLine:=zzO h (by decide)
theorem yX:∀xs:List Int,(xs.map yt).all O.isLf=true/\O.strs (xs.map yt)=true/\O.toDs (xs.map yt)=xs.map D.int
 | []=>⟨rfl,rfl,rfl⟩
 |x::r=>⟨(yX r).1,(yX r).2.1,congrArg (D.int x :: ·) (yX r).2.2⟩
def L6(xs:List Int):(xs.map D.int).map (O.lf true)=xs.map yt:=by rw[zyB];rfl
def AQ{as:AS}{i:Nat}{os:List O}{fl fh:OF}{lo hi:Option Int}(h:as[i]? = some (sN os))(hl:os.all O.isLf=true)(hs:O.strs os=true)(h1:fl as=some (lo,as))(h2:fh as=some (hi,as)):
 v_ (fV i) fl fh ZO as=some (.ow<|.nd .ls<|(cutD (O.toDs os) lo hi).map<|O.lf true,as):=by
 unfold v_;rw[W_ h];show((fl as).bind _)=_;rw[h1];show((fh as).bind _)=_;rw[h2];show((RV.view as<|.bo i).bind _)=_;rw[Yy h];have e:(O.nd .ls os).kl=some true:=by simp only[O.kl,hl,if_true,hs]
 rw[e];show(wrap (some true)<|.fl<|cutD (O.toDs os) lo hi).bind _=_;show(if((cutD (O.toDs os) lo hi).all zR||true)=true then some (RV.ow<|.nd .ls<|(cutD (O.toDs os) lo hi).map<|Nc true)else none:Option RV).bind _=_;rw[if_pos (by simp),Wc];rfl
def Bb{x:D}{xs:List D}:cutD (x::xs) (some 1) none=xs:=by
 have:=NK (xs:=[x]) (ys:=xs);have e:ZO (.lst<|[x]++xs) (some (([x]:List D).length:Int)) none=some (.fl<|cutD (x::xs) (some 1) none):=rfl;rw[e]at this;injection this with this
 injection this
abbrev oA:SF:=(zp (zy true 3<|f2 (f2 (f2 (f2 zA zA zC) (f2 (fC<|.int 48271) zA zC) zr) yc zr) (fC<|.int 2147483647) zx)
 (ym<|yN 2 (dC (f2 (f2 (f2 zA (fC<|.int 40692) zC) (f2 (fC<|.int 7) yc zC) zr) (fC<|.int 2147483399) zx) dN) yT))
def NC(ys:List Int)(w:Int):(ys++[w]).map yt=ys.map yt++[O.lf true<|.int w]:=by rw[zyM];rfl
theorem TY{A B:Option O}:∀(n:Nat) (k x:Int) (ys:List Int) (e4:Option O),0<=k->k+n<=1000->0<=x->x<2 ^ 40->ys.length+n<=1000->(∀y ∈ ys,0<=y/\y<2147483399)->∃(x':Int) (zs:List Int) (e4':Option O),zs.length=ys.length+n/\(∀z ∈ zs,0<=z/\z<2147483399)/\
 forL Zs oA (xb k n) [A,B,sN<|ys.map yt,sI x,e4]=some (.nx [A,B,sN<|zs.map yt,sI x',e4'])
 |0,k,x,ys,e4,_,_,_,_,_,h=>⟨x,ys,e4,rfl,h,rfl⟩
 |n+1,k,x,ys,e4,hk,hkn,hx0,hx1,hl,h=>by
  have y0:=zyN (x*x+48271*x+k) (show(2147483647:Int)≠0 by decide);have y1:=zyH (x*x+48271*x+k) (show(0:Int)<2147483647 by decide);have w0:=zyN ((x*x+48271*x+k)%2147483647*40692+7*k) (show(2147483399:Int)≠0 by decide);have w1:=zyH ((x*x+48271*x+k)%2147483647*40692+7*k) (show(0:Int)<2147483399 by decide);obtain⟨x',zs,e4',h1,h2,h3⟩:=TY (A:=A) (B:=B) n (k+1) ((x*x+48271*x+k)%2147483647) (ys++[((x*x+48271*x+k)%2147483647*40692+7*k)%2147483399]) (sI k) (by trivial) (by trivial) y0 (Int.lt_trans y1<|by decide) (by rw[zzJ];show ys.length+1+n<=_;trivial) (λz m=>by
   rcases zzM.mp m with m|m
   . exact h z m
   . rw[zzR.mp m];exact⟨w0,w1⟩)
  refine⟨x',zs,e4',by rw[h1,zzJ];show ys.length+1+n=_;trivial,h2, ?_⟩;rw[NC]at h3;rw[QQ];have bx:x.natAbs<big:=zU (Int.lt_of_lt_of_le (by decide) hx0) (Int.lt_trans hx1<|by decide);have bk:k.natAbs<big:=zU (by trivial) (by trivial);exact wK (as1:=[A,B,sN<|ys.map yt,sI x,sI k]) rfl (zV (yz (i:=3) (yj (yJ (yJ (xo (za rfl) (za rfl) bx bx)<|xo zb (za rfl) (zU (by decide)<|by decide) bx)<|za rfl) zb<|by decide)<|zk rfl)
   (Lp (i:=2) rfl (by rw[zzB];exact wL<|by trivial)<|yj (yJ (xo (za rfl) zb (zU (Int.lt_of_lt_of_le (by decide) y0)<|Int.lt_trans y1<|by decide)<|zU (by decide)<|by decide)<|xo zb (za rfl) (zU (by decide)<|by decide) bk) zb<|by decide)) h3
def BK{s:Bool}{c m:Int}(h0:0<=m)(h1:m<=900):∃xs:List Int,(xs.length:Int)=m/\(∀x ∈ xs,0<=x/\x<2147483399)/\yD [(true,.int c),(true,.int m)]=sN (xs.map yt):=by
 have y0:=zyN c (show(2147483647:Int)≠0 by decide);have y1:=zyH c (show(0:Int)<2147483647 by decide);obtain⟨x',zs,e4,z1,z2,hf⟩:=TY (A:=sI c) (B:=sI m) (m+1).toNat 0 (c%2147483647+48271) [] none (by trivial) (by trivial) (by trivial) (by trivial) (by show 0+_<=_;trivial) (λ_ m=>nomatch m);cases zs with
 |nil=>rw[List.length_nil]at z1;simp at z1;trivial
 |cons z r=>
  refine⟨r,by rw[zzT]at z1;simp at z1;trivial,λx hx=>z2 x<|zzD _ hx, ?_⟩;obtain⟨i1,i2,i3⟩:=yX (z::r);have hs:=AQ (as:=[sI c,sI m,sN<|(z::r).map yt,sI x',e4]) (i:=2) (fl:=oS zF) (fh:=oN) (lo:=some 1) (hi:=none) rfl i1 i2 rfl rfl;rw[i3]at hs;have hc:cutD ((z::r).map D.int) (some 1) none=r.map D.int:=Bb;rw[hc,L6]at hs;refine Yj rfl<|zV (yr (i:=2) (xp zG<|wd rfl)<|zk rfl)<|zV (yz (i:=3) (yJ (yj (za rfl) zb<|by decide) zb)<|zk rfl)<|zV (yQ (yR (zj (yJ (za rfl) zb) zw) (by trivial)<|by trivial) hf) ?_;exact YK hs (yX r).2.1
def Vf(xs:List Int):(O.nd .ls<|xs.map yt).str=true/\(O.nd .ls<|xs.map yt).toD = .lst (xs.map D.int):=⟨(yX xs).2.1,congrArg D.lst (yX xs).2.2⟩
abbrev yf(r:List Int):O:=.nd .ls<|r.map yt
abbrev zc(r:List Int):D:=.lst<|r.map D.int
theorem Wa:∀T:TZ,O.strs (T.map yf)=true/\O.toDs (T.map yf)=T.map zc
 | []=>⟨rfl,rfl⟩
 |r::T=>⟨by show(O.strs (r.map yt)&&O.strs (T.map yf))=true;rw[(yX r).2.1,(Wa T).1];rfl,by
  show D.lst (O.toDs<|r.map yt)::O.toDs (T.map yf)=_;rw[(yX r).2.2,(Wa T).2];rfl⟩
def VI{g:GF}{fe:EF}{as0 as1:AS}{y:Z_}{r:List Z_}{o:O}{os:List O}(h1:g y as0=some as1)(h2:fe as1=some (.ow o,as1))(hs:o.str=true)(h3:xv g zK fe as0 r=some os):xv g zK fe as0 (y::r)=some (o::os):=by
 unfold xv;rw[h1];show((fe as1).bind _)=_;rw[h2];show(if o.str=true then _ else _)=_;rw[if_pos hs,h3];rfl
theorem yH:∀(n:Nat) (k:Int),(xb k n).length=n
 |0,_=>rfl
 |n+1,k=>by rw[QQ];exact congrArg (· + 1)<|yH n<|k+1
theorem wg{f:D->D->Option Bool}:∀{xs:List D},(∀x ∈ xs,f x x=some true)->GR f xs xs=some true
 | [],_=>rfl
 |x::r,h=>by
  show(f x x).bind _=_;rw[h x<|zzF,zyL,wg (xs:=r) λy m=>h y<|zzD _ m];rfl
theorem FM:∀{n:Nat}{k:Int}{y:Z_},y ∈ xb k n->∃b:Int,y=(true,.int b)/\k<=b/\b<k+n
 |0,_,_,h=>nomatch h
 |n+1,k,y,h=>by
  rw[QQ]at h
  rcases zzC.mp h with rfl|h
  . exact⟨k,rfl,by trivial,by trivial⟩
  . obtain⟨b,e,h1,h2⟩:=FM h;exact⟨b,e,by trivial,by trivial⟩
theorem Ks{α:Type}(toD:α->D){Q:α->Prop}{g:GF}{fe:EF}{as0:AS}:∀{xs:List Z_},(∀y ∈ xs,∃as1 a,g y as0=some as1/\WE fe as1 (toD a)/\Q a)->∃(os:List O) (l:List α),xv g zK fe as0 xs=some os/\O.strs os=true/\O.toDs os=l.map toD/\l.length=xs.length/\∀a ∈ l,Q a
 | [],_=>⟨[],[],rfl,rfl,rfl,rfl,λ_ m=>nomatch m⟩
 |y::xs,H=>by
  obtain⟨as1,a,h1,⟨o,h2,h3,h4⟩,h5⟩:=H y<|zzF ..;obtain⟨os,l,a1,a2,a3,a4,a5⟩:=Ks toD (Q:=Q) (g:=g) (fe:=fe) (as0:=as0) (xs:=xs) λz m=>H z<|zzD _ m;refine⟨o::os,a::l,VI h1 h2 h3 a1,by show(o.str&&O.strs os)=true;rw[h3,a2];rfl,by show o.toD::O.toDs os=_;rw[h4,a3];rfl,congrArg (· + 1) a4,λb m=>?_⟩
  rcases zzC.mp m with rfl|m
  . exact h5
  . exact a5 b m
def Fg{α:Type}(toD:α->D){Q:α->Prop}{fi:IF}{cap:List (Option Nat)}{g:GF}{fe:EF}{as:AS}{xs:List Z_}(h1:fi as=some (xs,as))(hl:xs.length<=1000)(H:∀y ∈ xs,∃as1 a,g y (wM cap as)=some as1/\WE fe as1 (toD a)/\Q a):
 ∃l:List α,l.length=xs.length/\(∀a ∈ l,Q a)/\WE (zt fi cap g zK fe) as (.lst<|l.map toD):=by
 obtain⟨os,l,a1,a2,a3,a4,a5⟩:=Ks toD H;exact⟨l,a4,a5,_,YT h1 (Gk<|by trivial) a1,a2,congrArg D.lst a3⟩
def Tq{α:Type}(toD:α->D){Q:α->Prop}{fr:AF}{cap:List (Option Nat)}{fe:EF}{as:AS}{n:Nat}{u:Bool}(h1:WA fr as [(u,.int n)])(hl:n<=1000)(H:∀b:Int,0<=b->b<n->∃as1 a,gN 0 (true,.int b) (wM cap as)=some as1/\WE fe as1 (toD a)/\Q a):
 ∃l:List α,l.length=n/\(∀a ∈ l,Q a)/\WE (zt (z_ fr ya) cap zH zK fe) as (.lst<|l.map toD):=by
 obtain⟨l,a1,a2,a3⟩:=Fg toD (Q:=Q) (cap:=cap) (g:=gN 0) (fe:=fe) (yR h1 (by trivial)<|by trivial) (by rw[yH];trivial) (λy m=>by
  obtain⟨b,rfl,h0,h2⟩:=FM m;exact H b h0<|by trivial)
 rw[yH]at a1;exact⟨l,by trivial,a2,a3⟩
def HV{f:EF}{as:AS}{x:D}(h:WE f as x):∃o,yi f as=some (.rt o)/\o.str=true/\o.toD=x:=by
 obtain⟨o,h1,h2,h3⟩:=h;exact⟨o,YK h1 h2,h2,h3⟩
def yx{n m:Nat}{c:SF}{ds:List (Bool×D)}{x:D}(hl:ds.length=m)(h:∃o,c (YG n ds)=some (.rt o)/\o.str=true/\o.toD=x):RE (v3 n m c ds) x:=by
 obtain⟨o,h1,h2,h3⟩:=h;exact⟨o,Yj hl h1,h2,h3⟩
abbrev Rt(r:Option Out)(x:D):Prop:=∃o,r=some (.rt o)/\o.str=true/\o.toD=x
def zd{f g:SF}{as as1:AS}{x:D}(h1:f as=some (.nx as1))(h2:Rt (g as1) x):Rt (zp f g as) x:=by
 obtain⟨o,a,b,c⟩:=h2;exact⟨o,zV h1 a,b,c⟩
def xG{f g:SF}{as:AS}{x:D}(h1:Rt (f as) x):Rt (zp f g as) x:=by
 obtain⟨o,a,b,c⟩:=h1;exact⟨o,V6 a,b,c⟩
def wC{c:TF}{f g:SF}{as:AS}{x:D}(h:WT c as true)(h1:Rt (f as) x):Rt (wG c f g as) x:=by
 obtain⟨o,a,b,d⟩:=h1;exact⟨o,wa h a,b,d⟩
def yy{f:EF}{as:AS}{x:D}(h:WE f as x):Rt (yi f as) x:=HV h
def Row(n:Nat)(r:List Int):Prop:=r.length=n/\∀x ∈ r,0<=x/\x<(n:Int)
def Tab(k n:Nat)(T:TZ):Prop:=T.length=k/\∀r ∈ T,Row n r
abbrev zm(T:TZ):D:=.lst<|T.map zc
def Tt{r:List Int}{P:Int->Prop}{k:Int}(h0:0<=k)(h1:k<r.length)(hp:∀x ∈ r,P x):∃x,zg (zc r) (.int k)=some (.im<|.int x)/\P x:=by
 have hk:k.toNat<r.length:=by trivial
 refine⟨r[k.toNat], ?_,hp _<|zxA hk⟩;have h:=xk (xs:=r.map D.int) (j:=k.toNat) (v:=D.int r[k.toNat]) (by rw[zzI,zzE hk];rfl);rw[show((k.toNat:Nat):Int)=k by trivial]at h;show B5 (atI _ _)=_;rw[h];rfl
abbrev St(x:Int):Prop:=0<=x/\x<2147483399
def Jk{a b:EF}{as:AS}{c:Int}{m:Nat}(hm:m<=900)(ha:WE a as (.int c))(hb:WE b as (.int m)):∃xs:List Int,xs.length=m/\(∀x ∈ xs,St x)/\WE (zv (aC a<|aC b aN) yD) as (zc xs):=by
 obtain⟨xs,h1,h2,h3⟩:=BK (s:=true) (c:=c) (m:=m) (by trivial) (by trivial);exact⟨xs,by trivial,h2,Z7 ha hb ⟨_,h3,(Vf xs).1,(Vf xs).2⟩⟩
def QZ{α:Type}{f:α->D}{l:List α}{i:Nat}{p:α}(h:l[i]? = some p):zg (.lst<|l.map f) (.int (i:Int))=some (.im<|f p):=by
 have h:=xk (xs:=l.map f) (j:=i) (v:=f p) (by rw[zzI,h];rfl);show B5 (atI _ _)=_;rw[h];rfl
def Dd{n k:Nat}{r:List Int}{v:Int}(hl:r.length=k)(hr:∀x ∈ r,zL n x)(hv:zL k v):zg (zc r) (.int v)=some (.im<|.int<|zD r v)/\zL n (zD r v):=by
 have hk:v.toNat<r.length:=by rw[hl];have:=hv.1;have:=hv.2;trivial
 have g:=zzE hk;have e:zD r v=r[v.toNat]:=by unfold zD;rw[g];rfl
 rw[e];refine⟨?_,hr _<|zxA hk⟩;have:=QZ (f:=D.int) g;rw[show((v.toNat:Nat):Int)=v by have:=hv.1;trivial]at this;exact this
abbrev Pk(T:TZ)(w:Int):List Int:=(T[w.toNat]?).getD []
def xF{k n:Nat}{T:TZ}{w:Int}(hT:Tab k n T)(hw:zL k w):zg (zm T) (.int w)=some (.im<|zc<|Pk T w)/\Row n (Pk T w):=by
 have hk:w.toNat<T.length:=by rw[hT.1];have:=hw.1;have:=hw.2;trivial
 have g:=zzE hk;unfold Pk;rw[g];refine⟨?_,hT.2 _<|zxA hk⟩;have:=QZ (f:=zc) g;rw[show((w.toNat:Nat):Int)=w by have:=hw.1;trivial]at this;exact this
def rowAt{n:Nat}{r:List Int}{v:Int}(hr:Row n r)(hv:zL n v):zg (zc r) (.int v)=some (.im<|.int<|zD r v)/\zL n (zD r v):=Dd hr.1 hr.2 hv
theorem Fd{α:Type}(toD:α->D){Q:Nat->α->Prop}{g:GF}{fe:EF}{as0:AS}:∀{xs:List Z_}(k:Nat),(∀i y,xs[i]? = some y->∃as1 a,g y as0=some as1/\WE fe as1 (toD a)/\Q (k+i) a)->∃(os:List O) (l:List α),xv g zK fe as0 xs=some os/\O.strs os=true/\O.toDs os=l.map toD/\l.length=xs.length/\∀i a,l[i]? = some a->Q (k+i) a
 | [],k,_=>⟨[],[],rfl,rfl,rfl,rfl,λi a h=>by simp at h⟩
 |y::xs,k,H=>by
  obtain⟨as1,a,h1,⟨o,h2,h3,h4⟩,h5⟩:=H 0 y rfl;obtain⟨os,l,a1,a2,a3,a4,a5⟩:=Fd toD (Q:=Q) (g:=g) (fe:=fe) (as0:=as0) (xs:=xs) (k+1) λi z m=>by
   have:=H (i+1) z (by simpa using m)
   rwa [show k+(i+1)=k+1+i by trivial]at this
  refine⟨o::os,a::l,VI h1 h2 h3 a1,by show(o.str&&O.strs os)=true;rw[h3,a2];rfl,by show o.toD::O.toDs os=_;rw[h4,a3];rfl,congrArg (· + 1) a4,λi b m=>?_⟩;cases i with
  |zero=>simp at m;subst m;exact h5
  |succ i=>
   have:=a5 i b (by simpa using m)
   rwa [show k+1+i=k+(i+1) by trivial]at this
def Km{α:Type}(toD:α->D){Q:Nat->α->Prop}{fi:IF}{cap:List (Option Nat)}{g:GF}{fe:EF}{as:AS}{xs:List Z_}(h1:fi as=some (xs,as))(hl:xs.length<=1000)(H:∀i y,xs[i]? = some y->∃as1 a,g y (wM cap as)=some as1/\WE fe as1 (toD a)/\Q i a):
 ∃l:List α,l.length=xs.length/\(∀i a,l[i]? = some a->Q i a)/\WE (zt fi cap g zK fe) as (.lst<|l.map toD):=by
 obtain⟨os,l,a1,a2,a3,a4,a5⟩:=Fd toD (Q:=Q) (g:=g) (fe:=fe) (as0:=wM cap as) 0 (λi y h=>by rw[zyY];exact H i y h);exact⟨l,a4,(λi a h=>by have:=a5 i a h;rwa [zyY]at this),_,YT h1 (Gk<|by trivial) a1,a2,congrArg D.lst a3⟩
abbrev Wu(N n:Nat)(f:Int->Int)(r:List Int):Prop:=r.length=n/\(∀x ∈ r,zL N x)/\∀b,zL n b->zD r b=f b
abbrev Qe(k n:Nat)(f:Int->Int->Int)(T:TZ):Prop:=Tab k n T/\∀a b,zL k a->zL n b->yw T a b=f a b
def L9{N n:Nat}{f:Int->Int}{l:List Int}(hl:l.length=n)(h:∀(i:Nat) a,l[i]? = some a->a=f i/\zL N a):Wu N n f l:=by
 refine⟨hl,λx m=>?_,λb hb=>?_⟩
 . obtain⟨i,hi⟩:=zyV m;exact(h i x hi).2
 . have hk:b.toNat<l.length:=by rw[hl];have:=hb.1;have:=hb.2;trivial
   have g:=zzE hk;unfold zD;rw[g];show l[b.toNat]=_;rw[(h _ _ g).1,show((b.toNat:Nat):Int)=b by have:=hb.1;trivial]
def Wl{k n:Nat}{f:Int->Int->Int}{l:TZ}(hl:l.length=k)(h:∀(i:Nat) r,l[i]? = some r->Wu n n (f i) r):Qe k n f l:=by
 refine⟨⟨hl,λx m=>?_⟩,λa b ha hb=>?_⟩
 . obtain⟨i,hi⟩:=zyV m;exact⟨(h i x hi).1,(h i x hi).2.1⟩
 . have hk:a.toNat<l.length:=by rw[hl];have:=ha.1;have:=ha.2;trivial
   have g:=zzE hk;unfold yw;rw[g];show zD l[a.toNat] b=_;have:=(h _ _ g).2.2 b hb;rw[show((a.toNat:Nat):Int)=a by have:=ha.1;trivial]at this;exact this
def V3{f:Int->Int}{N:Nat}{fr:AF}{cap:List (Option Nat)}{fe:EF}{as:AS}{n:Nat}{u:Bool}(h1:WA fr as [(u,.int n)])(hl:n<=1000)(H:∀b:Int,zL n b->∃as1,gN 0 (true,.int b) (wM cap as)=some as1/\WE fe as1 (.int<|f b)/\zL N (f b)):
 ∃r:List Int,Wu N n f r/\WE (zt (z_ fr ya) cap zH zK fe) as (zc r):=by
 obtain⟨l,a1,a2,a3⟩:=Km D.int (Q:=λi a=>a=f i/\zL N a) (cap:=cap) (g:=gN 0) (fe:=fe) (yR h1 (by trivial)<|by trivial) (by rw[yH];trivial) (λi y m=>by
  obtain⟨rfl,hi⟩:=xm m;obtain⟨as1,b1,b2,b3⟩:=H (0+i) ⟨by trivial,by trivial⟩;exact⟨as1,f<|0+i,b1,b2,by rw[Int.zero_add],b3⟩)
 rw[yH]at a1;exact⟨l,L9 (by trivial) a2,a3⟩
def RL{f:Int->Int->Int}{n:Nat}{fr:AF}{cap:List (Option Nat)}{fe:EF}{as:AS}{k:Nat}{u:Bool}(h1:WA fr as [(u,.int k)])(hl:k<=1000)(H:∀b:Int,zL k b->∃as1 r,gN 0 (true,.int b) (wM cap as)=some as1/\WE fe as1 (zc r)/\Wu n n (f b) r):
 ∃T:TZ,Qe k n f T/\WE (zt (z_ fr ya) cap zH zK fe) as (zm T):=by
 obtain⟨l,a1,a2,a3⟩:=Km zc (Q:=λi r=>Wu n n (f i) r) (cap:=cap) (g:=gN 0) (fe:=fe) (yR h1 (by trivial)<|by trivial) (by rw[yH];trivial) (λi y m=>by
  obtain⟨rfl,hi⟩:=xm m;obtain⟨as1,r,b1,b2,b3⟩:=H (0+i) ⟨by trivial,by trivial⟩;rw[Int.zero_add]at b3;exact⟨as1,r,b1,b2,b3⟩)
 rw[yH]at a1;exact⟨l,Wl (by trivial) a2,a3⟩
def MH:∀(b:Nat) (a:Int) (f:Nat),b<f->0<a->a<1000->b<1000->∃g e,0<g/\g<1000/\g ∣ a/\g ∣ (b:Int)/\B4 (fT<|f2 zh zN<|zB .Gt) (OK 0 1<|dC zh<|dC (f2 zf zh zx) dN) f [sI a,sI b]=some (.nx [sI g,e]):=by
 intro b
 induction b using Nat.strongRecOn with
 |ind b ih=>
  intro a f hf ha ha2 hb2;cases f with
  |zero=>trivial
  |succ f=>
   by_cases hb:b=0
   . subst hb;exact⟨a,_,ha,ha2,Int.dvd_refl a,Int.dvd_zero a,M9<|zE (VQ (za rfl) zb) rfl⟩
   . have m0:=zyN a (show(b:Int)≠0 by trivial);have m1:=zyH a (show(0:Int)<b by trivial);obtain⟨g,e,g0,g1,d1,d2,hg⟩:=ih (a%b).toNat (by trivial) b f (by trivial) (by trivial) (by trivial) (by trivial);rw[show(((a%b).toNat:Nat):Int)=a%b by trivial]at hg d2;refine⟨g,e,g0,g1, ?_,d1,Sk (zE (VQ (za rfl) zb)<|congrArg some<|zyO<|show(0:Int)<b by trivial) (JE (ze (za rfl)<|ze (yj (za rfl) (za rfl)<|by trivial) zG) (zk rfl)<|zk rfl) hg⟩;rw[<-Int.mul_ediv_add_emod a b];exact Int.dvd_add (Int.dvd_trans d1<|Int.dvd_mul_right _ _) d2
def Ez{n m:Nat}{s t:Bool}(hn:0<n)(hn2:n<=8)(hm:m<=8):∃g:Int,0<g/\g<1000/\g ∣ (n:Int)/\g ∣ (m:Int)/\Z8 [(true,.int n),(true,.int m)]=sI g:=by
 obtain⟨g,e,g0,g1,d1,d2,hg⟩:=MH m n 10000 (by trivial) (by trivial) (by trivial) (by trivial);exact⟨g,g0,g1,d1,d2,Yj rfl<|zV hg<|XD<|za rfl⟩
theorem strs_snoc:∀(os:List O) (o:O),O.strs os=true->o.str=true->O.strs (os++[o])=true
 | [],o,_,h=>by show(o.str&&true)=true;rw[h];rfl
 |p::r,o,h,h'=>by
  have h:=(zyC _ _).mp<|show(p.str&&O.strs r)=true from h;show(p.str&&O.strs (r++[o]))=true;rw[h.1,strs_snoc r o h.2 h'];rfl
theorem QT:∀(os:List O) (o:O),O.toDs (os++[o])=O.toDs os++[o.toD]
 | [],o=>rfl
 |p::r,o=>congrArg (p.toD :: ·)<|QT r o
structure Ows{α:Type}(toD:α->D)(Q:α->Prop)(os:List O)(l:List α):Prop where
 st:O.strs os=true
 ds:O.toDs os=l.map toD
 al:∀a ∈ l,Q a
 ln:os.length=l.length
def Ows.nil{α:Type}{toD:α->D}{Q:α->Prop}:Ows toD Q [] []:=⟨rfl,rfl,(λ_ m=>nomatch m),rfl⟩
def Ows.snoc{α:Type}{toD:α->D}{Q:α->Prop}{os:List O}{l:List α}{o:O}{a:α}(h:Ows toD Q os l)(h1:o.str=true)(h2:o.toD=toD a)(h3:Q a):Ows toD Q (os++[o]) (l++[a]):=
 ⟨strs_snoc os o h.st h1,(by rw[QT,h.ds,h2,zyM];rfl),(λb m=>(zzM.mp m).elim (h.al b) λm=>(by rw[zzR.mp m];exact h3)),(by rw[zzJ,zzJ,h.ln];rfl)⟩
def KY{as as1:AS}{a:EF}{i:Nat}{os0 os:List O}{o:O}(h:as[i]? = some (sN os0))(ha:a as=some (.ow o,as1))(h1:as1[i]? = some (sN os))(hl:os.length<sizeLine):ym (yN i (dC a dN) yT) as=some (.nx<|as1.set i<|sN<|os++[o]):=by
 unfold ym yN;rw[h];have e:dC a dN as=some ([o],as1):=zP ha rfl;show((dC a dN as).bind _).bind _=_;rw[e];show(Option.bind (match as1[i]? with|some (some<|.nd .ls os)=>_|_=>none) _)=_;rw[h1];show((yT os [o]).bind _).bind _=_;have e2:yT os [o]=some (os++[o],.lf true .non):=by unfold yT;exact if_pos hl
 rw[e2];rfl
def Oa{α:Type}{toD:α->D}{Q:α->Prop}{as:AS}{a:EF}{i:Nat}{os:List O}{l:List α}{x:α}(h:as[i]? = some (sN os))(ho:Ows toD Q os l)(hl:l.length<1000)(ha:WE a as (toD x))(hx:Q x):
 ∃os',Ows toD Q os' (l++[x])/\ym (yN i (dC a dN) yT) as=some (.nx<|as.set i<|sN os'):=by
 obtain⟨o,h1,h2,h3⟩:=ha;exact⟨os++[o],ho.snoc h2 h3 hx,KY h h1 h<|by rw[ho.ln];exact wL<|by trivial⟩
def Ows.retB{α:Type}{toD:α->D}{Q:α->Prop}{as:AS}{i:Nat}{os:List O}{l:List α}(h:as[i]? = some (sN os))(ho:Ows toD Q os l):Rt (yi (fV i) as) (.lst<|l.map toD):=
 ⟨_,L8 h ho.st,ho.st,congrArg D.lst ho.ds⟩
def at2{xs:List Int}(h:∀x ∈ xs,St x){k:Int}(h0:0<=k)(h1:k<xs.length):∃x,zg (zc xs) (.int k)=some (.im<|.int x)/\St x:=Tt h0 h1 h
def wV{x:Int}{n:Nat}(hn:0<n):0<=x%n/\x%n<(n:Int):=⟨zyN _ (by trivial),zyH _<|by trivial⟩
structure OwsX{α:Type}(toD:α->D)(Q:Nat->α->Prop)(os:List O)(l:List α):Prop where
 st:O.strs os=true
 ds:O.toDs os=l.map toD
 al:∀i a,l[i]? = some a->Q i a
 ln:os.length=l.length
def OwsX.nil{α:Type}{toD:α->D}{Q:Nat->α->Prop}:OwsX toD Q [] []:=⟨rfl,rfl,(λi a h=>by simp at h),rfl⟩
def OwsX.snoc{α:Type}{toD:α->D}{Q:Nat->α->Prop}{os:List O}{l:List α}{o:O}{a:α}(h:OwsX toD Q os l)(h1:o.str=true)(h2:o.toD=toD a)(h3:Q l.length a):OwsX toD Q (os++[o]) (l++[a]):=by
 refine⟨strs_snoc os o h.st h1,(by rw[QT,h.ds,h2,zyM];rfl),(λi b m=>?_),(by rw[zzJ,zzJ,h.ln];rfl)⟩
 by_cases hi:i<l.length
 . rw[zyP hi]at m;exact h.al i b m
 . have hl:=(zzG.mp m).1;rw[zzJ]at hl;have e:i=l.length:=by have:i<l.length+1:=hl;trivial
   subst e;rw[zyR<|zzN _,Nat.sub_self]at m;cases m;exact h3
def OwsX.ows{α:Type}{toD:α->D}{Q:Nat->α->Prop}{os:List O}{l:List α}(h:OwsX toD Q os l):Ows toD (λ_=>True) os l:=⟨h.st,h.ds,(λ_ _=>trivial),h.ln⟩
def Hy{α:Type}{toD:α->D}{Q:Nat->α->Prop}{as:AS}{a:EF}{i:Nat}{os:List O}{l:List α}{x:α}(h:as[i]? = some (sN os))(ho:OwsX toD Q os l)(hl:l.length<1000)(ha:WE a as (toD x))(hx:Q l.length x):
 ∃os',OwsX toD Q os' (l++[x])/\ym (yN i (dC a dN) yT) as=some (.nx<|as.set i<|sN os'):=by
 obtain⟨o,h1,h2,h3⟩:=ha;exact⟨os++[o],ho.snoc h2 h3 hx,KY h h1 h<|by rw[ho.ln];exact wL<|by trivial⟩
def Ce{n m:Nat}{xs:List Int}(hn:0<n)(hn2:n<=8)(hm0:0<m)(hm:m<=8)(hl:xs.length=9)(hx:∀x ∈ xs,St x):∃T,(Tab m n T/\LD n m (jS n) 0 (yw T))/\RE (Vv [(true,.int n),(true,.int m),(true,zc xs)]) (zm T):=by
 obtain⟨g,g0,g1,gn,gm,hg⟩:=Ez (s:=true) (t:=true) (n:=n) (m:=m) hn hn2 hm;obtain⟨x0,a0,b0⟩:=at2 hx (k:=0) (by trivial) (by trivial);obtain⟨x1,a1,b1⟩:=at2 hx (k:=1) (by trivial) (by trivial);have q0:0<=(n:Int)/g:=Int.ediv_nonneg (by trivial) (by trivial);have q1:(n:Int)/g<=n:=Int.ediv_le_self _ (by trivial);have hLD:=oO (x0:=x0) (x1:=x1) hn hm0 g0 gn gm;generalize hst:(n:Int)/g=st at q0 q1 hLD;have st4:∀(os:List O) (c:Int),0<=c->c<8->∃l:List Int,Wu n n (λa=>(a*x0+c*st*x1)%n) l/\WE (zt (z_ y8 ya) [none,some 0,some 2,some 5,some 3] zH zK<|f2 (f2 (f2 zf (f2 zo zN zg) zC) (f2 (f2 zA yc zC) (f2 zo zF zg) zC) zr) zh zx)
  [sI n,sI m,sT<|zc xs,sI st,sN os,sI c] (zc l):=λos c c0 c1=>
  V3 (N:=n) (n:=n) (zj (za rfl) zw) (by trivial) λb ⟨h0,h1⟩=>by
   have cs:0<=c*st/\c*st<=64:=⟨Int.mul_nonneg c0 q0,by have:=Int.mul_le_mul (show c<=8 by trivial) (show st<=8 by trivial) q0 (by trivial);trivial⟩;exact⟨[sI b,sI n,sT<|zc xs,sI c,sI st],rfl,WD.e (yj (yJ (xo (za rfl) (zq (za rfl) zb a0 rfl) (zU (by trivial)<|by trivial)<|zU (by trivial)<|by trivial)<|xo (xo (za rfl) (za rfl) (zU (by trivial)<|by trivial)<|zU (by trivial)<|by trivial) (zq (za rfl) zb a1 rfl) (zU (by trivial)<|by trivial)<|zU (by trivial)<|by trivial) (za rfl)<|by trivial),wV hn⟩
 obtain⟨as',hf,os,l,e5,rfl,ho,hlen⟩:=yG (g:=gN 5) (f:=ym<|yN 4 (dC (zt (z_ y8 ya) [none,some 0,some 2,some 5,some 3] zH zK<|f2 (f2 (f2 zf (f2 zo zN zg) zC) (f2 (f2 zA yc zC) (f2 zo zF zg) zC) zr) zh zx) dN) yT)
  (λi as=>∃(os:List O) (l:TZ) (e5:Option O),as=[sI n,sI m,sT<|zc xs,sI st,sN os,e5]/\OwsX zc (λ(i:Nat) r=>Wu n n (λa=>(a*x0+(i:Int)*st*x1)%n) r) os l/\l.length=i)
  (xb 0 m) 0 [sI n,sI m,sT<|zc xs,sI st,sN [],none] (λi x as hx' hI=>by
   obtain⟨os,l,e5,rfl,ho,hlen⟩:=hI;obtain⟨rfl,hi⟩:=xm hx';obtain⟨r,r1,r3⟩:=st4 os (0+i) (by trivial) (by trivial);obtain⟨os',o1,o2⟩:=Hy (x:=r) (i:=4) (toD:=zc) (Q:=λ(i:Nat) r=>Wu n n (λa=>(a*x0+(i:Int)*st*x1)%n) r) rfl ho (by trivial) r3 (by rw[hlen,zyY];rw[Int.zero_add]at r1;exact r1);exact⟨[sI n,sI m,sT<|zc xs,sI st,sN os,sI<|0+i],rfl,_,o2,os',l++[r],_,rfl,o1,by rw[zzJ,hlen];rfl⟩)
  ⟨[],[],none,rfl,OwsX.nil,rfl⟩
 rw[yH]at hlen;have hT:Qe m n (λc a=>(a*x0+c*st*x1)%n) l:=Wl (by trivial) ho.al;refine⟨l,⟨hT.1,hLD.congr hm0 (pD hn) (λ_ _ _ _=>rfl) hT.2⟩,yx rfl<|zd (as1:=[sI n,sI m,sT<|zc xs,sI st,none,none]) ?_<|zd (yr (i:=4) (xp zG<|wd rfl)<|zk rfl)<|zd (yQ (yR (zj (za rfl) zw) (by trivial)<|by trivial) hf)<|Ows.retB (i:=4) rfl ho.ows⟩;have:=yz (st:=true) (i:=3) (as:=[sI n,sI m,sT<|zc xs,none,none,none]) (vK (za (i:=0) rfl) (Ze (zj (za (i:=0) rfl)<|zj (za (i:=1) rfl) zw) hg) g0<|zU (by trivial)<|by trivial)<|zk rfl;rw[hst]at this;exact this
def IT{fr:AF}{as:AS}{rs:List (Bool×D)}{g:List D->Option R0}{zs:List D}(ha:WA fr as rs)(hg:g (rs.map (·.2))=some (.fl zs)):fP fr g as=some (.ow (.nd .ls (zs.map (Nc (rs.all (·.1))))),as):=by
 unfold fP;unfold WA at ha;rw[ha];show(views as _).bind _=_;rw[Xy];show(g _).bind _=_;rw[hg];show(if(zs.all zR||(some (rs.all (·.1))).isSome)=true then _ else _:Option RV).bind _=_;rw[if_pos<|by simp];rfl
def Lh{a:EF}{as:AS}{x:D}{g:List D->Option R0}{zs:List D}(ha:WE a as x)(hg:g [x]=some (.fl zs)):fP (aC a aN) g as=some (.ow<|.nd .ls<|zs.map<|O.lf true,as):=by
 have:=IT (g:=g) (vY ha<|zw (as:=as)) hg;rw[show([(true,x)].all (·.1))=true from rfl,Wc]at this;exact this
def Jg{a:EF}{as:AS}{s:Bool}{r:List Int}(h:WD a as s (zc r)):fP (aC a aN) lstP as=some (.ow<|yf r,as):=by
 have:=IT (g:=lstP) (zj h<|zw (as:=as)) rfl;rw[zyB]at this;exact this
def Ar{a:EF}{as:AS}{s:Bool}{r:List Int}(h:WD a as s (zc r)):WE (fP (aC a aN) lstP) as (zc r):=⟨_,Jg h,(Vf r).1,(Vf r).2⟩
def AY{a b c d:EF}{as:AS}{x y z u w:D}{g:List (Bool×D)->Option O}(ha:WE a as x)(hb:WE b as y)(hc:WE c as z)(hd:WE d as u)(hg:RE (g [(true,x),(true,y),(true,z),(true,u)]) w):WE (zv (aC a<|aC b<|aC c<|aC d aN) g) as w:=by
 obtain⟨o,h1,h2⟩:=hg;exact⟨o,vU (vY ha<|vY hb<|vY hc<|vY hd zw) (by show g [(zR x||true,x),(zR y||true,y),(zR z||true,z),(zR u||true,u)]=_;rw[zyD,zyD,zyD,zyD];exact h1),h2⟩
def K5{a b c d e:EF}{as:AS}{x y z u v w:D}{g:List (Bool×D)->Option O}(ha:WE a as x)(hb:WE b as y)(hc:WE c as z)(hd:WE d as u)(he:WE e as v)(hg:RE (g [(true,x),(true,y),(true,z),(true,u),(true,v)]) w):WE (zv (aC a<|aC b<|aC c<|aC d<|aC e aN) g) as w:=by
 obtain⟨o,h1,h2⟩:=hg;exact⟨o,vU (vY ha<|vY hb<|vY hc<|vY hd<|vY he zw) (by show g [(zR x||true,x),(zR y||true,y),(zR z||true,z),(zR u||true,u),(zR v||true,v)]=_;rw[zyD,zyD,zyD,zyD,zyD];exact h1),h2⟩
def Q4{fr:DF}{as:AS}{os:List O}{x:D}(h:WO fr as os)(hl:os.length<=sizeLine)(hs:O.strs os=true)(e:D.tup (O.toDs os)=x):WE (zX fr) as x:=by
 refine⟨_,Te h hl, ?_, ?_⟩
 . unfold Zb
   split
   . exact hs
   . exact hs
 . unfold Zb
   split
   . exact e
   . exact e
theorem Qk:∀l:List Int,vZ (l.map D.int)=some l
 | []=>rfl
 |x::r=>by
  show(vZ<|r.map D.int).bind _=_;rw[Qk r];rfl
def Si{n m:Nat}{fr:AF}{cap:List (Option Nat)}{as:AS}{u s:Bool}{r:List Int}(hr:Row n r)(hm:m<=8)(h1:WA fr as [(u,.int m)])(h2:∀b:Int,∃as1,gN 0 (true,.int b) (wM cap as)=some as1/\WD zh as1 s (zc r)):
 ∃T,Qe m n (λ_ a=>zD r a) T/\WE (zt (z_ fr ya) cap zH zK<|fP y6 lstP) as (zm T):=
 RL (f:=λ_ a=>zD r a) (n:=n) (k:=m) (cap:=cap) (fe:=fP y6 lstP) h1 (by trivial) λb _=>by
  obtain⟨as1,g1,g2⟩:=h2 b;exact⟨as1,r,g1,Ar g2,hr.1,hr.2,λ_ _=>rfl⟩
def Bg{l:List Int}(h:l.Pairwise (· <= ·)){i j:Nat}(hij:i<j)(hj:j<l.length):l[i]<=l[j]:=List.pairwise_iff_getElem.mp h i j (by trivial) hj hij
def Yw{r:List Int}{a:Int}(h:a.toNat<r.length):zD r a=r[a.toNat]:=by unfold zD;rw[zzE h];rfl
def Ba{n m:Nat}{xs:List Int}(hn:0<n)(hn2:n<=8)(hm0:0<m)(hm:m<=8)(hl:xs.length=9)(hx:∀x ∈ xs,St x):∃T,(Tab m n T/\LD n m jM 0 (yw T))/\RE (YE [(true,.int n),(true,.int m),(true,zc xs)]) (zm T):=by
 obtain⟨l,l1,l2,l3⟩:=Tq (as:=[sI n,sI m,sT<|zc xs,none]) (u:=true) D.int (Q:=λx=>0<=x/\x<(n:Int)) (n:=n-1) (cap:=[none,some 0,some 2]) (fr:=aC (f2 zf zF YC) aN) (fe:=f2 (f2 zo zf zg) zh zx)
  (by rw[show(((n-1:Nat):Nat):Int)=(n:Int)-1 by trivial];exact zj (EG (za rfl) zb) zw) (by trivial) (λb h0 h1=>by
   obtain⟨x,hx1,hx2⟩:=at2 hx (k:=b) h0 (by trivial);exact⟨[sI b,sI n,sT<|zc xs],_,rfl,WD.e (yj (zq (za rfl) (za rfl) hx1 rfl) (za rfl)<|by trivial),wV hn⟩)
 have w0:WE (f2 (yK<|dC zN dN) (zt (z_ (aC (f2 zf zF YC) aN) ya) [none,some 0,some 2] zH zK<|f2 (f2 zo zf zg) zh zx) zr) [sI n,sI m,sT<|zc xs,none] (.lst<|(0::l).map D.int):=
  OL (xy (os:=[yt 0]) (ze zb zG) (wd rfl) rfl rfl) l3 (add_lists<|by rw[zzB];exact Gk (by show 1+_<=_;trivial))
 have hp:=sortI_perm (0::l);have hlen:(sortI (0::l)).length=n:=by rw[hp.length_eq,zzT];trivial
 have hr:Row n ((sortI (0::l)).set 0 0):=by
  refine⟨by rw[zzU];exact hlen,λx m=>?_⟩
  rcases List.mem_or_eq_of_mem_set m with m|rfl
  . rcases zzC.mp (hp.mem_iff.mp m)with rfl|m
    . trivial
    . exact l2 x m
  . trivial
 have s3:=yr (i:=3) (Lh (g:=HJ) w0<|by
  show(vZ<|(0::l).map D.int).bind _=_;rw[Qk];show(if(0::l).length<64 then _ else _)=_;rw[if_pos<|by rw[zzT];trivial])<|zk rfl
 rw[L6]at s3;have s4:HI 3 (xC 0) (xC 0) [sI n,sI m,sT<|zc xs,sN<|(sortI (0::l)).map yt]=some (.nx [sI n,sI m,sT<|zc xs,sN<|((sortI (0::l)).set 0 0).map yt]):=by
  cases hs:sortI (0::l)with
  |nil=>rw[hs]at hlen;simp at hlen;trivial
  |cons y t=>rfl
 obtain⟨T,t1,t2⟩:=Si (n:=n) (m:=m) (s:=false) (u:=true) (cap:=[none,some 3]) (as:=[sI n,sI m,sT<|zc xs,sN<|((sortI (0::l)).set 0 0).map yt]) (fr:=aC zh aN) hr hm (zj (za rfl) zw) λb=>⟨[sI b,some<|.lf false<|.lst<|O.toDs<|((sortI (0::l)).set 0 0).map yt],rfl,by rw[(yX _).2.2];exact za rfl⟩;have hz:zD ((sortI (0::l)).set 0 0) 0=0:=by
  rw[Yw<|by rw[hr.1];exact hn];exact List.getElem_set_self (by rw[zzU,hlen];exact hn)
 have hLD:LD n m jM 0 (λ_ a=>zD ((sortI (0::l)).set 0 0) a):=by
  refine oR hm0 hz (λa ha=>(rowAt hr ha).2) λa b ha hb hab=>?_
  by_cases h0:a=0
  . rw[h0,hz];exact(rowAt hr hb).2.1
  by_cases he:a=b
  . rw[he];exact Int.le_refl _
  have a0:=ha.1;have b1:=hb.2;rw[Yw (by rw[hr.1];trivial),Yw (by rw[hr.1];trivial),List.getElem_set_ne (by trivial),List.getElem_set_ne<|by trivial];exact Bg (Yr (0::l)) (by trivial) (by rw[hlen];trivial)
 exact⟨T,⟨t1.1,hLD.congr hm0 (qB hn) (λ_ _ _ _=>rfl) t1.2⟩,yx rfl<|zd s3<|zd s4<|yy t2⟩
def FK{n m:Nat}{xs:List Int}(hn:2<=n)(hn2:n<=8)(hm0:0<m)(hm:m<=8)(hl:xs.length=9)(hx:∀x ∈ xs,St x):∃T,(Tab m n T/\LD n m jL 0 (yw T)/\LD n m jF 0 (yw T))/\RE (Vt [(true,.int n),(true,.int m),(true,zc xs)]) (zm T):=by
 obtain⟨l,l1,l2,l3⟩:=Tq (as:=[sI n,sI m,sT<|zc xs,none]) (u:=true) D.int (Q:=λx=>1<=x/\x<(n:Int)) (n:=n-1) (cap:=[none,some 2,some 0]) (fr:=aC (f2 zf zF YC) aN) (fe:=f2 zF (f2 (f2 zh zf zg) (f2 zo zF YC) zx) zr)
  (by rw[show(((n-1:Nat):Nat):Int)=(n:Int)-1 by trivial];exact zj (EG (za rfl) zb) zw) (by trivial) (λb h0 h1=>by
   obtain⟨x,hx1,hx2⟩:=at2 hx (k:=b) h0 (by trivial);have m0:=zyN x (show(n:Int)-1≠0 by trivial);have m1:=zyH x (show(0:Int)<(n:Int)-1 by trivial);exact⟨[sI b,sT<|zc xs,sI n],_,rfl,WD.e (yJ zb<|yj (zq (za rfl) (za rfl) hx1 rfl) (EG (za rfl) zb)<|by trivial),by trivial,by trivial⟩)
 have w0:WE (f2 (yK<|dC zN dN) (zt (z_ (aC (f2 zf zF YC) aN) ya) [none,some 2,some 0] zH zK<|f2 zF (f2 (f2 zh zf zg) (f2 zo zF YC) zx) zr) zr) [sI n,sI m,sT<|zc xs,none] (.lst<|(0::l).map D.int):=
  OL (xy (os:=[yt 0]) (ze zb zG) (wd rfl) rfl rfl) l3 (add_lists<|by rw[zzB];exact Gk (by show 1+_<=_;trivial))
 have hr:Row n (0::l):=⟨by rw[zzT];trivial,λx m=>by
  rcases zzC.mp m with rfl|m
  . trivial
  . have:=l2 x m;trivial⟩
 obtain⟨T,t1,t2⟩:=Si (n:=n) (m:=m) (s:=true) (u:=true) (cap:=[none,some 3]) (as:=[sI n,sI m,sT<|zc xs,sT<|.lst<|(0::l).map D.int]) (fr:=aC zh aN) hr hm (zj (za rfl) zw) λb=>⟨[sI b,sT<|.lst<|(0::l).map D.int],rfl,za rfl⟩;have hz:zD (0::l) 0=0:=rfl;have hp:∀a,zL n a->a≠0->zD (0::l) a≠0:=λa ha h0=>by
  have a0:=ha.1;have a1:=ha.2;have hk:a.toNat<(0::l).length:=by rw[hr.1];trivial
  rw[Yw hk];have hm:=zxA hk;obtain⟨k,ek⟩:∃k,a.toNat=k+1:=⟨a.toNat-1,by trivial⟩;have:(0::l)[a.toNat]=l[k]'(by rw[zzT]at hk;trivial):=by simp only[ek,List.getElem_cons_succ]
  rw[this];have:=l2 _<|zxA (show k<l.length by rw[zzT]at hk;trivial);trivial
 have hc:∀a,zL n a->zL n (zD (0::l) a):=λa ha=>(rowAt hr ha).2;have n0:0<n:=by trivial
 exact⟨T,⟨t1.1,(om (m:=m) hz hc hp).congr hm0 (qJ n0) (λ_ _ _ _=>rfl) t1.2,(oI (m:=m) hz hc hp).congr hm0 (rK n0) (λ_ _ _ _=>rfl) t1.2⟩,yx rfl<|zd (xx (p:=3) w0<|zk rfl)<|yy t2⟩
def KN(k:Int)(n:Nat):Prop:=(k=0/\1<=n)\/(k=1/\1<=n)\/(k=2/\2<=n)\/(k=3/\2<=n)\/(k=4/\n=4)
def IY{x y:Int}{c:Bool}:zg (.lst [.int x,.int y]) (.int (if c=true then 1 else 0))=some (.im<|.int (if c=true then y else x)):=by cases c<;>rfl
def jK(k:Int)(n:Nat):Int->Int->Int:=if k=0 then jS n else if k=1 then jM else if k=2 then jL else if k=3 then jF else j4
def pO{k:Int}{n:Nat}(h:KN k n):LJ n (jK k n) 0:=by
 rcases h with⟨rfl,hn⟩|⟨rfl,hn⟩|⟨rfl,hn⟩|⟨rfl,hn⟩|⟨rfl,rfl⟩
 . exact pD hn
 . exact qB hn
 . exact qJ (by trivial)
 . exact rK (by trivial)
 . exact sU
def Iq{as:AS}{n:Nat}{cap cap2:List (Option Nat)}{fr:AF}{u:Bool}{fe:EF}{f:Int->Int->Int}(hn2:n<=8)(h1:WA fr as [(true,.int n)])(H:∀a:Int,zL n a->∃as1,gN 0 (true,.int a) (wM cap as)=some as1/\WA y6 as1 [(true,.int n)]/\∀b:Int,zL n b->∃as2,gN 0 (true,.int b) (wM cap2 as1)=some as2/\WD fe as2 true (.int<|f a b)/\zL n (f a b)):
 ∃T,Qe n n f T/\WE (zt (z_ fr ya) cap zH zK<|zt (z_ y6 ya) cap2 zH zK fe) as (zm T):=
 RL (n:=n) (k:=n) (cap:=cap) (fe:=zt (z_ y6 ya) cap2 zH zK fe) h1 (by trivial) λa ha=>by
  obtain⟨as1,g1,g2,g3⟩:=H a ha;obtain⟨r,b1,b3⟩:=V3 (f:=f a) (N:=n) (n:=n) (cap:=cap2) (fe:=fe) g2 (by trivial) λb hb=>by
     obtain⟨as2,c1,c2,c3⟩:=g3 b hb;exact⟨as2,c1,WD.e c2,c3⟩
  exact⟨as1,r,g1,b3,b1⟩
abbrev Ux:List D:=[.tup [.int 0,.int 1],.tup [.int 1,.int 0],.tup [.int 0,.int 0],.tup [.int 1,.int 1]]
def FX{i:Nat}{y:Z_}(m:(Ux.map λd=>(true,d))[i]? = some y):y=(true,.tup [.int<|p1 i,.int<|p2 i])/\i<4:=by
 match i,m with
 |0,m=>cases m;exact⟨rfl,by decide⟩
 |1,m=>cases m;exact⟨rfl,by decide⟩
 |2,m=>cases m;exact⟨rfl,by decide⟩
 |3,m=>cases m;exact⟨rfl,by decide⟩
def Sx(i:Int):p1 i=0\/p1 i=1:=by unfold p1;split<;>simp
def Oy(i:Int):p2 i=0\/p2 i=1:=by unfold p2;split<;>simp
def IA{u v k:Int}(hu:u=0\/u=1)(hv:v=0\/v=1):pk u v k=0\/pk u v k=1:=by unfold pk;split<;>assumption
def Sq{u v:Int}(hu:u=0\/u=1)(hv:v=0\/v=1):zL 4 (rC u v)/\wF (.lst Ux) [.tup [.int u,.int v]]=some (.im<|.int<|rC u v):=by
 rcases hu with rfl|rfl<;>rcases hv with rfl|rfl
 . exact⟨by decide,rfl⟩
 . exact⟨by decide,rfl⟩
 . exact⟨by decide,rfl⟩
 . exact⟨by decide,rfl⟩
def FH{p q k:Int}(hk:k=0\/k=1):zg (.tup [.int p,.int q]) (.int k)=some (.im<|.int<|pk p q k):=by
 rcases hk with rfl|rfl
 . rfl
 . rfl
def Aj:∃T,Qe 4 4 j4 T/\RE (ZG [(true,.int 4),(true,.int (4:Nat))]) (zm T):=by
 obtain⟨T,t1,t2,t3⟩:=Km (as:=[sI 4,sI (4:Nat),sT<|.lst Ux]) zc (Q:=λi r=>Wu 4 4 (j4 i) r) (cap:=[none,some 2]) (g:=gN 0) (fe:=zt (yA zh) [none,some 1,some 0] zH zK<|wN .lst zh (aC (zX<|dC (f2 zf (f2 zo zN zg) zg)<|dC (f2 zf (f2 zo zF zg) zg) dN) aN) wF) (Pv (f:=fV 2)<|WD.e<|za rfl) (by rw[zzB];show 4<=1000;decide) λi y m=>by
  obtain⟨rfl,hi⟩:=FX m;obtain⟨r,r1,r2,r3⟩:=Km (as:=[sT<|.tup [.int<|p1 i,.int<|p2 i],sT<|.lst Ux]) D.int (Q:=λk x=>x=j4 i k/\zL 4 x) (cap:=[none,some 1,some 0]) (g:=gN 0) (fe:=wN .lst zh (aC (zX<|dC (f2 zf (f2 zo zN zg) zg)<|dC (f2 zf (f2 zo zF zg) zg) dN) aN) wF) (Pv (f:=fV 1)<|WD.e<|za rfl) (by rw[zzB];show 4<=1000;decide) λk y m=>by
   obtain⟨rfl,hk⟩:=FX m;obtain⟨j1,ej⟩:=Sq (IA (k:=p1 i) (Sx k)<|Oy k)<|IA (k:=p2 i) (Sx k)<|Oy k;exact⟨[sT<|.tup [.int<|p1 k,.int<|p2 k],sT<|.lst Ux,sT<|.tup [.int<|p1 i,.int<|p2 i]],j4 i k,rfl,WD.e<|Wf (za rfl) rfl (zj (QN (os:=[yt<|pk (p1 k) (p2 k)<|p1 i,yt<|pk (p1 k) (p2 k)<|p2 i]) (ze (zq (za rfl) (zq (za rfl) zb rfl rfl) (FH<|Sx i) rfl)<|ze (zq (za rfl) (zq (za rfl) zb rfl rfl) (FH<|Oy i) rfl) zG) (wd rfl) rfl) zw) ej rfl,rfl,j1⟩
  rw[zzB]at r1;exact⟨[sT<|.tup [.int<|p1 i,.int<|p2 i],sT<|.lst Ux],r,rfl,r3,L9 r1 r2⟩
 rw[zzB]at t1;refine⟨T,Wl t1 t2,yx rfl<|zd (zZ (zE (yq (za rfl) zb rfl) rfl) rfl)<|zd (zZ (zE (yq (za rfl) zb rfl) rfl) rfl)<|zd (zZ (zE (yq (za rfl) zb rfl) rfl) rfl)<|zd (zZ (zE (yq (za rfl) zb rfl) rfl) rfl)<|zd (xx (p:=2) (x:=.lst Ux) (xy (os:=Ux.map<|O.lf true) ?_ (wd rfl) rfl rfl)<|zk rfl)<|yy t3⟩;exact ze (QN (os:=[yt 0,yt 1]) (ze zb<|ze zb zG) (wd rfl) rfl)<|ze (QN (os:=[yt 1,yt 0]) (ze zb<|ze zb zG) (wd rfl) rfl)<|ze (QN (os:=[yt 0,yt 0]) (ze zb<|ze zb zG) (wd rfl) rfl)<|ze (QN (os:=[yt 1,yt 1]) (ze zb<|ze zb zG) (wd rfl) rfl) zG
def Hs{k:Int}{n:Nat}(h:KN k n)(hn2:n<=8):∃T,Qe n n (jK k n) T/\RE (ZG [(true,.int k),(true,.int n)]) (zm T):=by
 rcases h with⟨rfl,hn⟩|⟨rfl,hn⟩|⟨rfl,hn⟩|⟨rfl,hn⟩|⟨rfl,rfl⟩
 . obtain⟨T,t1,t2⟩:=Iq (f:=jS n) (as:=[sI 0,sI n,none]) (n:=n) (u:=true) (cap:=[none,some 1]) (cap2:=[none,some 1,some 0]) (fr:=aC zh aN) (fe:=f2 (f2 zo zf zr) zh zx) hn2 (zj (za rfl) zw) λa ha=>⟨[sI a,sI n],rfl,zj (za rfl) zw,λb hb=>⟨[sI b,sI n,sI a],rfl,yj (yJ (za rfl)<|za rfl) (za rfl) (by trivial),N9 hn⟩⟩;exact⟨T,t1,yx rfl<|xG<|wC (zE (yq (za rfl) zb rfl) rfl)<|yy t2⟩
 . obtain⟨T,t1,t2⟩:=Iq (f:=jM) (as:=[sI 1,sI n,none]) (n:=n) (u:=true) (cap:=[none,some 1]) (cap2:=[none,some 0]) (fr:=aC zh aN) (fe:=fP (aC zh y8) MP) hn2 (zj (za rfl) zw) λa ha=>⟨[sI a,sI n],rfl,zj (za rfl) zw,λb hb=>⟨[sI b,sI a],rfl,y_ (zj (za rfl)<|zj (za rfl) zw) rfl rfl,(qB hn).cl a b ha hb⟩⟩;exact⟨T,t1,yx rfl<|zd (zZ (zE (yq (za rfl) zb rfl) rfl) rfl)<|xG<|wC (zE (yq (za rfl) zb rfl) rfl)<|yy t2⟩
 . obtain⟨T,t1,t2⟩:=Iq (f:=jL) (as:=[sI 2,sI n,none]) (n:=n) (u:=true) (cap:=[none,some 1]) (cap2:=[none,some 0]) (fr:=aC zh aN) (fe:=f2 (yK<|dC zf<|dC zh dN) (fP (aC (f2 zf zN<|zB .Eq) aN) Mj) zg) hn2 (zj (za rfl) zw) λa ha=>⟨[sI a,sI n],rfl,zj (za rfl) zw,λb hb=>⟨[sI b,sI a],rfl,Ey (xy (os:=[yt b,yt a]) (ze (za rfl)<|ze (za rfl) zG) (wd rfl) rfl rfl) (WD.e<|y_ (zj (yq (za rfl) zb rfl) zw) rfl rfl)<|IY.trans (by unfold jL;by_cases h:b=0<;>simp[h]),(qJ<|by trivial).cl a b ha hb⟩⟩;exact⟨T,t1,yx rfl<|zd (zZ (zE (yq (za rfl) zb rfl) rfl) rfl)<|zd (zZ (zE (yq (za rfl) zb rfl) rfl) rfl)<|xG<|wC (zE (yq (za rfl) zb rfl) rfl)<|yy t2⟩
 . obtain⟨T,t1,t2⟩:=Iq (f:=jF) (as:=[sI 3,sI n,none]) (n:=n) (u:=true) (cap:=[none,some 1]) (cap2:=[none,some 0]) (fr:=aC zh aN) (fe:=f2 (yK<|dC zh<|dC zf dN) (fP (aC (f2 zh zN<|zB .Eq) aN) Mj) zg) hn2 (zj (za rfl) zw) λa ha=>⟨[sI a,sI n],rfl,zj (za rfl) zw,λb hb=>⟨[sI b,sI a],rfl,Ey (xy (os:=[yt a,yt b]) (ze (za rfl)<|ze (za rfl) zG) (wd rfl) rfl rfl) (WD.e<|y_ (zj (yq (za rfl) zb rfl) zw) rfl rfl)<|IY.trans (by unfold jF;by_cases h:a=0<;>simp[h]),(rK<|by trivial).cl a b ha hb⟩⟩;exact⟨T,t1,yx rfl<|zd (zZ (zE (yq (za rfl) zb rfl) rfl) rfl)<|zd (zZ (zE (yq (za rfl) zb rfl) rfl) rfl)<|zd (zZ (zE (yq (za rfl) zb rfl) rfl) rfl)<|xG<|wC (zE (yq (za rfl) zb rfl) rfl)<|yy t2⟩
 . exact Aj
def O9{k:Int}{n m:Nat}{xs:List Int}(h:KN k n)(hn2:n<=8)(hm0:0<m)(hm:m<=8)(hl:xs.length=9)(hx:∀x ∈ xs,St x):∃T,(Tab m n T/\LD n m (jK k n) 0 (yw T))/\RE (Yz [(true,.int k),(true,.int n),(true,.int m),(true,zc xs)]) (zm T):=by
 rcases h with⟨rfl,hn⟩|⟨rfl,hn⟩|⟨rfl,hn⟩|⟨rfl,hn⟩|⟨rfl,rfl⟩
 . obtain⟨T,t1,t2⟩:=Ce (m:=m) (xs:=xs) hn hn2 hm0 hm hl hx;exact⟨T,t1,yx rfl<|xG<|wC (zE (yq (za rfl) zb rfl) rfl)<|yy<|Z6 (WD.e<|za rfl) (WD.e<|za rfl) (WD.e<|za rfl) t2⟩
 . obtain⟨T,t1,t2⟩:=Ba (m:=m) (xs:=xs) hn hn2 hm0 hm hl hx;exact⟨T,t1,yx rfl<|zd (zZ (zE (yq (za rfl) zb rfl) rfl) rfl)<|xG<|wC (zE (yq (za rfl) zb rfl) rfl)<|yy<|Z6 (WD.e<|za rfl) (WD.e<|za rfl) (WD.e<|za rfl) t2⟩
 . obtain⟨T,t1,t2⟩:=FK (m:=m) (xs:=xs) hn hn2 hm0 hm hl hx;exact⟨T,⟨t1.1,t1.2.1⟩,yx rfl<|zd (zZ (zE (yq (za rfl) zb rfl) rfl) rfl)<|zd (zZ (zE (yq (za rfl) zb rfl) rfl) rfl)<|xG<|wC (zE (Nk (za rfl) zb) rfl)<|yy<|Z6 (WD.e<|za rfl) (WD.e<|za rfl) (WD.e<|za rfl) t2⟩
 . obtain⟨T,t1,t2⟩:=FK (m:=m) (xs:=xs) hn hn2 hm0 hm hl hx;exact⟨T,⟨t1.1,t1.2.2⟩,yx rfl<|zd (zZ (zE (yq (za rfl) zb rfl) rfl) rfl)<|zd (zZ (zE (yq (za rfl) zb rfl) rfl) rfl)<|xG<|wC (zE (Nk (za rfl) zb) rfl)<|yy<|Z6 (WD.e<|za rfl) (WD.e<|za rfl) (WD.e<|za rfl) t2⟩
 . obtain⟨x0,a0,b0⟩:=at2 hx (k:=0) (by trivial) (by trivial);have hp:∃r:List Int,(Row 4 r/\LD 4 m j4 0 (λ_ a=>zD r a))/\zg (.lst [zc [0,1,2,3],zc [0,1,3,2]]) (.int<|x0%2)=some (.im<|zc r):=by
    rcases(show x0%2=0\/x0%2=1 by trivial)with e|e<;>rw[e]
    . exact⟨[0,1,2,3],⟨⟨rfl,by decide⟩,pX<|.inl λa ha=>f4 (P:=λa=>zD [0,1,2,3] a=a) (by decide) ha⟩,rfl⟩
    . exact⟨[0,1,3,2],⟨⟨rfl,by decide⟩,pX<|.inr λa ha=>f4 (P:=λa=>zD [0,1,3,2] a=(if a=2 then 3 else if a=3 then 2 else a)) (by decide) ha⟩,rfl⟩
   obtain⟨r,r1,r2⟩:=hp;obtain⟨T,c1,c3⟩:=RL (as:=[sI 4,sI (4:Nat),sI m,sT<|zc xs]) (u:=true) (f:=λ_ a=>zD r a) (n:=4) (k:=m) (cap:=[none,some 3]) (fr:=aC zo aN) (fe:=f2 (yK<|dC (yK<|dC zN<|dC zF<|dC yh<|dC xU dN)<|dC (yK<|dC zN<|dC zF<|dC xU<|dC yh dN) dN) (f2 (f2 zh zN zg) yh zx) zg) (zj (za rfl) zw) (by trivial) λb _=>
    ⟨[sI b,sT<|zc xs],r,rfl,WD.e<|Ey (xy (v7 (xp (ze zb<|ze zb<|ze zb<|ze zb zG)<|wd rfl)<|v7 (xp (ze zb<|ze zb<|ze zb<|ze zb zG)<|wd rfl) zG) (wd rfl) rfl rfl) (WD.e<|yj (zq (za rfl) zb a0 rfl) zb<|by decide) r2,r1.1.1,r1.1.2,λ_ _=>rfl⟩
   exact⟨T,⟨c1.1,r1.2.congr hm0 sU (λ_ _ _ _=>rfl) c1.2⟩,yx rfl<|zd (zZ (zE (yq (za rfl) zb rfl) rfl) rfl)<|zd (zZ (zE (yq (za rfl) zb rfl) rfl) rfl)<|zd (zZ (zE (Nk (za rfl) zb) rfl) rfl)<|yy c3⟩
structure LawP(n m:Nat)(J:TZ)(Ds:List TZ):Prop where
 tj:Tab n n J
 lj:LJ n (yw J) 0
 td:∀T ∈ Ds,Tab m n T
 ld:∀T ∈ Ds,LD n m (yw J) 0<|yw T
abbrev RX(n:Nat)(J:TZ)(Ds:List TZ):D:=.tup [.int n,zm J,.lst<|Ds.map zm]
def Px{k c:Int}{n m w:Nat}(h:KN k n)(hn2:n<=8)(hm0:0<m)(hm:m<=8)(hw:w<=8):∃J Ds,LawP n m J Ds/\Ds.length=w/\RE (wJ [(true,.int k),(true,.int n),(true,.int m),(true,.int w),(true,.int c)]) (RX n J Ds):=by
 obtain⟨J,j1,oj,j2,j3,j4⟩:=Hs h hn2;obtain⟨Ds,d1,d2,d3⟩:=Tq (as:=[sI k,sI n,sI m,sI w,sI c,none]) (u:=true) zm (Q:=λT=>Tab m n T/\LD n m (jK k n) 0 (yw T)) (n:=w) (cap:=[none,some 0,some 1,some 2,some 4]) (fr:=aC zA aN) (fe:=zv (aC zh<|aC zo<|aC zA<|aC (zv (aC (f2 yc (f2 (fC<|.int 31) zf zC) zr)<|aC (fC<|.int 9) aN) yD) aN) Yz) (zj (za rfl) zw) (by trivial) λb b0 b1=>by
  obtain⟨xs,x1,x2,x3⟩:=Jk (as:=[sI b,sI k,sI n,sI m,sI c]) (a:=f2 yc (f2 (fC<|.int 31) zf zC) zr) (b:=fC<|.int 9) (m:=9) (by trivial) (WD.e<|yJ (za rfl)<|xo zb (za rfl) (zU (by decide)<|by decide)<|zU (by trivial)<|by trivial)<|WD.e zb;obtain⟨T,t1,t2⟩:=O9 h hn2 hm0 hm x1 x2;exact⟨[sI b,sI k,sI n,sI m,sI c],T,rfl,AY (WD.e<|za rfl) (WD.e<|za rfl) (WD.e<|za rfl) x3 t2,t1⟩
 have lj:=(pO h).congr j1.2;refine⟨J,Ds,⟨j1.1,lj,λT mT=>(d2 T mT).1,λT mT=>(d2 T mT).2.congr hm0 (pO h) j1.2 λ_ _ _ _=>rfl⟩,d1,yx rfl<|zd (xx (p:=5) d3<|zk rfl)<|yy<|Q4 (os:=[yt n,oj,.lf true<|.lst<|Ds.map zm]) (ze (za rfl)<|v7 (vU (zj (za rfl)<|zj (za rfl) zw) j2)<|ze (za rfl) zG) (wd rfl) ?_ ?_⟩
 . show(true&&(oj.str&&(true&&true)))=true;rw[j3];rfl
 . show D.tup [.int n,oj.toD,.lst<|Ds.map zm]=_;rw[j4]
def Fs{as:AS}{i j:Nat}{os ps:List O}(hij:i≠j)(h:as[i]? = some (sN os))(hj:as[j]? = some (sN ps))(hl:os.length<sizeLine):
 ym (yN i (dC (fV j) dN) yT) as=some (.nx<|(as.set j<|some (O.nd .ls ps).frz).set i<|sN<|os++[(O.nd .ls ps).frz]):=by
 have e:dC (fV j) dN as=some ([(O.nd .ls ps).frz],as.set j<|some (O.nd .ls ps).frz):=by
  unfold dC;rw[W_ hj];show((OU as<|.bo j).bind _)=_;rw[Sl hj];rfl
 unfold ym yN;rw[h];show((dC (fV j) dN as).bind _).bind _=_;rw[e];show(Option.bind (match(as.set j<|some (O.nd .ls ps).frz)[i]? with|some (some<|.nd .ls os)=>_|_=>none) _)=_;rw[zzY<|Ne.symm hij,h];show((yT os [(O.nd .ls ps).frz]).bind _).bind _=_;have e2:yT os [(O.nd .ls ps).frz]=some (os++[(O.nd .ls ps).frz],.lf true .non):=by unfold yT;exact if_pos hl
 rw[e2];rfl
theorem Ows.frz{α:Type}{toD:α->D}{Q:α->Prop}{os:List O}{l:List α}(h:Ows toD Q os l):(O.nd .ls os).frz = .lf true (.lst<|l.map toD):=by
 show O.lf (O.strs os) (.lst<|O.toDs os)=_;rw[h.st,h.ds]
section
variable{n1 n2 m:Nat}{J1 J2:TZ}{D1 D2:List TZ}
def Sb(h1:0<n1)(h2:0<n2)(hn:n1*n2<=8)(j1:Tab n1 n1 J1)(j2:Tab n2 n2 J2):
 ∃os l e6 e7 e8,OwsX zc (λ(i:Nat) r=>Wu (n1*n2) (n1*n2) (jB n2 (yw J1) (yw J2) i) r) os l/\l.length=n1*n2/\forL (gN 6) (zp (zy true 7<|f2 (f2 zf zF zg) (f2 x9 yc zQ) zg)
 (zp (zy true 8<|f2 (f2 zh zF zg) (f2 x9 yc zx) zg)
 (ym<|yN 5 (dC (zt (z_ Yc ya) [none,some 4,some 8,some 7] zH zK<|f2 (f2 (f2 zA (f2 zf zh zQ) zg) zh zC) (f2 zo (f2 zf zh zx) zg) zr) dN) yT)))
  (xb 0<|n1*n2) [sT<|RX n1 J1 D1,sT<|RX n2 J2 D2,sI m,sI ((n1*n2:Nat):Int),sI n2,sN [],none,none,none,none,none,none,none,none]
  = some (.nx [sT<|RX n1 J1 D1,sT<|RX n2 J2 D2,sI m,sI ((n1*n2:Nat):Int),sI n2,sN os,e6,e7,e8,none,none,none,none,none]):=by
 have hn2:n2<=8:=zzO (Nat.le_mul_of_pos_left n2 h1) hn;obtain⟨as',hf,os,l,e6,e7,e8,rfl,ho,hlen⟩:=yG (g:=gN 6) (f:=(zp (zy true 7<|f2 (f2 zf zF zg) (f2 x9 yc zQ) zg)
  (zp (zy true 8<|f2 (f2 zh zF zg) (f2 x9 yc zx) zg)
  (ym<|yN 5 (dC (zt (z_ Yc ya) [none,some 4,some 8,some 7] zH zK<|f2 (f2 (f2 zA (f2 zf zh zQ) zg) zh zC) (f2 zo (f2 zf zh zx) zg) zr) dN) yT))))
  (λi as=>∃(os:List O) (l:TZ) (e6 e7 e8:Option O),as=[sT<|RX n1 J1 D1,sT<|RX n2 J2 D2,sI m,sI ((n1*n2:Nat):Int),sI n2,sN os,e6,e7,e8,none,none,none,none,none]/\OwsX zc (λ(i:Nat) r=>Wu (n1*n2) (n1*n2) (jB n2 (yw J1) (yw J2) i) r) os l/\l.length=i)
  (xb 0<|n1*n2) 0 [sT<|RX n1 J1 D1,sT<|RX n2 J2 D2,sI m,sI ((n1*n2:Nat):Int),sI n2,sN [],none,none,none,none,none,none,none,none] (λi x as hx' hI=>by
   obtain⟨os,l,e6,e7,e8,rfl,ho,hlen⟩:=hI;obtain⟨rfl,hi⟩:=xm hx';obtain⟨u1,u2⟩:=yo (n1:=n1) (n2:=n2) (p:=0+i) h2 ⟨by trivial,by trivial⟩;obtain⟨a1,b1⟩:=xF j1 u1;obtain⟨a2,b2⟩:=xF j2 u2;have n18:n1<=8:=zzO (Nat.le_mul_of_pos_right n1 h2) hn;obtain⟨r,c1,c3⟩:=V3 (f:=jB n2 (yw J1) (yw J2)<|0+i) (N:=n1*n2) (as:=[sT<|RX n1 J1 D1,sT<|RX n2 J2 D2,sI m,sI ((n1*n2:Nat):Int),sI n2,sN os,sI<|0+i,sT<|zc<|Pk J1<|(0+i)/n2,sT<|zc<|Pk J2<|(0+i)%n2,none,none,none,none,none]) (u:=true) (n:=n1*n2) (cap:=[none,some 4,some 8,some 7]) (fr:=aC zA aN) (fe:=f2 (f2 (f2 zA (f2 zf zh zQ) zg) zh zC) (f2 zo (f2 zf zh zx) zg) zr) (zj (za rfl) zw) (by trivial) λb hb=>by
    obtain⟨v1,v2⟩:=yo h2 hb;obtain⟨x1,x2⟩:=rowAt b1 v1;obtain⟨y1,y2⟩:=rowAt b2 v2;have x3:0<=yw J1 ((0+i)/n2) (b/n2):=x2.1;have x4:yw J1 ((0+i)/n2) (b/n2)<n1:=x2.2;exact⟨[sI b,sI n2,sT<|zc<|Pk J2<|(0+i)%n2,sT<|zc<|Pk J1<|(0+i)/n2],rfl,WD.e<|yJ (xo (zq (za rfl) (vK (za rfl) (za rfl) (by trivial)<|zU (by trivial)<|by trivial) x1 rfl) (za rfl) (zU (by trivial)<|by trivial)<|zU (by trivial)<|by trivial)<|zq (za rfl) (yj (za rfl) (za rfl)<|by trivial) y1 rfl,OT x2 y2⟩
   rw[Int.zero_add]at c1;obtain⟨os',o1,o2⟩:=Hy (x:=r) (i:=5) (toD:=zc) (Q:=λ(i:Nat) r=>Wu (n1*n2) (n1*n2) (jB n2 (yw J1) (yw J2) i) r) rfl ho (by trivial) c3 (by rw[hlen,zyY];exact c1);refine⟨[sT<|RX n1 J1 D1,sT<|RX n2 J2 D2,sI m,sI ((n1*n2:Nat):Int),sI n2,sN os,sI<|0+i,e7,e8,none,none,none,none,none],rfl,_,zV (yz (i:=7) (zW (zW (za (i:=0) rfl) zb rfl) (vK (za (i:=6) rfl) (za (i:=4) rfl) (by trivial)<|zU (by trivial)<|by trivial) a1)<|zk rfl)<|zV (yz (i:=8) (zW (zW (za (i:=1) rfl) zb rfl) (yj (za (i:=6) rfl) (za (i:=4) rfl)<|by trivial) a2)<|zk rfl) o2,os',l++[r],_,_,_,rfl,o1,by rw[zzJ,hlen];rfl⟩)
  ⟨[],[],none,none,none,rfl,OwsX.nil,rfl⟩
 rw[yH]at hlen;exact⟨os,l,e6,e7,e8,ho,by trivial,hf⟩
end
abbrev Lc(n1 n2 m:Nat)(J1 J2:TZ)(D1 D2:List TZ)(os5:List O)(e6 e7 e8 e9 e10 e11 e12 e13:Option O):AS:=
 [sT<|RX n1 J1 D1,sT<|RX n2 J2 D2,sI m,sI ((n1*n2:Nat):Int),sI n2,sN os5,e6,e7,e8,e9,e10,e11,e12,e13]
abbrev qb:SF:=(zp (zy true 13<|f2 (f2 (f2 xD yW zg) (f2 x9 yc zQ) zg) yc zC)
 (ym<|yN 12 (dC (f2 (fV 13) (f2 (f2 (fV 8) yW zg) (f2 x9 yc zx) zg) zr) dN) yT))
abbrev rZ:SF:=(zp (zy false 12<|yK dN)
 (zp (yS (z_ Yc ya) (gN 6) qb)
 (ym<|yN 10 (dC (fV 12) dN) yT)))
abbrev pw:SF:=(zp (zy false 10<|yK dN)
 (zp (yS (z_ ZC ya) (gN 11) rZ)
 (ym<|yN 9 (dC (fV 10) dN) yT)))
section
variable{n1 n2 m:Nat}{J1 J2:TZ}{D1 D2:List TZ}{os5:List O}
def q8{T1 T2:TZ}{c:Int}{e6 e9 e10 e13:Option O}(h1:0<n1)(h2:0<n2)(hn:n1*n2<=8)(t1:Tab m n1 T1)(t2:Tab m n2 T2)(c0:0<=c)(c1:c<m):
 ∃os r f6 f13,OwsX D.int (λ(i:Nat) x=>x=dB n2 (yw T1) (yw T2) c i/\zL (n1*n2) x) os r/\r.length=n1*n2/\forL (gN 6) qb (xb 0<|n1*n2) (Lc n1 n2 m J1 J2 D1 D2 os5 e6 (sT<|zm T1) (sT<|zm T2) e9 e10 (sI c) (sN []) e13)
  = some (.nx<|Lc n1 n2 m J1 J2 D1 D2 os5 f6 (sT<|zm T1) (sT<|zm T2) e9 e10 (sI c) (sN os) f13):=by
 have n28:n2<=8:=zzO (Nat.le_mul_of_pos_left n2 h1) hn;have n18:n1<=8:=zzO (Nat.le_mul_of_pos_right n1 h2) hn;obtain⟨a1,b1⟩:=xF t1 ⟨c0,c1⟩;obtain⟨a2,b2⟩:=xF t2 ⟨c0,c1⟩;obtain⟨as',hf,os,l,f6,f13,rfl,ho,hlen⟩:=yG (g:=gN 6) (f:=qb)
  (λi as=>∃(os:List O) (l:List Int) (f6 f13:Option O),as=Lc n1 n2 m J1 J2 D1 D2 os5 f6 (sT<|zm T1) (sT<|zm T2) e9 e10 (sI c) (sN os) f13/\OwsX D.int (λ(i:Nat) x=>x=dB n2 (yw T1) (yw T2) c i/\zL (n1*n2) x) os l/\l.length=i)
  (xb 0<|n1*n2) 0 (Lc n1 n2 m J1 J2 D1 D2 os5 e6 (sT<|zm T1) (sT<|zm T2) e9 e10 (sI c) (sN []) e13) (λi x as hx' hI=>by
   obtain⟨os,l,f6,f13,rfl,ho,hlen⟩:=hI;obtain⟨rfl,hi⟩:=xm hx';obtain⟨u1,u2⟩:=yo (n1:=n1) (n2:=n2) (p:=0+i) h2 ⟨by trivial,by trivial⟩;obtain⟨x1,x2⟩:=rowAt b1 u1;obtain⟨y1,y2⟩:=rowAt b2 u2;have q:=OT x2 y2;have ev:zD (Pk T1 c) ((0+i)/n2)*n2+zD (Pk T2 c) ((0+i)%n2)=dB n2 (yw T1) (yw T2) c i:=by rw[Int.zero_add];rfl
   generalize zD (Pk T1 c) ((0+i)/n2)=x at x1 x2 q ev;generalize zD (Pk T2 c) ((0+i)%n2)=y at y1 y2 q ev;have x3:=x2.1;have x4:=x2.2;obtain⟨os',o1,o2⟩:=Hy (as:=Lc n1 n2 m J1 J2 D1 D2 os5 (sI<|0+i) (sT<|zm T1) (sT<|zm T2) e9 e10 (sI c) (sN os)<|sI<|x*n2) (x:=x*n2+y) (i:=12) (toD:=D.int) (Q:=λ(i:Nat) x=>x=dB n2 (yw T1) (yw T2) c i/\zL (n1*n2) x) (a:=f2 (fV 13) (f2 (f2 (fV 8) yW zg) (f2 x9 yc zx) zg) zr) rfl ho (by trivial)
    (WD.e<|yJ (za rfl)<|zq (zW (za rfl) (za rfl) a2) (yj (za rfl) (za rfl)<|by trivial) y1 rfl) ⟨by rw[hlen,zyY];exact ev,q⟩
   exact⟨Lc n1 n2 m J1 J2 D1 D2 os5 (sI<|0+i) (sT<|zm T1) (sT<|zm T2) e9 e10 (sI c) (sN os) f13,rfl,_,zV (yz (i:=13) (xo (zq (zW (za (i:=7) rfl) (za (i:=11) rfl) a1) (vK (za (i:=6) rfl) (za (i:=4) rfl) (by trivial)<|zU (by trivial)<|by trivial) x1 rfl) (za (i:=4) rfl) (zU (by trivial)<|by trivial)<|zU (by trivial)<|by trivial)<|zk rfl) o2,os',l++[x*n2+y],_,_,rfl,o1,by rw[zzJ,hlen];rfl⟩)
  ⟨[],[],_,_,rfl,OwsX.nil,rfl⟩
 rw[yH]at hlen;exact⟨os,l,f6,f13,ho,by trivial,hf⟩
def qx{T1 T2:TZ}{e6 e9 e11 e12 e13:Option O}(h1:0<n1)(h2:0<n2)(hn:n1*n2<=8)(hm:m<=8)(t1:Tab m n1 T1)(t2:Tab m n2 T2):
 ∃os T f6 f11 f12 f13,OwsX zc (λ(c:Nat) r=>Wu (n1*n2) (n1*n2) (dB n2 (yw T1) (yw T2) c) r) os T/\T.length=m/\forL (gN 11) rZ (xb 0 m) (Lc n1 n2 m J1 J2 D1 D2 os5 e6 (sT<|zm T1) (sT<|zm T2) e9 (sN []) e11 e12 e13)
  = some (.nx<|Lc n1 n2 m J1 J2 D1 D2 os5 f6 (sT<|zm T1) (sT<|zm T2) e9 (sN os) f11 f12 f13):=by
 obtain⟨as',hf,os,l,f6,f11,f12,f13,rfl,ho,hlen⟩:=yG (g:=gN 11) (f:=rZ)
  (λi as=>∃(os:List O) (l:TZ) (f6 f11 f12 f13:Option O),as=Lc n1 n2 m J1 J2 D1 D2 os5 f6 (sT<|zm T1) (sT<|zm T2) e9 (sN os) f11 f12 f13/\OwsX zc (λ(c:Nat) r=>Wu (n1*n2) (n1*n2) (dB n2 (yw T1) (yw T2) c) r) os l/\l.length=i)
  (xb 0 m) 0 (Lc n1 n2 m J1 J2 D1 D2 os5 e6 (sT<|zm T1) (sT<|zm T2) e9 (sN []) e11 e12 e13) (λi x as hx' hI=>by
   obtain⟨os,l,f6,f11,f12,f13,rfl,ho,hlen⟩:=hI;obtain⟨rfl,hi⟩:=xm hx';obtain⟨ps,r,g6,g13,p1,p2,p3⟩:=q8 (J1:=J1) (J2:=J2) (D1:=D1) (D2:=D2) (os5:=os5) (e6:=f6) (e9:=e9) (e10:=sN os) (e13:=f13) h1 h2 hn t1 t2 (c:=0+i) (by trivial) (by trivial);have ap:=Fs (as:=Lc n1 n2 m J1 J2 D1 D2 os5 g6 (sT<|zm T1) (sT<|zm T2) e9 (sN os) (sI<|0+i) (sN ps) g13) (i:=10) (j:=12) (by decide) rfl rfl (by rw[ho.ln];exact wL<|by trivial);rw[p1.ows.frz]at ap;have pr:Wu (n1*n2) (n1*n2) (dB n2 (yw T1) (yw T2) i) r:=by
    have:=L9 p2 p1.al;rw[Int.zero_add]at this;exact this
   exact⟨Lc n1 n2 m J1 J2 D1 D2 os5 f6 (sT<|zm T1) (sT<|zm T2) e9 (sN os) (sI<|0+i) f12 f13,rfl,_,zV (yr (i:=12) (xp zG<|wd rfl)<|zk rfl)<|zV (yQ (yR (zj (za (i:=3) rfl) zw) (by trivial)<|by trivial) p3) ap,_,l++[r],_,_,_,_,rfl,ho.snoc (o:=.lf true<|zc r) (a:=r) rfl rfl (by rw[hlen,zyY];exact pr),by rw[zzJ,hlen];rfl⟩)
  ⟨[],[],_,_,_,_,rfl,OwsX.nil,rfl⟩
 rw[yH]at hlen;exact⟨os,l,f6,f11,f12,f13,ho,by trivial,hf⟩
def RK{α:Type}{f:α->D}{l:List α}{i:Nat}{d:D}(h:(l.map f)[i]? = some d):∃a ∈ l,d=f a:=by
 rw[zzI]at h;obtain⟨a,h1,h2⟩:=zzX.mp h;exact⟨a,zyA h1,h2.symm⟩
def rM{w:Nat}{e6 e7 e8 e10 e11 e12 e13:Option O}(h1:0<n1)(h2:0<n2)(hn:n1*n2<=8)(hm:m<=8)(hw:w<=8)(l1:D1.length=w)(l2:D2.length=w)(hm0:0<m)(L1:LawP n1 m J1 D1)(L2:LawP n2 m J2 D2):
 ∃os Ds f6 f7 f8 f10 f11 f12 f13,Ows zm (λT=>Tab m (n1*n2) T/\LD (n1*n2) m (jB n2 (yw J1)<|yw J2) 0 (yw T)) os Ds/\Ds.length=w/\forL (gT 2<|yC (gN 7)<|yC (gN 8) vI) pw (Yu true (D1.map zm)<|D2.map zm) (Lc n1 n2 m J1 J2 D1 D2 os5 e6 e7 e8 (sN []) e10 e11 e12 e13)
  = some (.nx<|Lc n1 n2 m J1 J2 D1 D2 os5 f6 f7 f8 (sN os) f10 f11 f12 f13):=by
 obtain⟨as',hf,os,l,f6,f7,f8,f10,f11,f12,f13,rfl,ho,hlen⟩:=yG (g:=gT 2<|yC (gN 7)<|yC (gN 8) vI) (f:=pw)
  (λi as=>∃(os:List O) (l:List TZ) (f6 f7 f8 f10 f11 f12 f13:Option O),as=Lc n1 n2 m J1 J2 D1 D2 os5 f6 f7 f8 (sN os) f10 f11 f12 f13/\Ows zm (λT=>Tab m (n1*n2) T/\LD (n1*n2) m (jB n2 (yw J1)<|yw J2) 0 (yw T)) os l/\l.length=i)
  (Yu true (D1.map zm)<|D2.map zm) 0 (Lc n1 n2 m J1 J2 D1 D2 os5 e6 e7 e8 (sN []) e10 e11 e12 e13) (λi x as hx' hI=>by
   obtain⟨os,l,f6,f7,f8,f10,f11,f12,f13,rfl,ho,hlen⟩:=hI;obtain⟨d,e,z1,z2,rfl⟩:=X7 hx';have hil:i<D1.length:=by have:=(zzG.mp z1).1;rw[zzB]at this;exact this
   obtain⟨T1,m1,rfl⟩:=RK z1;obtain⟨T2,m2,rfl⟩:=RK z2;obtain⟨ps,T,g6,g11,g12,g13,p1,p2,p3⟩:=qx (J1:=J1) (J2:=J2) (D1:=D1) (D2:=D2) (os5:=os5) (e6:=f6) (e9:=sN os) (e11:=f11) (e12:=f12) (e13:=f13) h1 h2 hn hm (L1.td T1 m1)<|L2.td T2 m2;have ap:=Fs (as:=Lc n1 n2 m J1 J2 D1 D2 os5 g6 (sT<|zm T1) (sT<|zm T2) (sN os) (sN ps) g11 g12 g13) (i:=9) (j:=10) (by decide) rfl rfl (by rw[ho.ln];exact wL<|by trivial);rw[p1.ows.frz]at ap;have pt:Qe m (n1*n2) (dB n2 (yw T1)<|yw T2) T:=Wl p2 p1.al;exact⟨Lc n1 n2 m J1 J2 D1 D2 os5 f6 (sT<|zm T1) (sT<|zm T2) (sN os) f10 f11 f12 f13,rfl,_,zV (yr (i:=10) (xp zG<|wd rfl)<|zk rfl)<|zV (yQ (yR (zj (za (i:=2) rfl) zw) (by trivial)<|by trivial) p3) ap,_,l++[T],_,_,_,_,_,_,_,rfl,ho.snoc (o:=.lf true<|zm T) (a:=T) rfl rfl ⟨pt.1,(oW L1.lj L2.lj h2 (L1.ld T1 m1)<|L2.ld T2 m2).congr hm0 (pY L1.lj L2.lj h2) (λ_ _ _ _=>rfl) pt.2⟩,by rw[zzJ,hlen];rfl⟩)
  ⟨[],[],_,_,_,_,_,_,_,rfl,Ows.nil,rfl⟩
 rw[Qp,zzB,zzB,l1,l2,Nat.min_self]at hlen;exact⟨os,l,f6,f7,f8,f10,f11,f12,f13,ho,by trivial,hf⟩
def Xz{as as2:AS}{j:Nat}{ps:List O}{fr:DF}{os:List O}(hj:as[j]? = some (sN ps))(hr:fr (as.set j<|some (O.nd .ls ps).frz)=some (os,as2)):dC (fV j) fr as=some ((O.nd .ls ps).frz::os,as2):=by
 unfold dC;rw[W_ hj];show((OU as<|.bo j).bind _)=_;rw[Sl hj];show(fr<|as.set j<|some (O.nd .ls ps).frz).bind _=_;rw[hr];rfl
def RU{as as1:AS}{fr:DF}{os:List O}(h:fr as=some (os,as1))(hl:os.length<=sizeLine):zX fr as=some (.ow<|Zb os,as1):=by
 unfold zX;rw[h];show(if os.length<=sizeLine then _ else _)=_;rw[if_pos hl]
def By{w:Nat}(h1:0<n1)(h2:0<n2)(hn:n1*n2<=8)(hm:m<=8)(hw:w<=8)(l1:D1.length=w)(l2:D2.length=w)(hm0:0<m)(L1:LawP n1 m J1 D1)(L2:LawP n2 m J2 D2):
 ∃J Ds,LawP (n1*n2) m J Ds/\Ds.length=w/\RE (YJ [(true,RX n1 J1 D1),(true,RX n2 J2 D2),(true,.int m)]) (RX (n1*n2) J Ds):=by
 have n28:n2<=8:=zzO (Nat.le_mul_of_pos_left n2 h1) hn;have n18:n1<=8:=zzO (Nat.le_mul_of_pos_right n1 h2) hn;obtain⟨os,J,e6,e7,e8,ho,hl,hf⟩:=Sb (m:=m) (D1:=D1) (D2:=D2) h1 h2 hn L1.tj L2.tj;obtain⟨ps,Ds,f6,f7,f8,f10,f11,f12,f13,po,pl,pf⟩:=rM (J1:=J1) (J2:=J2) (os5:=os) (e6:=e6) (e7:=e7) (e8:=e8) (e10:=none) (e11:=none) (e12:=none) (e13:=none) h1 h2 hn hm hw l1 l2 hm0 L1 L2;have hJ:Qe (n1*n2) (n1*n2) (jB n2 (yw J1)<|yw J2) J:=Wl hl ho.al;have ljb:=pY L1.lj L2.lj h2;refine⟨J,Ds,⟨hJ.1,ljb.congr hJ.2,λT mT=>(po.al T mT).1,λT mT=>(po.al T mT).2.congr hm0 ljb hJ.2 λ_ _ _ _=>rfl⟩,pl,yx rfl<|zd (as1:=[sT<|RX n1 J1 D1,sT<|RX n2 J2 D2,sI m,sI ((n1*n2:Nat):Int),none,none,none,none,none,none,none,none,none,none]) ?_<|zd (yz (i:=4) (zq (za rfl) zb rfl rfl)<|zk rfl)<|zd (yr (i:=5) (xp zG<|wd rfl)<|zk rfl)<|zd (yQ (yR (zj (za rfl) zw) (by trivial)<|by trivial) hf)<|zd (yr (i:=9) (xp zG<|wd rfl)<|zk rfl)<|zd (yQ ?_ pf) ?_⟩
 . have:=yz (st:=true) (i:=3) (as:=[sT<|RX n1 J1 D1,sT<|RX n2 J2 D2,sI m,none,none,none,none,none,none,none,none,none,none,none]) (xo (zq (g:=zg) (za (i:=0) rfl) (zb (x:=.int 0)) rfl rfl) (zq (g:=zg) (za (i:=1) rfl) (zb (x:=.int 0)) rfl rfl) (zU (i:=(n1:Int)) (by trivial)<|by trivial)<|zU (i:=(n2:Int)) (by trivial)<|by trivial)<|zk rfl;rw[zzV];exact this
 . rfl
 . have e:=zP (as:=Lc n1 n2 m J1 J2 D1 D2 os f6 f7 f8 (sN ps) f10 f11 f12 f13) (a:=fV 3) (za rfl)<|Xz (j:=5) (fr:=dC (fV 9) dN) rfl<|Xz (j:=9) (fr:=dN) rfl rfl;rw[ho.ows.frz,po.frz]at e;exact⟨_,YK (RU e<|wd rfl) rfl,rfl,rfl⟩
end
abbrev Ec:List D:=[.tup [.int 2,.int 2],.tup [.int 3,.int 2],.tup [.int 2,.int 3],.tup [.int 4,.int 2],.tup [.int 2,.int 4],.tup [.int 2,.int 2]]
def OI(x:Int):∃a b:Nat,2<=a/\2<=b/\a*b<=8/\zg (.lst Ec) (.int<|x%6)=some (.im<|.tup [.int a,.int b]):=by
 rcases(show x%6=0\/x%6=1\/x%6=2\/x%6=3\/x%6=4\/x%6=5 by trivial)with e|e|e|e|e|e<;>rw[e]
 . exact⟨2,2,by decide,by decide,by decide,rfl⟩
 . exact⟨3,2,by decide,by decide,by decide,rfl⟩
 . exact⟨2,3,by decide,by decide,by decide,rfl⟩
 . exact⟨4,2,by decide,by decide,by decide,rfl⟩
 . exact⟨2,4,by decide,by decide,by decide,rfl⟩
 . exact⟨2,2,by decide,by decide,by decide,rfl⟩
def uz(x:Int):∃n:Nat,2<=n/\n<=8/\zg (.lst [.int 2,.int 3,.int 4,.int 5,.int 3,.int 4,.int 6,.int 8]) (.int<|x%8)=some (.im<|.int n):=by
 rcases(show x%8=0\/x%8=1\/x%8=2\/x%8=3\/x%8=4\/x%8=5\/x%8=6\/x%8=7 by trivial)with e|e|e|e|e|e|e|e<;>rw[e]
 . exact⟨2,by decide,by decide,rfl⟩
 . exact⟨3,by decide,by decide,rfl⟩
 . exact⟨4,by decide,by decide,rfl⟩
 . exact⟨5,by decide,by decide,rfl⟩
 . exact⟨3,by decide,by decide,rfl⟩
 . exact⟨4,by decide,by decide,rfl⟩
 . exact⟨6,by decide,by decide,rfl⟩
 . exact⟨8,by decide,by decide,rfl⟩
def pP{x:Int}{n:Nat}(h:2<=n):KN (x%4) n:=by
 rcases(show x%4=0\/x%4=1\/x%4=2\/x%4=3 by trivial)with e|e|e|e<;>rw[e]
 . exact .inl ⟨rfl,by trivial⟩
 . exact .inr<|.inl ⟨rfl,by trivial⟩
 . exact .inr<|.inr<|.inl ⟨rfl,h⟩
 . exact .inr<|.inr<|.inr<|.inl ⟨rfl,h⟩
def Dg{as:AS}:WE (yK<|dC (zX<|dC yh<|dC yh dN)<|dC (zX<|dC xU<|dC yh dN)<|dC (zX<|dC yh<|dC xU dN)<|dC (zX<|dC y9<|dC yh dN)<|dC (zX<|dC yh<|dC y9 dN)<|dC (zX<|dC yh<|dC yh dN) dN) as (.lst Ec):=by
 have t:∀a b:Int,WD (zX<|dC (fC<|.int a)<|dC (fC<|.int b) dN) as true (.tup [.int a,.int b]):=λa b=>QN (os:=[yt a,yt b]) (ze zb<|ze zb zG) (wd rfl) rfl;exact xy (os:=Ec.map<|O.lf true) (ze (t 2 2)<|ze (t 3 2)<|ze (t 2 3)<|ze (t 4 2)<|ze (t 2 4)<|ze (t 2 2) zG) (wd rfl) rfl rfl
def C2{c:Int}{m w:Nat}(hm0:0<m)(hm:m<=8)(hw:w<=8):∃(n:Nat) (J:TZ) (Ds:List TZ),1<=n/\n<=8/\LawP n m J Ds/\Ds.length=w/\RE (Vj [(true,.int c),(true,.int m),(true,.int w)]) (RX n J Ds):=by
 obtain⟨xs,hl,hx,ws⟩:=Jk (as:=[sI c,sI m,sI w,none,none,none,none,none]) (a:=fV 0) (b:=fC<|.int 5) (c:=c) (m:=5) (by trivial) (WD.e<|za rfl)<|WD.e zb;obtain⟨x0,a0,_⟩:=at2 hx (k:=0) (by trivial) (by trivial);obtain⟨x1,a1,_⟩:=at2 hx (k:=1) (by trivial) (by trivial);obtain⟨x2,a2,_⟩:=at2 hx (k:=2) (by trivial) (by trivial);obtain⟨x3,a3,_⟩:=at2 hx (k:=3) (by trivial) (by trivial);obtain⟨x4,a4,_⟩:=at2 hx (k:=4) (by trivial) (by trivial);have y0:0<=x0%7/\x0%7<7:=⟨by trivial,by trivial⟩;have start:∀(C:SF) (x:D),Rt (C [sI c,sI m,sI w,sT<|zc xs,sI<|x0%7,none,none,none]) x->Rt (zp (zy true 3<|zv (aC zf<|aC VX aN) yD) (zp (zy true 4<|f2 (f2 zA zN zg) (fC<|.int 7) zx) C) [sI c,sI m,sI w,none,none,none,none,none]) x:=λC x h=>
  zd (xx (p:=3) ws<|zk rfl) (zd (yz (i:=4) (yj (zq (za rfl) zb a0 rfl) zb<|by decide)<|zk rfl) h)
 generalize x0%7=k at y0 start
 by_cases hk:4<k
 . obtain⟨a,b,ha,hb,hab,es⟩:=OI x1;obtain⟨J1,D1,L1,l1,p1⟩:=Px (k:=x2%4) (c:=x3) (m:=m) (w:=w) (pP ha) (zzO (Nat.le_mul_of_pos_right a<|by trivial) hab) hm0 hm hw;obtain⟨J2,D2,L2,l2,p2⟩:=Px (k:=x4%4) (c:=x3+7) (m:=m) (w:=w) (pP hb) (zzO (Nat.le_mul_of_pos_left b<|by trivial) hab) hm0 hm hw;obtain⟨J,Ds,q1,q2,q4⟩:=By (n1:=a) (n2:=b) (m:=m) (w:=w) (by trivial) (by trivial) hab hm hw l1 l2 hm0 L1 L2;refine⟨a*b,J,Ds,Nat.mul_pos (by trivial) (by trivial),hab,q1,q2,yx rfl<|start _ _<|xG<|wC (zE (VQ (za rfl) zb)<|congrArg some<|zyO hk)<|zd (yz (i:=5) (Ey Dg (WD.e<|yj (zq (za rfl) zb a1 rfl) zb<|by decide) es)<|zk rfl)<|zd (xx (p:=6) (K5 (WD.e<|yj (zq (za rfl) zb a2 rfl) zb<|by decide) (WD.e<|zq (za rfl) zb rfl rfl) (WD.e<|za rfl) (WD.e<|za rfl) (WD.e<|zq (za rfl) zb a3 rfl) p1)<|zk rfl)<|yy<|Z6 (WD.e<|za rfl) (K5 (WD.e<|yj (zq (za rfl) zb a4 rfl) zb<|by decide) (WD.e<|zq (za rfl) zb rfl rfl) (WD.e<|za rfl) (WD.e<|za rfl) (WD.e<|yJ (zq (za rfl) zb a3 rfl) zb) p2) (WD.e<|za rfl) q4⟩
 . obtain⟨n,n2,n8,en⟩:=uz x1;have fin:∀n':Nat,KN k n'->n'<=8->∃(n:Nat) (J:TZ) (Ds:List TZ),1<=n/\n<=8/\LawP n m J Ds/\Ds.length=w/\Rt (yi (zv (aC yc<|aC xD<|aC zh<|aC zo<|aC (f2 zA xU zg) aN) wJ) [sI c,sI m,sI w,sT<|zc xs,sI k,none,none,sI n']) (RX n J Ds):=λn' hK h8=>by
    obtain⟨J,Ds,L1,l1,p1⟩:=Px (k:=k) (c:=x3) (m:=m) (w:=w) hK h8 hm0 hm hw;refine⟨n',J,Ds, ?_,h8,L1,l1,yy<|K5 (WD.e<|za rfl) (WD.e<|za rfl) (WD.e<|za rfl) (WD.e<|za rfl) (WD.e<|zq (za rfl) zb a3 rfl) p1⟩;unfold KN at hK;trivial
   have hk':=congrArg some<|zyG hk;have set7:zy true 7 (f2 (yK<|dC yh<|dC xU<|dC y9<|dC VX<|dC xU<|dC y9<|dC Vq<|dC Yd dN) (f2 (f2 zA zF zg) Yd zx) zg) [sI c,sI m,sI w,sT<|zc xs,sI k,none,none,none]=some (.nx [sI c,sI m,sI w,sT<|zc xs,sI k,none,none,sI n]):=
    yz (i:=7) (Ey (xy (os:=([2,3,4,5,3,4,6,8]:List Int).map yt) (ze zb<|ze zb<|ze zb<|ze zb<|ze zb<|ze zb<|ze zb<|ze zb zG) (wd rfl) rfl rfl) (WD.e<|yj (zq (za rfl) zb a1 rfl) zb<|by decide) en) (zk rfl)
   by_cases h4:k=4
   . subst h4;obtain⟨n',J,Ds,r1,r2,r3,r4,r6⟩:=fin 4 (.inr<|.inr<|.inr<|.inr ⟨rfl,rfl⟩) (by decide);exact⟨n',J,Ds,r1,r2,r3,r4,yx rfl<|start _ _<|zd (zZ (zE (VQ (za rfl) zb) hk') rfl)<|zd set7<|zd (zZ (Yp (k:=false) (zE (yq (za rfl) zb rfl) rfl) (λh=>nomatch h) λ_=>rfl) rfl)<|zd (wa (zE (yq (za rfl) zb rfl) rfl)<|yz (i:=7) zb<|zk rfl) r6⟩
   . have f4:∀e:Option O,WT (fT<|f2 yc y9<|zB .Eq) [sI c,sI m,sI w,sT<|zc xs,sI k,none,none,e] false:=λe=>zE (yq (za rfl) zb rfl) (by show some (k==4)=_;simp[h4])
     by_cases h0:k=0/\x2%9=0
     . obtain⟨rfl,h9⟩:=h0;obtain⟨n',J,Ds,r1,r2,r3,r4,r6⟩:=fin 1 (.inl ⟨rfl,zzN _⟩) (by decide);exact⟨n',J,Ds,r1,r2,r3,r4,yx rfl<|start _ _<|zd (zZ (zE (VQ (za rfl) zb) hk') rfl)<|zd set7<|zd (wa (Yp (k:=true) (zE (yq (za rfl) zb rfl) rfl) (λ_=>zE (yq (yj (zq (za rfl) zb a2 rfl) zb<|by decide) zb rfl) (by show some (x2%9==0)=_;simp[h9])) (λh=>nomatch h))<|yz (i:=7) zb<|zk rfl)<|zd (zZ (f4 _) rfl) r6⟩
     . have hK:KN k n:=by unfold KN;trivial
       obtain⟨n',J,Ds,r1,r2,r3,r4,r6⟩:=fin n hK n8;refine⟨n',J,Ds,r1,r2,r3,r4,yx rfl<|start _ _<|zd (zZ (zE (VQ (za rfl) zb) hk') rfl)<|zd set7<|zd (zZ (Yp (k:=k==0) (zE (yq (za rfl) zb rfl) rfl) (λh=>zE (yq (yj (zq (za rfl) zb a2 rfl) zb<|by decide) zb rfl) ?_) λ_=>rfl) rfl)<|zd (zZ (f4 _) rfl) r6⟩;have hk0:k=0:=by simpa using h
       show some (x2%9==0)=some false;have:¬x2%9=0:=λz=>h0 ⟨hk0,z⟩;simp[this]
def Aw{f:EF}{as:AS}{ds:List D}(h:WE f as (.lst ds)):XA f as=some (ds.map λd=>(true,d),as):=by
 obtain⟨o,h1,h2,h3⟩:=h;unfold XA;rw[h1];have e:Ue as (.ow o)=some ((o.str,o.toD),as):=rfl;show(Ue as<|RV.ow o).bind (λq=>(N7 q.1).bind λds=>some (ds,q.2))=_;rw[e,h2,h3];show some (kids true ds,as)=_;rw[Lq]
theorem Ph:∀(l:List Int) (k:Nat) (h:k<l.length),(l[k]::l.eraseIdx k).Perm l
 |x::r,0,_=>List.Perm.refl _
 |x::r,k+1,h=>(List.Perm.swap _ _ _).trans<|(Ph r k<|by simpa using h).cons x
abbrev zz(n:Nat):List Int:=(List.range n).map λ(i:Nat)=>(i:Int)
def SO{c:Int}{n:Nat}(hn:0<n)(hn8:n<=8):∃F:List Int,F.Perm (zz n)/\RE (X6 [(true,.int c),(true,.int n)]) (zc F):=by
 obtain⟨xs,hl,hx,ws⟩:=Jk (as:=[sI c,sI n,sN<|(zz n).map yt,sN [],none]) (a:=fV 0) (b:=fV 1) (c:=c) (m:=n) (by trivial) (WD.e<|za rfl)<|WD.e<|za rfl;obtain⟨as',hf,L,F,e4,rfl,hp,hlen⟩:=yG (g:=gN 4) (f:=ym<|yN 3 (dC (yN 2 (dC (f2 yc (fP ZC xN) zx) dN) X3) dN) yT)
  (λi as=>∃(L F:List Int) (e4:Option O),as=[sI c,sI n,sN<|L.map yt,sN<|F.map yt,e4]/\(L++F).Perm (zz n)/\L.length+i=n)
  ((xs.map D.int).map λd=>(true,d)) 0 [sI c,sI n,sN<|(zz n).map yt,sN [],none] (λi x as hx' hI=>by
    obtain⟨L,F,e4,rfl,hp,hlen⟩:=hI;have hi:i<n:=by
     have:=(zzG.mp hx').1;rw[zzB,zzB,hl]at this;exact this
    obtain⟨y,rfl⟩:∃y:Int,x=(true,.int y):=by
     rw[zyB,zzI]at hx';obtain⟨a,_,h2⟩:=zzX.mp hx';exact⟨a,h2.symm⟩
    have l0:(0:Int)<((L.map yt).length:Int):=by rw[zzB];trivial
    have z0:=zyN y (show((L.map yt).length:Int)≠0 by trivial);have z1:=zyH y l0;have hk:(y%((L.map yt).length:Int)).toNat<L.length:=by rw[zzB]at z0 z1 ⊢;trivial
    generalize hkk:(y%((L.map yt).length:Int)).toNat=k at hk;have pop:=HH (as:=[sI c,sI n,sN<|L.map yt,sN<|F.map yt,sI y]) (i:=2) (os:=L.map yt) (o:=yt L[k]) rfl (yj (za (i:=4) rfl) (qp (i:=2) rfl) l0) z0 z1 (by rw[zzB];trivial) (by rw[hkk,zzI,zzE hk];rfl);rw[hkk,show(L.map yt).eraseIdx k=(L.eraseIdx k).map yt by rw[List.eraseIdx_eq_take_drop_succ,List.eraseIdx_eq_take_drop_succ,zyM,List.map_take,List.map_drop]]at pop;have ap:=KY (i:=3) (os:=F.map yt) (as:=[sI c,sI n,sN<|L.map yt,sN<|F.map yt,sI y]) rfl pop rfl (by rw[zzB];have:=hp.length_eq;rw[zzJ,zzB,zyU]at this;exact wL<|by trivial);rw[<-NC]at ap;refine⟨[sI c,sI n,sN<|L.map yt,sN<|F.map yt,sI y],rfl,_,ap,L.eraseIdx k,F++[L[k]],_,rfl, ?_,by rw[List.length_eraseIdx_of_lt hk];trivial⟩;rw[<-zxD];refine(List.perm_append_singleton _ _).trans ?_;rw[<-List.cons_append];exact((Ph L k hk).append_right F).trans hp)
  ⟨zz n,[],none,rfl,by rw[zyE],by rw[zzB,zyU];rfl⟩
 rw[zzB,zzB,hl]at hlen;have hL:L=[]:=List.eq_nil_of_length_eq_zero (by trivial);subst hL;have s2:=yr (i:=2) (as:=[sI c,sI n,none,none,none]) (Lh (a:=fV 1) (x:=.int n) (g:=CG) (zs:=(zz n).map D.int) (WD.e<|za rfl)<|by
  show(if(0:Int)<=n/\(n:Int)<=100000 then _ else _)=_;rw[if_pos ⟨by trivial,by trivial⟩,zyB];rfl)<|zk rfl
 rw[L6]at s2;exact⟨F,hp,yx rfl<|zd s2<|zd (yr (i:=3) (xp zG<|wd rfl)<|zk rfl)<|zd (yQ (Aw ws) hf) ⟨_,L8 (i:=3) rfl (yX F).2.1,(Vf F).1,(Vf F).2⟩⟩
abbrev Lt(s:Str):Prop:=∀c ∈ s.cps.toList,c<123
def Jv(l:List Str):Prop:=l.Nodup/\∀s ∈ l,s.length<=40/\Lt s
theorem Jv.sublist{l l':List Str}(h:Jv l)(s:l'.Sublist l):Jv l':=⟨h.1.sublist s,λx m=>h.2 x<|s.subset m⟩
def Lt.app{a b:Str}(h:Lt a)(g:Lt b):Lt (a++b):=λc m=>by
 rw[Str.cps_append,Array.toList_append]at m;exact(zzM.mp m).elim (h c)<|g c
theorem EX:∀l:List Str,(∀s ∈ l,Lt s)->Lt (Str.join "" l)
 | [],_=>λ_ z=>nomatch z
 | [x],h=>h x (zzF ..)
 |x::y::r,h=>Lt.app (Lt.app (h x<|zzF ..) λ_ z=>nomatch z)<|EX (y::r) λs m=>h s<|zzD _ m
theorem Lt.slice{x:Str}(h:Lt x)(l u:Option Int):Lt (Txt.slice x l u):=by
 unfold Txt.slice
 split
 . exact h
 . intro c m;obtain⟨i,_,hi⟩:=List.mem_filterMap.mp (by simpa using m);exact h c (by rw[<-Array.getElem?_toList]at hi;exact zyA hi)
def Oj{x:Int}:Lt (⟨#[97+(x%26).toNat]⟩:Str):=λq mq=>by
 rw[zzR.mp mq];have h0:=zyN x (show(26:Int)≠0 by decide);have h1:=zyH x (show(0:Int)<26 by decide);omega
abbrev MK:Str:="abcdefghijklmnopqrstuvwxyz"
def Ca:∀k,k<26->MK.cps.toList[k]? = some (97+k):=by decide +kernel
def HB{i:Int}(h0:0<=i)(h1:i<26):zg (.str MK) (.int i)=some (.im<|.str ⟨#[97+i.toNat]⟩):=by
 show(if MK.length<=sizeLine then(atI MK.cps.toList i).bind (λc=>some<|R0.im<|.str ⟨#[c]⟩)else none)=_;rw[if_pos (show MK.length<=sizeLine by decide +kernel)];have:=xk (Ca i.toNat<|by trivial);rw[show((i.toNat:Nat):Int)=i by trivial]at this;rw[this];rfl
theorem NS:∀l:List Str,Tv (l.map D.str)=some l
 | []=>rfl
 |x::r=>by
  show(Tv<|r.map D.str).bind _=_;rw[NS r];rfl
theorem uL:∀l:List Str,(∀s ∈ l,s.length=1)->(l.map (·.length)).sum=l.length
 | [],_=>rfl
 |x::r,h=>by
  show x.length+(r.map (·.length)).sum=r.length+1;rw[h x<|zzF ..,uL r λs m=>h s<|zzD _ m];trivial
def len_app(a b:Str):(a++b).length=a.length+b.length:=by
 show(a++b).cps.size=a.cps.size+b.cps.size;rw[Str.cps_append,Array.size_append]
theorem Ma:∀l:List Str,(∀s ∈ l,s.length=1)->(Str.join "" l).length=l.length
 | [],_=>rfl
 | [x],h=>h x (zzF ..)
 |x::y::r,h=>by
  show(x++""++Str.join "" (y::r)).length=_;rw[len_app,len_app,h x<|zzF ..,Ma (y::r) λs m=>h s<|zzD _ m];show 1+0+(r.length+1)=r.length+1+1;trivial
def add_str{a b:Str}(h:a.length+b.length<=1000):Wt .Add (.str a) (.str b)=some (.im<|.str<|a++b):=if_pos (Gk<|by trivial)
abbrev nm(A B:Str)(x:Int)(k:Nat):Str:=A++⟨#[97+((x+3*(k:Int))%26).toNat]⟩++B
def DO{A B:Str}{x:Int}{k j:Nat}(hk:k<10)(hj:j<10)(h:nm A B x k=nm A B x j):k=j:=by
 have h:=congrArg (λs:Str=>s.cps.toList) h;simp only[Str.cps_append,Array.toList_append,zxD,List.append_cancel_left_eq]at h;have h:=(List.append_cancel_right h);injection h with h
 trivial
def SU{c:Int}:∃ss:List Str,ss.length=10/\Jv ss/\RE (Xw [(true,.int c),(true,.int (10:Nat))]) (.lst<|ss.map D.str):=by
 obtain⟨xs,hl,hx,ws⟩:=Jk (as:=[sI c,sI (10:Nat),sT<|.str MK,none,none,none,none,none]) (a:=fV 0) (b:=fC<|.int 9) (c:=c) (m:=9) (by trivial) (WD.e<|za rfl)<|WD.e zb;obtain⟨x8,a8,_⟩:=at2 hx (k:=8) (by trivial) (by trivial);have hk:(1+c%8).toNat<=9:=by trivial
 have sl:WE (v_ zA oN (oS<|f2 zF (f2 zf Yd zx) zr) ZO) [sI c,sI (10:Nat),sT<|.str MK,sT<|zc xs,none,none,none,none] (.lst<|(xs.take (1+c%8).toNat).map D.int):=by
  refine wA (lo:=none) (hi:=some<|1+c%8) (WD.e<|za rfl) rfl ?_ ?_
  . have:=yJ (as:=[sI c,sI (10:Nat),sT<|.str MK,sT<|zc xs,none,none,none,none]) (zb (x:=.int 1)) (yj (za (i:=0) rfl) (zb (x:=.int 8))<|by decide);unfold oS;unfold WD at this;rw[this];rfl
  . have:=Ep (xs:=(xs.take (1+c%8).toNat).map D.int) (ys:=(xs.drop (1+c%8).toNat).map D.int);rw[<-zyM,List.take_append_drop,zzB,zzS,Nat.min_eq_left (by trivial),show(((1+c%8).toNat:Nat):Int)=1+c%8 by trivial]at this;exact this
 obtain⟨l,l1,l2,l3⟩:=Fg D.str (Q:=λs=>s.length=1/\Lt s) (cap:=[none,some 2]) (g:=gN 0) (fe:=f2 zh (f2 zf (fC<|.int 26) zx) zg) (Pv sl) (by rw[zzB,zzB,zzS];trivial) λy m=>by
  rw[zyB]at m;obtain⟨z,_,rfl⟩:=zxE.mp m;exact⟨[sI z,sT<|.str MK],⟨#[97+(z%26).toNat]⟩,rfl,WD.e<|zq (za rfl) (yj (za rfl) zb<|by decide) (HB (by trivial)<|by trivial) rfl,rfl,Oj⟩
 rw[zzB,zzB,zzS]at l1;have hb:(Str.join "" l).length=l.length:=Ma l λs m=>(l2 s m).1;have hlt:Lt (Str.join "" l):=EX l λs m=>(l2 s m).2;have hm:WD (wN .str (fC<|.str "") (aC (zt (yA<|v_ zA oN (oS<|f2 zF (f2 zf Yd zx) zr) ZO) [none,some 2] zH zK<|f2 zh (f2 zf (fC<|.int 26) zx) zg) aN) Fz) [sI c,sI (10:Nat),sT<|.str MK,sT<|zc xs,none,none,none,none] true (.str<|Str.join "" l):=
  Wf zb rfl (vY l3 zw) (by
   show(Tv<|l.map D.str).bind _=_;rw[NS];show(if(l.map (·.length)).sum+l.length*0<=16777216 then some (R0.im<|.str<|Txt.join "" l)else none)=_;rw[if_pos (by rw[uL l λs m=>(l2 s m).1];trivial),Hc]) rfl
 generalize Str.join "" l=base at hb hm hlt;have lb:(0:Int)<(base.length:Int):=by trivial
 have lz:base.length<=sizeLine:=Gk (by trivial);have z0:=zyN (c/8) (show(base.length:Int)≠0 by trivial);have z1:=zyH (c/8) lb;generalize hat:c/8%(base.length:Int)=at_ at z0 z1
 have lA:=Txt.slice_le base none<|some at_;have lB:=Txt.slice_le base (some<|at_+1) none;have eA:HW (.str base) none (some at_)=some (.im<|.str<|Txt.slice base none<|some at_):=if_pos lz;have eB:HW (.str base) (some<|at_+1) none=some (.im<|.str<|Txt.slice base (some<|at_+1) none):=if_pos lz;have tA:=hlt.slice none<|some at_;have tB:=hlt.slice (some<|at_+1) none;generalize Txt.slice base none (some at_)=A at lA eA tA;generalize Txt.slice base (some<|at_+1) none=B at lB eB tB;have lo1:∀(f:EF) (as:AS) (k:Int),WD f as true (.int k)->oS f as=some (some k,as):=λf as k h=>by
  unfold oS;unfold WD at h;rw[h];rfl
 obtain⟨as',hf,os,e7,rfl,ho⟩:=yG (g:=gN 7) (f:=ym<|yN 6 (dC (f2 (f2 (v_ yc oN (oS yY) HW) (f2 zo (f2 (f2 (f2 zA Yd zg) (f2 xU xD zC) zr) (fC<|.int 26) zx) zg) zr) (v_ yc (oS<|f2 yY zF zr) oN HW) zr) dN) yT)
  (λi as=>∃(os:List O) (e7:Option O),as=[sI c,sI (10:Nat),sT<|.str MK,sT<|zc xs,sT<|.str base,sI at_,sN os,e7]/\Ows D.str (λ_=>True) os ((List.range i).map<|nm A B x8))
  (xb 0 10) 0 [sI c,sI (10:Nat),sT<|.str MK,sT<|zc xs,sT<|.str base,sI at_,sN [],none] (λi x as hx' hI=>by
   obtain⟨os,e7,rfl,ho⟩:=hI;obtain⟨rfl,hi⟩:=xm hx';rw[zyY]at ho;have d1:=HB (i:=(x8+3*((0:Int)+i))%26) (by trivial) (by trivial);have e0:(x8+3*((0:Int)+i))%26=(x8+3*(i:Int))%26:=by rw[Int.zero_add]
   obtain⟨os',o1,o2⟩:=Oa (as:=[sI c,sI (10:Nat),sT<|.str MK,sT<|zc xs,sT<|.str base,sI at_,sN os,sI<|0+i]) (x:=nm A B x8 i) (i:=6) (toD:=D.str) (Q:=λ_=>True) (a:=f2 (f2 (v_ yc oN (oS yY) HW) (f2 zo (f2 (f2 (f2 zA Yd zg) (f2 xU xD zC) zr) (fC<|.int 26) zx) zg) zr) (v_ yc (oS<|f2 yY zF zr) oN HW) zr) rfl ho (by rw[zzB,zyU];trivial)
    (WD.e<|zW (zW (Q3 (za (i:=4) rfl) rfl (lo1 _ _ _<|za (i:=5) rfl) eA) (zq (za (i:=2) rfl) (yj (yJ (zq (za (i:=3) rfl) zb a8 rfl)<|xo zb (za (i:=7) rfl) (zU (by decide)<|by decide)<|zU (by trivial)<|by trivial) zb<|by decide) d1 rfl)<|add_str (by show A.length+1<=_;trivial)) (Q3 (za (i:=4) rfl) (lo1 _ _ _<|yJ (za (i:=5) rfl) zb) rfl eB)<|by
     rw[e0];exact add_str (by rw[len_app];show A.length+1+B.length<=_;trivial)) trivial
   refine⟨[sI c,sI (10:Nat),sT<|.str MK,sT<|zc xs,sT<|.str base,sI at_,sN os,sI<|0+i],rfl,_,o2,os',_,rfl, ?_⟩;rw[show 0+i+1=i+1 by trivial,List.range_succ,zyM];exact o1)
  ⟨[],none,rfl,Ows.nil⟩
 rw[yH,zyY]at ho;have s5:=yz (st:=true) (i:=5) (as:=[sI c,sI (10:Nat),sT<|.str MK,sT<|zc xs,sT<|.str base,none,none,none]) (yj (vK (za (i:=0) rfl) (zb (x:=.int 8)) (by decide)<|zU (by decide)<|by decide) (y_ (g:=xN) (x:=.int base.length) (zj (za (i:=4) rfl) zw) (if_pos lz) rfl) lb)<|zk rfl;rw[hat]at s5;refine⟨(List.range 10).map<|nm A B x8,by rw[zzB,zyU], ?_,yx rfl<|zd (yz (i:=2) zb<|zk rfl)<|zd (xx (p:=3) ws<|zk rfl)<|zd (yz (i:=4) hm<|zk rfl)<|zd s5<|zd (yr (i:=6) (xp zG<|wd rfl)<|zk rfl)<|zd (yQ (yR (zj (za rfl) zw) (by decide)<|by decide) hf)<|Ows.retB (i:=6) rfl ho⟩;refine⟨List.pairwise_map.mpr<|(List.nodup_range (n:=10)).imp_of_mem λha hb hne he=>hne<|DO (List.mem_range.mp ha) (List.mem_range.mp hb) he,λx mx=>?_⟩;obtain⟨i,_,rfl⟩:=zxE.mp mx;refine⟨?_,Lt.app (Lt.app tA Oj) tB⟩;rw[len_app,len_app];show A.length+1+B.length<=40;omega
def uc{a b:EF}{as:AS}{d1 d2:List D}(ha:WE a as (.lst d1))(hb:WE b as (.lst d2)):FZ (aC a<|aC b aN) as=some (Yu true d1 d2,as):=by
 have h:=vY ha<|vY hb<|zw (as:=as);unfold WA at h;unfold FZ;rw[h];rfl
abbrev qa(x:Int):Z_:=(true,.int x)
def Iz{n:Nat}:xb 0 n=(zz n).map qa:=by
 rw[zyB];exact List.map_congr_left λi _=>by show(true,D.int<|0+(i:Int))=_;rw[Int.zero_add];rfl
theorem Ui{g:GF}{tt:TF}{fe:EF}{as0:AS}:∀{xs:List Int},(∀x ∈ xs,∃as1 b,g (qa x) as0=some as1/\WT tt as1 b/\WD fe as1 true (.int x))->∃l:List Int,xv g tt fe as0 (xs.map qa)=some (l.map yt)/\l.Sublist xs
 | [],_=>⟨[],rfl,List.Sublist.slnil⟩
 |y::xs,H=>by
  obtain⟨as1,b,h1,h2,h3⟩:=H y<|zzF ..;obtain⟨l,hl,h4⟩:=Ui (g:=g) (tt:=tt) (fe:=fe) (as0:=as0) (xs:=xs) λz m=>H z<|zzD _ m;cases b with
  |true=>exact⟨y::l,BW h1 h2 h3 hl,h4.cons_cons y⟩
  |false=>exact⟨l,KH h1 h2 hl,h4.cons y⟩
abbrev ye(p:Str×List Int):D:=.tup [.str p.1,zc p.2]
abbrev Sg(n:Nat)(S:SS):Prop:=S.length<=10/\Jv (S.map (·.1))/\∀p ∈ S,p.2.Sublist<|zz n
abbrev IL:List Int:=[1,2,4,8,16,32,64,128]
theorem FU(st:Bool):∀(a b:List D),(Yu st a b).length<=b.length
 | [],b=>Nat.zero_le _
 |_::_,[]=>zzN _
 |_::a,_::b=>Nat.succ_le_succ<|FU st a b
def Hq{c:Int}{n:Nat}{ns:List Str}(hn:n<=8)(hl:ns.length<=10)(nd:Jv ns):∃ss:SS,Sg n ss/\RE (ZR [(true,.int c),(true,.int n),(true,.lst<|ns.map D.str)]) (.lst<|ss.map ye):=by
 obtain⟨xs,xl,hx,ws⟩:=Jk (as:=[sI c,sI n,sT<|.lst<|ns.map D.str,sN [],none,none]) (a:=fV 0) (b:=fP ZC xN) (c:=c) (m:=ns.length) (by omega) (WD.e<|za rfl)<|WD.e<|y_ (zj (za rfl) zw) (by show some (R0.im<|.int ((ns.map D.str).length:Int))=_;rw[zzB]) rfl;obtain⟨as',hf,os,l,e4,e5,rfl,ho,hll,hnm⟩:=yG (g:=gT 2<|yC Zs<|yC (gN 5) vI) (f:=ym<|yN 3 (dC (zX<|dC yY<|dC (zt (z_ y6 ya) [none,some 4] zH (fT<|f2 (f2 (f2 zh (f2 (yK<|dC zF<|dC yh<|dC y9<|dC Yd<|dC (fC<|.int 16)<|dC (fC<|.int 32)<|dC (fC<|.int 64)<|dC (fC<|.int 128) dN) zf zg) zQ) yh zx) zF<|zB .Eq) zf) dN) dN) yT)
  (λi as=>∃(os:List O) (l:SS) (e4 e5:Option O),as=[sI c,sI n,sT<|.lst<|ns.map D.str,sN os,e4,e5]/\Ows ye (λp=>p.2.Sublist<|zz n) os l/\l.length=i/\l.map (·.1)=ns.take i)
  (Yu true (xs.map D.int)<|ns.map D.str) 0 [sI c,sI n,sT<|.lst<|ns.map D.str,sN [],none,none] (λi x as hx' hI=>by
   obtain⟨os,l,e4,e5,rfl,ho,hlen,hnm⟩:=hI;obtain⟨d,e,z1,z2,rfl⟩:=X7 hx';have hil:i<ns.length:=by have:=(zzG.mp z2).1;rw[zzB]at this;exact this
   obtain⟨y,m1,rfl⟩:=RK z1;rw[zzI]at z2;obtain⟨s,m2,rfl⟩:=zzX.mp z2;obtain⟨r,hr,ri⟩:=Ui (g:=gN 0) (as0:=[none,sI y]) (tt:=fT<|f2 (f2 (f2 zh (f2 (yK<|dC zF<|dC yh<|dC y9<|dC Yd<|dC (fC<|.int 16)<|dC (fC<|.int 32)<|dC (fC<|.int 64)<|dC (fC<|.int 128) dN) zf zg) zQ) yh zx) zF<|zB .Eq) (fe:=fV 0) (xs:=zz n) λb m=>by
    obtain⟨i,mi,rfl⟩:=zxE.mp m;have b1:=List.mem_range.mp mi;have b0:(0:Int)<=(i:Int):=by omega
    obtain⟨q,q1,q2⟩:=Tt (r:=IL) (P:=λx=>0<x/\x<1000) (k:=(i:Int)) b0 (by show(i:Int)<8;omega) (by decide);exact⟨[sI (i:Int),sI y],_,rfl,zE (yq (yj (vK (za rfl) (Ey (xy (os:=IL.map yt) (ze zb<|ze zb<|ze zb<|ze zb<|ze zb<|ze zb<|ze zb<|ze zb zG) (wd rfl) rfl rfl) (WD.e<|za rfl) q1) q2.1<|zU (by omega)<|by omega) zb<|by decide) zb rfl) rfl,za rfl⟩
   rw[<-Iz]at hr;have hc:=YT (as:=[sI c,sI n,sT<|.lst<|ns.map D.str,sN os,sI y,sT<|.str s]) (cap:=[none,some 4]) (yR (zj (za (i:=1) rfl) zw) (by omega)<|by omega) (by rw[yH];exact Gk<|by omega) hr;obtain⟨os',o1,o2⟩:=Oa (as:=[sI c,sI n,sT<|.lst<|ns.map D.str,sN os,sI y,sT<|.str s]) (x:=(s,r)) (i:=3) (toD:=ye) (Q:=λp=>p.2.Sublist<|zz n) rfl ho (by omega) (Q4 (ze (za (i:=5) rfl)<|v7 hc zG) (wd rfl) (by show(true&&((O.nd .ls<|r.map yt).str&&true))=true;rw[(Vf r).1];rfl) (by show D.tup [.str s,(O.nd .ls<|r.map yt).toD]=_;rw[(Vf r).2])) ri;exact⟨[sI c,sI n,sT<|.lst<|ns.map D.str,sN os,sI y,sT<|.str s],rfl,_,o2,os',l++[(s,r)],_,_,rfl,o1,by rw[zzJ,hlen];show 0+i+1=_;omega,by rw[zyM,hnm,zyY,List.take_succ,m2];rfl⟩)
  ⟨[],[],none,none,rfl,Ows.nil,rfl,rfl⟩
 have hz:l.length<=10:=zzO (Nat.le_of_eq<|hll.trans<|zyY _)<|zzO (FU _ _ _)<|zzO (Nat.le_of_eq<|zzB ..) hl;exact⟨l,⟨hz,by rw[hnm];exact nd.sublist<|List.take_sublist _ _,ho.al⟩,yx rfl<|zd (yr (i:=3) (xp zG<|wd rfl)<|zk rfl)<|zd (yQ (uc ws<|WD.e<|za rfl) hf)<|Ows.retB (i:=3) rfl ho⟩
theorem any_ints(b:Int):∀r:List Int,∃t,anyF (λy=>xq 50 y<|.int b) (r.map D.int)=some t
 | []=>⟨_,rfl⟩
 |x::r=>by
  obtain⟨t,h⟩:=any_ints b r;refine⟨(x==b)||t, ?_⟩;show(some<|x==b).bind _=_;rw[zyL,h];rfl
theorem P4{b:Int}:∀{r:List Int},b ∈ r->∃j:Nat,j<r.length/\r[j]? = some b/\Vl (λy=>xq 50 y<|.int b) (r.map D.int)=some j
 |x::r,m=>by
  by_cases e:x=b
  . obtain⟨t,h⟩:=any_ints b r;refine⟨0,Nat.succ_pos _,by rw[e];rfl, ?_⟩;show(some<|x==b).bind _=_;rw[zyL,show(x==b)=true by simp[e]];show(anyF _<|r.map D.int).bind _=_;rw[h];rfl
  . obtain⟨j,h1,h3,h2⟩:=P4 (r:=r)<|(zzC.mp m).resolve_left λz=>e z.symm;refine⟨j+1,Nat.succ_lt_succ h1,by simpa using h3, ?_⟩;show(some<|x==b).bind _=_;rw[zyL,show(x==b)=false by simp[e]];show(Vl _<|r.map D.int).bind _=_;rw[h2];rfl
def TJ{F:List Int}{n:Nat}(h:F.Perm (zz n)):Row n F/\∀b:Int,0<=b->b<n->b ∈ F:=by
 refine⟨⟨by rw[h.length_eq,zzB,zyU],λx m=>?_⟩,λb b0 b1=>h.mem_iff.mpr ?_⟩
 . obtain⟨i,hi,rfl⟩:=zxE.mp<|h.mem_iff.mp m;have:=List.mem_range.mp hi;trivial
 . exact zxE.mpr ⟨b.toNat,List.mem_range.mpr (by trivial),by trivial⟩
def CN{α:Type}(toD:α->D){Q:Nat->α->Prop}{fr:AF}{cap:List (Option Nat)}{fe:EF}{as:AS}{n:Nat}{u:Bool}(h1:WA fr as [(u,.int n)])(hl:n<=1000)(H:∀i:Nat,i<n->∃as1 a,gN 0 (true,.int (i:Int)) (wM cap as)=some as1/\WE fe as1 (toD a)/\Q i a):
 ∃l:List α,l.length=n/\(∀i a,l[i]? = some a->Q i a)/\WE (zt (z_ fr ya) cap zH zK fe) as (.lst<|l.map toD):=by
 obtain⟨l,a1,a2,a3⟩:=Km toD (Q:=Q) (cap:=cap) (g:=gN 0) (fe:=fe) (yR h1 (by trivial)<|by trivial) (by rw[yH];trivial) (λi y m=>by
  obtain⟨rfl,hi⟩:=xm m;rw[Int.zero_add];exact H i<|by trivial)
 rw[yH]at a1;exact⟨l,by trivial,a2,a3⟩
def Oi{F:List Int}{n:Nat}(h:F.Perm (zz n)){v w:Int}(hv:zL n v)(hw:zL n w)(e:zD F v=zD F w):v=w:=by
 have hl:=(TJ h).1.1;have v0:=hv.1;have v1:=hv.2;have w0:=hw.1;have w1:=hw.2;have nd:F.Nodup:=by
  refine h.nodup_iff.mpr (List.pairwise_map.mpr<|List.nodup_range.imp λz q=>z<|by trivial)
 rw[Yw (by trivial),Yw<|by trivial]at e;have:=(List.getElem_inj nd).mp e;trivial
def uI{as:AS}{F:List Int}{n:Nat}{cap:List (Option Nat)}{fr:AF}(hF:F.Perm (zz n))(hn:n<=8)(h1:WA fr as [(true,.int n)])(h2:∀b:Int,gN 0 (true,.int b) (wM cap as)=some [sI b,sT<|zc F]):
 ∃B,(Row n B/\(∀v,zL n v->zD F (zD B v)=v)/\∀v,zL n v->zD B (zD F v)=v)/\WE (zt (z_ fr ya) cap zH zK<|wN .lst zh y8 wF) as (zc B):=by
 obtain⟨r1,r2⟩:=TJ hF;obtain⟨B,b1,b2,b3⟩:=CN D.int (Q:=λi x=>zD F x=i/\zL n x) (n:=n) (cap:=cap) (fe:=wN .lst zh y8 wF) h1 (by trivial) λb hb=>by
  obtain⟨j,j1,j3,j2⟩:=P4 (r2 b (by trivial)<|by trivial);refine⟨_,(j:Int),h2 b,WD.e<|Wf (za rfl) rfl (zj (za rfl) zw) ?_ rfl, ?_,by trivial,by rw[r1.1]at j1;trivial⟩
  . show(Vl _<|F.map D.int).bind _=_;rw[j2];show(if(F.map D.int).length<=1000 then some (R0.im<|.int j)else none)=_;rw[if_pos<|by rw[zzB,r1.1];trivial]
  . unfold zD;rw[zyI,j3];rfl
 have rB:Row n B:=⟨b1,λx m=>by
  obtain⟨i,hi⟩:=zyV m;exact(b2 i x hi).2⟩
 have fb:∀v,zL n v->zD F (zD B v)=v:=λv hv=>by
  have v0:=hv.1;have v1:=hv.2;have hk:v.toNat<B.length:=by trivial
  rw[Yw hk,(b2 _ _<|zzE hk).1];trivial
 exact⟨B,⟨rB,fb,λv hv=>Oi hF (rowAt rB (rowAt r1 hv).2).2 hv<|fb _ (rowAt r1 hv).2⟩,b3⟩
def NM{f:EF}{g:GF}{as as':AS}{x:D}(h:WE f as x)(hg:g (true,x) as=some as'):XY f g as=some (.nx as'):=by
 obtain⟨o,h1,h2,h3⟩:=h;exact Dv h1 (by rw[h2,h3];exact hg)
def tY{as:AS}{F B:List Int}{J:TZ}{n:Nat}{fr:AF}{cap:List (Option Nat)}(hn:n<=8)(hF:Row n F)(hB:Row n B)(hJ:Tab n n J)(h1:WA fr as [(true,.int n)])(h2:∀a:Int,gN 0 (true,.int a) (wM cap as)=some [sI a,sT<|zc F,sI n,sT<|zm J,sT<|zc B]):
 ∃T,Qe n n (λa b=>zD F<|yw J (zD B a)<|zD B b) T/\WE (zt (z_ fr ya) cap zH zK<|zt (z_ ZC ya) [none,some 1,some 3,some 4,some 0] zH zK<|f2 zh (f2 (f2 zo (f2 zA yc zg) zg) (f2 zA zf zg) zg) zg) as (zm T):=
 RL (f:=λa b=>zD F<|yw J (zD B a)<|zD B b) (n:=n) (k:=n) (cap:=cap) (fe:=zt (z_ ZC ya) [none,some 1,some 3,some 4,some 0] zH zK<|f2 zh (f2 (f2 zo (f2 zA yc zg) zg) (f2 zA zf zg) zg) zg) h1 (by trivial) λa ha=>by
  obtain⟨r,r1,r3⟩:=V3 (f:=λb=>zD F<|yw J (zD B a)<|zD B b) (N:=n) (as:=[sI a,sT<|zc F,sI n,sT<|zm J,sT<|zc B]) (u:=true) (n:=n) (fr:=aC zo aN) (cap:=[none,some 1,some 3,some 4,some 0]) (fe:=f2 zh (f2 (f2 zo (f2 zA yc zg) zg) (f2 zA zf zg) zg) zg) (zj (za rfl) zw) (by trivial) λb hb=>by
     obtain⟨p1,p2⟩:=rowAt hB ha;obtain⟨q1,q2⟩:=rowAt hB hb;obtain⟨t1,t2⟩:=xF hJ p2;obtain⟨v1,v2⟩:=rowAt t2 q2;obtain⟨w1,w2⟩:=rowAt hF v2;exact⟨[sI b,sT<|zc F,sT<|zm J,sT<|zc B,sI a],rfl,WD.e<|zq (za rfl) (zq (zW (za rfl) (zq (za rfl) (za rfl) p1 rfl) t1) (zq (za rfl) (za rfl) q1 rfl) v1 rfl) w1 rfl,w2⟩
  exact⟨_,r,h2 a,r3,r1⟩
abbrev zO(p:Str×TZ):D:=.tup [.str p.1,zm p.2]
abbrev Sn:EF:=zt (yA<|fV 14) [none,some 8,some 5,some 9] zH zK<|zt (z_ ZC ya) [none,some 1,some 0,some 3] zH zK<|f2 zh (f2 zo (f2 zA zf zg) zg) zg
def uF{as:AS}{F B:List Int}{T:TZ}{m n:Nat}(hn:n<=8)(hm:m<=8)(hF:Row n F)(hB:Row n B)(hT:Tab m n T)(h1:as[14]? = some (sT<|zm T))(h2:∀d:D,gN 0 (true,d) (wM [none,some 8,some 5,some 9] as)=some [sT d,sT<|zc F,sI n,sT<|zc B]):
 ∃T',Qe m n (λc a=>zD F<|yw T c<|zD B a) T'/\WE Sn as (zm T'):=by
 obtain⟨T',t1,t2,t3⟩:=Km zc (Q:=λ(c:Nat) r=>Wu n n (λa=>zD F<|yw T c<|zD B a) r) (cap:=[none,some 8,some 5,some 9]) (g:=gN 0) (fe:=zt (z_ ZC ya) [none,some 1,some 0,some 3] zH zK<|f2 zh (f2 zo (f2 zA zf zg) zg) zg) (Pv (f:=fV 14) (as:=as)<|WD.e<|za h1) (by rw[zzB,zzB,hT.1];trivial) λc y my=>by
  rw[zyB,zzI]at my;obtain⟨r,mr,rfl⟩:=zzX.mp my;have hr:=hT.2 r<|zyA mr;have hj:∀v,yw T c v=zD r v:=λv=>by unfold yw;rw[zyI,mr];rfl
  obtain⟨l,l1,l3⟩:=V3 (f:=λa=>zD F<|yw T c<|zD B a) (N:=n) (as:=[sT<|zc r,sT<|zc F,sI n,sT<|zc B]) (u:=true) (n:=n) (fr:=aC zo aN) (cap:=[none,some 1,some 0,some 3]) (fe:=f2 zh (f2 zo (f2 zA zf zg) zg) zg) (zj (za rfl) zw) (by trivial) λa ha=>by
   obtain⟨p1,p2⟩:=rowAt hB ha;obtain⟨v1,v2⟩:=rowAt hr p2;obtain⟨w1,w2⟩:=rowAt hF v2;rw[hj];exact⟨[sI a,sT<|zc F,sT<|zc r,sT<|zc B],rfl,WD.e<|zq (za rfl) (zq (za rfl) (zq (za rfl) (za rfl) p1 rfl) v1 rfl) w1 rfl,w2⟩
  exact⟨_,l,h2 _,l3,l1⟩
 rw[zzB,zzB]at t1;exact⟨T',Wl (by rw[t1,hT.1]) t2,t3⟩
structure Alg(n m:Nat)(J:TZ)(e:Int)(Ds:DZ):Prop where
 n1:1<=n
 n8:n<=8
 m1:1<=m
 m6:m<=6
 j:Tab n n J
 e0:0<=e
 en:e<n
 dl:Ds.length<=6
 ds:∀p ∈ Ds,Tab m n p.2
 nd:Jv (Ds.map (·.1))
structure LawA(n m:Nat)(J:TZ)(e:Int)(Ds:DZ):Prop where
 lj:LJ n (yw J) e
 ld:∀p ∈ Ds,LD n m (yw J) e<|yw p.2
abbrev zi(n m:Nat)(J:TZ)(e:Int)(Ds:DZ)(S:SS):D:=.tup [.int n,.int m,zm J,.int e,.lst<|Ds.map zO,.lst<|S.map ye]
def Ot{A0 A1 A2 A3 A4 A6 A7 A10 A11 A15:Option O}{F B:List Int}{Ds:List TZ}{ns:List Str}{m n:Nat}(hn:n<=8)(hm:m<=8)(hF:Row n F)(hB:Row n B)(hD:∀T ∈ Ds,Tab m n T)(hl:Ds.length<=ns.length)(hl8:Ds.length<=8):
 ∃os l e13 e14,Ows zO (λp=>∃T ∈ Ds,Qe m n (λc a=>zD F<|yw T c<|zD B a) p.2) os l/\l.map (·.1)=ns.take Ds.length/\l.length=Ds.length/\forL (gT 2<|yC (gN 13)<|yC (gN 14) vI) (ym<|yN 12 (dC (zX<|dC (fV 13)<|dC Sn dN) dN) yT) (Yu true (ns.map D.str)<|Ds.map zm)
  [A0,A1,A2,A3,A4,sI n,A6,A7,sT<|zc F,sT<|zc B,A10,A11,sN [],none,none,A15]
  = some (.nx [A0,A1,A2,A3,A4,sI n,A6,A7,sT<|zc F,sT<|zc B,A10,A11,sN os,e13,e14,A15]):=by
 obtain⟨as',hf,os,l,e13,e14,rfl,ho,hlm,hlen⟩:=yG (g:=gT 2<|yC (gN 13)<|yC (gN 14) vI) (f:=ym<|yN 12 (dC (zX<|dC (fV 13)<|dC Sn dN) dN) yT)
  (λi as=>∃(os:List O) (l:DZ) (e13 e14:Option O),as=[A0,A1,A2,A3,A4,sI n,A6,A7,sT<|zc F,sT<|zc B,A10,A11,sN os,e13,e14,A15]/\Ows zO (λp=>∃T ∈ Ds,Qe m n (λc a=>zD F<|yw T c<|zD B a) p.2) os l/\l.map (·.1)=ns.take i/\l.length=i)
  (Yu true (ns.map D.str)<|Ds.map zm) 0 [A0,A1,A2,A3,A4,sI n,A6,A7,sT<|zc F,sT<|zc B,A10,A11,sN [],none,none,A15] (λi x as hx' hI=>by
   obtain⟨os,l,e13,e14,rfl,ho,hlm,hlen⟩:=hI;obtain⟨d,e,z1,z2,rfl⟩:=X7 hx';have hil:i<Ds.length:=by have:=(zzG.mp z2).1;rw[zzB]at this;exact this
   obtain⟨T,mT,rfl⟩:=RK z2;rw[zzI]at z1;obtain⟨s,s1,rfl⟩:=zzX.mp z1;obtain⟨T',t1,o,t2,t3,t4⟩:=uF (as:=[A0,A1,A2,A3,A4,sI n,A6,A7,sT<|zc F,sT<|zc B,A10,A11,sN os,sT<|.str s,sT<|zm T,A15]) hn hm hF hB (hD T mT) rfl λ_=>rfl;obtain⟨os',o1,o2⟩:=Oa (as:=[A0,A1,A2,A3,A4,sI n,A6,A7,sT<|zc F,sT<|zc B,A10,A11,sN os,sT<|.str s,sT<|zm T,A15]) (x:=(s,T')) (i:=12) (toD:=zO) (Q:=λp=>∃T ∈ Ds,Qe m n (λc a=>zD F<|yw T c<|zD B a) p.2) rfl ho (by trivial) (Q4 (ze (za (i:=13) rfl)<|v7 t2 zG) (wd rfl) (by show(true&&(o.str&&true))=true;rw[t3];rfl) (by show D.tup [.str s,o.toD]=_;rw[t4])) ⟨T,mT,t1⟩;refine⟨[A0,A1,A2,A3,A4,sI n,A6,A7,sT<|zc F,sT<|zc B,A10,A11,sN os,sT<|.str s,sT<|zm T,A15],rfl,_,o2,os',l++[(s,T')],_,_,rfl,o1, ?_,by rw[zzJ,hlen];rfl⟩;rw[zyM,hlm,show 0+i+1=i+1 by trivial,zyY,List.take_succ,s1];rfl)
  ⟨[],[],none,none,rfl,Ows.nil,rfl,rfl⟩
 rw[Qp,zzB,zzB,Nat.min_eq_right hl,zyY]at hlm hlen;exact⟨os,l,e13,e14,ho,hlm,hlen,hf⟩
def OY(x:Int):∃n:Nat,n<=6/\zg (.lst<|([1,2,0,4,3,2,6,5]:List Int).map D.int) (.int<|x%8)=some (.im<|.int n):=by
 obtain⟨v,h1,h2⟩:=Tt (r:=[1,2,0,4,3,2,6,5]) (P:=λx=>0<=x/\x<=6) (k:=x%8) (by trivial) (by show x%8<8;trivial) (by decide);exact⟨v.toNat,by trivial,by rw[show((v.toNat:Nat):Int)=v by trivial];exact h1⟩
def DR(x:Int):∃n:Nat,n<=4/\zg (.lst<|([1,2,1,4,0,2,3,1]:List Int).map D.int) (.int<|x%8)=some (.im<|.int n):=by
 obtain⟨v,h1,h2⟩:=Tt (r:=[1,2,1,4,0,2,3,1]) (P:=λx=>0<=x/\x<=4) (k:=x%8) (by trivial) (by show x%8<8;trivial) (by decide);exact⟨v.toNat,by trivial,by rw[show((v.toNat:Nat):Int)=v by trivial];exact h1⟩
def Z4{f:EF}{as:AS}{k:Int}(h:WD f as true (.int k)):oS f as=some (some k,as):=by
 unfold oS;unfold WD at h;rw[h];rfl
def O3{α:Type}(f:α->D)(l:List α)(lo hi:Option Int):∃l':List α,l'.Sublist l/\PF.cutD (l.map f) lo hi=l'.map f:=by
 unfold PF.cutD;rw[zzB,<-List.map_drop,<-List.map_take];exact⟨_,(List.take_sublist _ _).trans<|List.drop_sublist _ _,rfl⟩
def IQ{as:AS}{a b c d e f g h:Int}:WE (yK<|dC (fC<|.int a)<|dC (fC<|.int b)<|dC (fC<|.int c)<|dC (fC<|.int d)<|dC (fC<|.int e)<|dC (fC<|.int f)<|dC (fC<|.int g)<|dC (fC<|.int h) dN) as (.lst<|([a,b,c,d,e,f,g,h]:List Int).map D.int):=
 xy (os:=([a,b,c,d,e,f,g,h]:List Int).map yt) (ze zb<|ze zb<|ze zb<|ze zb<|ze zb<|ze zb<|ze zb<|ze zb zG) (wd rfl) rfl rfl
def Gc{c c':Int}:∃n m J e Ds S,(Alg n m J e Ds/\LawA n m J e Ds)/\Sg n S/\RE (xJ [(true,.int c),(true,.int c')]) (zi n m J e Ds S):=by
 obtain⟨ys,hl,hy,ws⟩:=Jk (as:=[sI c,sI c',none,none,none,none,none,none,none,none,none,none,none,none,none,none]) (a:=fV 1) (b:=fC<|.int 6) (c:=c') (m:=6) (by trivial) (WD.e<|za rfl)<|WD.e zb;obtain⟨y0,a0,_⟩:=at2 hy (k:=0) (by trivial) (by trivial);obtain⟨y1,a1,_⟩:=at2 hy (k:=1) (by trivial) (by trivial);obtain⟨y2,a2,_⟩:=at2 hy (k:=2) (by trivial) (by trivial);obtain⟨y3,a3,_⟩:=at2 hy (k:=3) (by trivial) (by trivial);obtain⟨y4,a4,_⟩:=at2 hy (k:=4) (by trivial) (by trivial);obtain⟨y5,a5,_⟩:=at2 hy (k:=5) (by trivial) (by trivial);obtain⟨w,w6,ew⟩:=OY y1;obtain⟨k,k4,ek⟩:=DR y5;have b3:(2:Int).natAbs<big:=zU (by decide) (by decide);obtain⟨m1,m11,m16,hC⟩:∃m1:Int,1<=m1/\m1<=6/\wG (fT<|f2 (f2 (f2 (f2 zo zN zg) Vq zQ) yh zx) zN<|zB .Eq) (zy true 3<|f2 zF (f2 (f2 (f2 zo zN zg) (fC<|.int 12) zQ) xU zx) zr) vE
  [sI c,sI c',sT<|zc ys,sI<|1+y0%6,none,none,none,none,none,none,none,none,none,none,none,none]=some (.nx [sI c,sI c',sT<|zc ys,sI m1,none,none,none,none,none,none,none,none,none,none,none,none]):=by
  by_cases h:y0/6%2=0
  . exact⟨1+y0/12%3,by trivial,by trivial,wa (zE (yq (yj (vK (zq (za rfl) zb a0 rfl) zb (by decide)<|zU (by decide)<|by decide) zb<|by decide) zb rfl) (by show some (y0/6%2==0)=_;simp[h]))<|yz (i:=3) (yJ zb<|yj (vK (zq (za rfl) zb a0 rfl) zb (by decide)<|zU (by decide)<|by decide) zb<|by decide)<|zk rfl⟩
  . exact⟨1+y0%6,by trivial,by trivial,zZ (zE (yq (yj (vK (zq (za rfl) zb a0 rfl) zb (by decide)<|zU (by decide)<|by decide) zb<|by decide) zb rfl) (by show some (y0/6%2==0)=_;simp[h])) rfl⟩
 obtain⟨m,mm1,mm6,hE⟩:∃m:Nat,1<=m/\m<=6/\wG (fT<|f2 yc xU<|zB .Gt) (zy true 3<|f2 zF (f2 zA yh zx) zr) vE
  [sI c,sI c',sT<|zc ys,sI m1,sI w,none,none,none,none,none,none,none,none,none,none,none]=some (.nx [sI c,sI c',sT<|zc ys,sI m,sI w,none,none,none,none,none,none,none,none,none,none,none]):=by
  by_cases h:(3:Int)<w
  . refine⟨(1+m1%2).toNat,by trivial,by trivial, ?_⟩;rw[show(((1+m1%2).toNat:Nat):Int)=1+m1%2 by trivial];exact wa (zE (VQ (za rfl) zb)<|congrArg some<|zyO h)<|yz (i:=3) (yJ zb<|yj (za rfl) zb<|by decide)<|zk rfl
  . refine⟨m1.toNat,by trivial,by trivial, ?_⟩;rw[show((m1.toNat:Nat):Int)=m1 by trivial];exact zZ (zE (VQ (za rfl) zb)<|congrArg some<|zyG h) rfl
 obtain⟨n,J,Ds,n1,n8,LP,dl,hmade⟩:=C2 (c:=c) (m:=m) (w:=w) (by trivial) (by trivial) (by trivial);have hJ:=LP.tj;have hD:=LP.td;obtain⟨F,hF,hord⟩:=SO (c:=y2) n1 n8;obtain⟨rF,_⟩:=TJ hF;obtain⟨B,⟨rB,fb,bf⟩,hback⟩:=uI (as:=[sI c,sI c',sT<|zc ys,sI m,sI w,sI n,sT<|zm J,sT<|.lst<|Ds.map zm,sT<|zc F,none,none,none,none,none,none,none]) (cap:=[none,some 8]) (fr:=aC yY aN) hF n8 (zj (za rfl) zw) λb=>rfl;obtain⟨J',hJ',hjoin⟩:=tY (as:=[sI c,sI c',sT<|zc ys,sI m,sI w,sI n,sT<|zm J,sT<|.lst<|Ds.map zm,sT<|zc F,sT<|zc B,none,none,none,none,none,none]) (cap:=[none,some 8,some 5,some 6,some 9]) (fr:=aC yY aN) n8 rF rB hJ (zj (za rfl) zw) λa=>rfl;obtain⟨ns,nl,nnd,hnames⟩:=SU (c:=y3);obtain⟨os,l,e13,e14,ho,hlm,hlen,hf⟩:=Ot (A0:=sI c) (A1:=sI c') (A2:=sT<|zc ys) (A3:=sI m) (A4:=sI w) (A6:=sT<|zm J) (A7:=sT<|.lst<|Ds.map zm) (A10:=sT<|zm J') (A11:=sT<|.lst<|ns.map D.str) (A15:=none) (ns:=ns.take 6) n8 (by trivial) rF rB hD (by rw[zzS,nl];trivial) (by trivial);obtain⟨ef,ff⟩:=rowAt rF (v:=0) ⟨by trivial,by trivial⟩;obtain⟨ks,kl,ck⟩:=O3 D.str ns (some 6)<|some<|6+(k:Int);obtain⟨S,hSg,hS⟩:=Hq (c:=y4) (n:=n) (ns:=ks) n8 (by have:=kl.length_le;omega)<|nnd.sublist kl;have cF:∀a,zL n a->zL n (zD F a):=λa ha=>(rowAt rF ha).2;have cB:∀a,zL n a->zL n (zD B a):=λa ha=>(rowAt rB ha).2;have lj:=oF LP.lj cF cB fb bf;refine⟨n,m,J',zD F 0,l,S,⟨⟨n1,n8,mm1,mm6,hJ'.1,ff.1,ff.2,by trivial,λp mp=>?_, ?_⟩,⟨lj.congr hJ'.2,λp mp=>?_⟩⟩,hSg, ?_⟩
 . obtain⟨T,_,hT⟩:=ho.al p mp;exact hT.1
 . rw[hlm];exact(nnd.sublist<|List.take_sublist _ _).sublist<|List.take_sublist _ _
 . obtain⟨T,mT,hT⟩:=ho.al p mp;exact(oY (by trivial) LP.lj (LP.ld T mT) cF cB fb bf).congr (by trivial) lj hJ'.2 hT.2
 have z6:WE (v_ yW oN (oS Vq) ZO) [sI c,sI c',sT<|zc ys,sI m,sI w,sI n,sT<|zm J,sT<|.lst<|Ds.map zm,sT<|zc F,sT<|zc B,sT<|zm J',sT<|.lst<|ns.map D.str,sN [],none,none,none] (.lst<|(ns.take 6).map D.str):=by
  refine wA (lo:=none) (hi:=some 6) (WD.e<|za rfl) rfl (Z4 zb) ?_;have:=Ep (xs:=(ns.take 6).map D.str) (ys:=(ns.drop 6).map D.str);rw[<-zyM,List.take_append_drop,zzB,zzS,nl]at this;exact this
 have zS:WE (zv (aC (f2 zo y9 zg)<|aC yY<|aC (v_ yW (oS Vq) (oS<|f2 Vq (f2 (yK<|dC zF<|dC yh<|dC zF<|dC y9<|dC zN<|dC yh<|dC xU<|dC zF dN) (f2 (f2 zo VX zg) Yd zx) zg) zr) ZO) aN) ZR) [sI c,sI c',sT<|zc ys,sI m,sI w,sI n,sT<|zm J,sT<|.lst<|Ds.map zm,sT<|zc F,sT<|zc B,sT<|zm J',sT<|.lst<|ns.map D.str,sN os,e13,e14,none] (.lst<|S.map ye):=
  Z6 (WD.e<|zq (za rfl) zb a4 rfl) (WD.e<|za rfl) (wA (lo:=some 6) (hi:=some<|6+(k:Int)) (WD.e<|za rfl) (Z4 zb) (Z4<|yJ zb<|Ey IQ (WD.e<|yj (zq (za rfl) zb a5 rfl) zb<|by decide) ek) (by show some (R0.fl<|PF.cutD (ns.map D.str) (some 6)<|some<|6+(k:Int))=_;rw[ck])) hS
 refine yx rfl<|zd (xx (p:=2) ws<|zk rfl)<|zd (yz (i:=3) (yJ zb<|yj (zq (za rfl) zb a0 rfl) zb<|by decide)<|zk rfl)<|zd hC<|zd (yz (i:=4) (Ey IQ (WD.e<|yj (zq (za rfl) zb a1 rfl) zb<|by decide) ew)<|zk rfl)<|zd hE
  (zd (as1:=[sI c,sI c',sT<|zc ys,sI m,sI w,sI n,sT<|zm J,sT<|.lst<|Ds.map zm,none,none,none,none,none,none,none,none]) (NM (Z6 (WD.e<|za rfl) (WD.e<|za rfl) (WD.e<|za rfl) hmade) rfl)
  (zd (xx (p:=8) (Z7 (WD.e<|zq (za rfl) zb a2 rfl) (WD.e<|za rfl) hord)<|zk rfl)<|zd (xx (p:=9) hback<|zk rfl)<|zd (xx (p:=10) hjoin<|zk rfl)<|zd (xx (p:=11) (Z7 (WD.e<|zq (za rfl) zb a3 rfl) (WD.e zb) hnames)<|zk rfl)<|zd (yr (i:=12) (xp zG<|wd rfl)<|zk rfl)<|zd (yQ (uc z6<|WD.e<|za rfl) hf)<|zd (xx (p:=15) zS<|zk rfl) ?_))
 have e:=zP (as:=[sI c,sI c',sT<|zc ys,sI m,sI w,sI n,sT<|zm J,sT<|.lst<|Ds.map zm,sT<|zc F,sT<|zc B,sT<|zm J',sT<|.lst<|ns.map D.str,sN os,e13,e14,sT<|.lst<|S.map ye]) (a:=fV 5) (za rfl)<|zP (a:=fV 3) (za rfl)<|zP (a:=fV 10) (za rfl)<|zP (a:=f2 (fV 8) zN zg) (zq (za rfl) zb ef rfl)<|Xz (j:=12) (fr:=dC (fV 15) dN) rfl<|zP (a:=fV 15) (za rfl) rfl;rw[ho.frz]at e;exact⟨_,YK (RU e<|wd rfl) rfl,rfl,rfl⟩
def Bq{c:Int}{n k:Nat}(hn:0<n)(hn8:n<=8)(hk:k<=900):∃ds:List Int,ds.length=k/\(∀x ∈ ds,zL n x)/\RE (Ys [(true,.int c),(true,.int n),(true,.int k)]) (zc ds):=by
 obtain⟨as',hf,x,os,l,e4,rfl,ho,hlen⟩:=yG (g:=gN 4) (f:=zp (ym<|yN 3 (dC (f2 zf zh zx) dN) yT)<|zy true 0<|f2 zf zh zQ)
  (λi as=>∃(x:Int) (os:List O) (l:List Int) (e4:Option O),as=[sI x,sI n,sI k,sN os,e4]/\Ows D.int (zL n) os l/\l.length=i)
  (xb 0 k) 0 [sI c,sI n,sI k,sN [],none] (λi y as hx' hI=>by
   obtain⟨x,os,l,e4,rfl,ho,hlen⟩:=hI;obtain⟨rfl,hi⟩:=xm hx';obtain⟨os',o1,o2⟩:=Oa (as:=[sI x,sI n,sI k,sN os,sI<|0+i]) (x:=x%n) (i:=3) (toD:=D.int) (Q:=zL n) (a:=f2 zf zh zx) rfl ho (by trivial) (WD.e<|yj (za rfl) (za rfl)<|by trivial)<|wV hn;exact⟨[sI x,sI n,sI k,sN os,sI<|0+i],rfl,_,zV o2<|yz (i:=0) (vK (za rfl) (za rfl) (by trivial)<|zU (by trivial)<|by trivial)<|zk rfl,x/n,os',l++[x%n],_,rfl,o1,by rw[zzJ,hlen];rfl⟩)
  ⟨c,[],[],none,rfl,Ows.nil,rfl⟩
 rw[yH]at hlen;exact⟨l,by trivial,ho.al,yx rfl<|zd (yr (i:=3) (xp zG<|wd rfl)<|zk rfl)<|zd (yQ (yR (zj (za rfl) zw) (by trivial)<|by trivial) hf)<|Ows.retB (i:=3) rfl ho⟩
def ZU{ns:List Int}{k:Int}{s t:Bool}(hk:0<=k):∃x,yg [(s,.lst<|ns.map .int),(t,.int k)]=sT (.int x):=by
 by_cases h:k<((ns.map D.int).length:Int)
 . obtain⟨x,hx⟩:=CU (ns:=ns) hk (by rw[zzB]at h;exact h);exact⟨x,Yj rfl<|V6<|wa (zE (Nk (za rfl)<|y_ (zj (za rfl) zw) rfl rfl)<|congrArg some<|zyO h)<|XD<|zq (za rfl) (za rfl) hx rfl⟩
 . exact⟨0,Yj rfl<|zV (zZ (zE (Nk (za rfl)<|y_ (zj (za rfl) zw) rfl rfl)<|congrArg some<|zyG h) rfl)<|XD zb⟩
def CC{ds:List Int}{a n:Nat}(h:a+n<=ds.length):ZO (zc ds) (some (a:Int)) (some ((a+n:Nat):Int))=some (.fl<|((ds.drop a).take n).map D.int):=by
 show some (R0.fl<|PF.cutD (ds.map D.int) (some (a:Int))<|some ((a+n:Nat):Int))=_
 congr 2
 unfold PF.cutD;rw[HT.RZ,HT.RZ,zzB,Nat.min_eq_left h,Nat.min_eq_left (show a<=ds.length by trivial),<-List.map_drop,<-List.map_take,Nat.add_sub_cancel_left]
def Fj{ds:List Int}{a n N:Nat}(h:a+n<=ds.length)(hd:∀x ∈ ds,zL N x)(e:n=N):Row N ((ds.drop a).take n):=by
 refine⟨by rw[zzS,List.length_drop];trivial,λx m=>hd x<|List.mem_of_mem_drop<|List.mem_of_mem_take m⟩
def uR{f fl fh:EF}{as:AS}{ds:List Int}{a n:Nat}{lo hi:Int}(h:a+n<=ds.length)(hf:WD f as true (zc ds))(h1:WD fl as true (.int lo))(h2:WD fh as true (.int hi))(e1:lo=(a:Int))(e2:hi=((a+n:Nat):Int)):WE (v_ f (oS fl) (oS fh) ZO) as (zc<|(ds.drop a).take n):=by
 subst e1 e2;exact wA (lo:=some (a:Int)) (hi:=some ((a+n:Nat):Int)) (WD.e hf) (Z4 h1) (Z4 h2)<|CC h
abbrev pe:EF:=zt (z_ Yc ya) [none,some 8,some 12,some 2] zH zK<|v_ zh (oS<|f2 zo (f2 zA zf zC) zr) (oS<|f2 (f2 zo (f2 zA zf zC) zr) zA zr) ZO
abbrev p9:SF:=(zp (zy true 12<|f2 (f2 zF (f2 zo zo zC) zr) (f2 (f2 zo zA zC) yW zC) zr)
 (ym<|yN 10 (dC (zX<|dC (f2 (f2 x9 yW zg) zN zg)<|dC pe dN) dN) yT))
abbrev CL(n m:Nat)(a0 a1 a4 a5 a7 a9:Option O)(Ds:DZ)(ds:List Int)(e10 e11 e12:Option O):AS:=
 [a0,a1,sI n,sI m,a4,a5,sT<|.lst<|Ds.map zO,a7,sT<|zc ds,a9,e10,e11,e12]
def Au{n m:Nat}{a0 a1 a4 a5 a7 a9:Option O}{Ds:DZ}{ds:List Int}(n1:1<=n)(n8:n<=8)(m6:m<=6)(dl:Ds.length<=6)(d1:ds.length=1+n*n+n*m*Ds.length)(d2:∀x ∈ ds,zL n x):
 ∃os l e11 e12,Ows zO (λp=>Tab m n p.2) os l/\l.map (·.1)=Ds.map (·.1)/\l.length=Ds.length/\forL (gN 11) p9 (xb 0 Ds.length) (CL n m a0 a1 a4 a5 a7 a9 Ds ds (sN []) none none)=some (.nx<|CL n m a0 a1 a4 a5 a7 a9 Ds ds (sN os) e11 e12):=by
 have nn:n*n<=64:=Nat.mul_le_mul n8 n8;have nm:n*m<=48:=Nat.mul_le_mul n8 m6;obtain⟨as',hf,os,l,e11,e12,rfl,ho,hlm,hlen⟩:=yG (g:=gN 11) (f:=p9)
  (λi as=>∃(os:List O) (l:DZ) (e11 e12:Option O),as=CL n m a0 a1 a4 a5 a7 a9 Ds ds (sN os) e11 e12/\Ows zO (λp=>Tab m n p.2) os l/\l.map (·.1)=(Ds.map (·.1)).take i/\l.length=i)
  (xb 0 Ds.length) 0 (CL n m a0 a1 a4 a5 a7 a9 Ds ds (sN []) none none) (λi x as hx' hI=>by
   obtain⟨os,l,e11,e12,rfl,ho,hlm,hlen⟩:=hI;obtain⟨rfl,hi⟩:=xm hx';rw[Int.zero_add]at hx' ⊢;have g0:=zzE hi;generalize Ds[i]=p at g0;have hk:n*m*i+n*m<=n*m*Ds.length:=by rw[<-Nat.mul_succ];exact Nat.mul_le_mul_left _ hi
   have hk2:n*m*i<=288:=zzO (zzO (Nat.le_add_right _ _) hk)<|Nat.mul_le_mul nm dl;have eat:((1+n*n+n*m*i:Nat):Int)=1+n*n+n*m*i:=by rw[Int.natCast_add,Int.natCast_add,zzV,zzV,zzV];rfl
   have enm:((n*m:Nat):Int)=n*m:=zzV n m;obtain⟨T,t1,t2,o,t3,t4,t5⟩:=Tq (as:=CL n m a0 a1 a4 a5 a7 a9 Ds ds (sN os) (sI i)<|sI ((1+n*n+n*m*i:Nat):Int)) (u:=true) zc (Q:=Row n) (n:=m) (fr:=aC zA aN) (cap:=[none,some 8,some 12,some 2]) (fe:=v_ zh (oS<|f2 zo (f2 zA zf zC) zr) (oS<|f2 (f2 zo (f2 zA zf zC) zr) zA zr) ZO) (zj (za rfl) zw) (by trivial) λc c0 c1=>by
    have ha:n*c.toNat+n<=n*m:=by rw[<-Nat.mul_succ];exact Nat.mul_le_mul_left n (by trivial)
    have ec:(c.toNat:Int)=c:=by trivial
    have w:WD (f2 zo (f2 zA zf zC) zr) [sI c,sT<|zc ds,sI ((1+n*n+n*m*i:Nat):Int),sI n] true (.int<|((1+n*n+n*m*i:Nat):Int)+n*c):=yJ (za rfl) (xo (za rfl) (za rfl) (zU (by trivial)<|by trivial)<|zU (by trivial)<|by trivial);exact⟨[sI c,sT<|zc ds,sI ((1+n*n+n*m*i:Nat):Int),sI n],_,rfl,uR (a:=(1+n*n+n*m*i)+n*c.toNat) (n:=n) (by trivial) (za rfl) w (yJ w<|za rfl) (by rw[Int.natCast_add<|1+n*n+n*m*i,zzV n c.toNat,ec]) (by rw[Int.natCast_add<|1+n*n+n*m*i+n*c.toNat,Int.natCast_add<|1+n*n+n*m*i,zzV n c.toNat,ec]),Fj (by trivial) d2 rfl⟩
   obtain⟨os',o1,o2⟩:=Oa (as:=CL n m a0 a1 a4 a5 a7 a9 Ds ds (sN os) (sI i)<|sI ((1+n*n+n*m*i:Nat):Int)) (a:=zX<|dC (f2 (f2 x9 yW zg) zN zg)<|dC pe dN) (x:=(p.1,T)) (i:=10) (toD:=zO) (Q:=λp=>Tab m n p.2) rfl ho (by trivial) (Q4 (ze (zq (zW (za (i:=6) rfl) (za (i:=11) rfl)<|QZ g0) zb rfl rfl)<|v7 t3 zG) (wd rfl) (by show(true&&(o.str&&true))=true;rw[t4];rfl) (by show D.tup [.str p.1,o.toD]=_;rw[t5])) ⟨t1,t2⟩;refine⟨CL n m a0 a1 a4 a5 a7 a9 Ds ds (sN os) (sI i) e12,rfl,_,zV (as1:=CL n m a0 a1 a4 a5 a7 a9 Ds ds (sN os) (sI i)<|sI ((1+n*n+n*m*i:Nat):Int)) ?_ o2,os',l++[(p.1,T)],_,_,rfl,o1, ?_,by rw[zzJ,hlen];rfl⟩
   . rw[eat];exact yz (i:=12) (yJ (yJ zb<|xo (za (i:=2) rfl) (za (i:=2) rfl) (zU (by trivial)<|by trivial)<|zU (by trivial)<|by trivial)<|xo (xo (za (i:=2) rfl) (za (i:=3) rfl) (zU (by trivial)<|by trivial)<|zU (by trivial)<|by trivial) (za (i:=11) rfl) (by rw[<-enm];exact zU (by trivial)<|by trivial)<|zU (by trivial)<|by trivial)<|zk rfl
   . rw[zyM,hlm,show 0+i+1=i+1 by trivial,zyY,List.take_succ,zzI,g0];rfl)
  ⟨[],[],none,none,rfl,Ows.nil,rfl,rfl⟩
 rw[yH,zyY]at hlm hlen;exact⟨os,l,e11,e12,ho,by rw[hlm,<-zzB (f:=λp:Str×TZ=>p.1),List.take_length],hlen,hf⟩
abbrev xW(T:TZ):O:=.nd .ls<|T.map yf
abbrev yB(p:Str×TZ):O:=.nd .tp [.lf true<|.str p.1,xW p.2]
abbrev Ac:EF:=fP y8 lstP
theorem Kt:∀T:TZ,xv zH zK Ac [none] ((T.map zc).map λd=>(true,d))=some (T.map yf)
 | []=>rfl
 |r::T=>VI (as1:=[sT<|zc r]) rfl (Jg<|za rfl) (yX r).2.1<|Kt T
def On{f:EF}{as:AS}{T:TZ}(hl:T.length<=1000)(h:WE f as (zm T)):zt (yA f) [none] zH zK Ac as=some (.ow<|xW T,as):=
 YT (Pv h) (by rw[zzB,zzB];exact Gk<|by trivial) (Kt T)
def Q0(p:Str×TZ):(yB p).str=true/\(yB p).toD=zO p:=by
 constructor
 . show(true&&(O.strs (p.2.map yf)&&true))=true;rw[(Wa p.2).1];rfl
 . show D.tup [.str p.1,.lst<|O.toDs<|p.2.map yf]=_;rw[(Wa p.2).2]
theorem Ws:∀Ds:DZ,O.strs (Ds.map yB)=true/\O.toDs (Ds.map yB)=Ds.map zO
 | []=>⟨rfl,rfl⟩
 |p::Ds=>⟨by show((yB p).str&&O.strs (Ds.map yB))=true;rw[(Q0 p).1,(Ws Ds).1];rfl,by
  show(yB p).toD::O.toDs (Ds.map yB)=_;rw[(Q0 p).2,(Ws Ds).2];rfl⟩
abbrev uC:EF:=zX<|dC zf<|dC (zt (yA zh) [none] zH zK Ac) dN
def SY{p:Str×TZ}(hl:p.2.length<=1000):uC [sT<|.str p.1,sT<|zm p.2]=some (.ow<|yB p,[sT<|.str p.1,sT<|zm p.2]):=
 Te (os:=[.lf true<|.str p.1,xW p.2]) (ze (za (i:=0) rfl)<|v7 (On hl<|WD.e<|za (i:=1) rfl) zG) (wd rfl)
theorem PQ:∀Ds:DZ,(∀p ∈ Ds,p.2.length<=1000)->xv (gT 2<|yC zH<|yC (gN 1) vI) zK uC [none,none] ((Ds.map zO).map λd=>(true,d))=some (Ds.map yB)
 | [],_=>rfl
 |p::Ds,h=>VI (as1:=[sT<|.str p.1,sT<|zm p.2]) rfl (SY<|h p<|zzF ..) (Q0 p).1<|PQ Ds λq m=>h q<|zzD _ m
def YH{as:AS}{i:Nat}{xs:List Int}{k x:Int}{s:Bool}(h:as[i]? = some (some<|.lf s<|zc xs))(hk:0<=k)(hx:xs[k.toNat]? = some x):Nl i (xC k) as=some x:=by
 have e:(xs.map D.int)[k.toNat]? = some (.int x):=by rw[zzI,hx];rfl
 unfold Nl xC;show(if 0<=k then _ else none:Option Int)=_;rw[if_pos hk,QB (f:=Rx) h rfl];show((xs.map D.int)[k.toNat]?).bind Nh=_;rw[e];rfl
def QP{as:AS}{i:Nat}{k:Int}{s:Bool}(h:as[i]? = some (some<|.lf s<|.int k)):xV i as=some k:=by
 unfold xV;rw[QB (f:=Rx) h rfl];rfl
def OH{as:AS}{i:Nat}{os:List O}(h:as[i]? = some (sN os)):SA i as=some (os.length:Int):=by
 unfold SA;rw[QB (f:=vF) h rfl];rfl
def Zy{as:AS}{f g:RS}{a b:Int}(h1:f as=some a)(h2:g as=some b)(hb:0<b):XM f g as=some (a%b):=by
 unfold XM;simp only[h1,h2,zyL,if_pos hb]
def HD{r:List Int}{k:Int}(h:k.toNat<r.length):(r.map yt)[k.toNat]? = sT (.int r[k.toNat]):=by
 rw[zzI,zzE h];rfl
def Bs{as:AS}{i:Nat}{f1 f2 fv:RS}{k1 k2 c:Int}{T:TZ}{r:List Int}(h1:f1 as=some k1)(h2:f2 as=some k2)(hv:fv as=some c)(p1:0<=k1)(p2:0<=k2)(hi:as[i]? = some (some<|xW T))(hr:T[k1.toNat]? = some r)(hk:k2.toNat<r.length):
 ND i f1 f2 fv as=some (.nx<|as.set i<|some<|xW<|T.set k1.toNat<|r.set k2.toNat c):=by
 have e1:(T.map yf)[k1.toNat]? = sN (r.map yt):=by rw[zzI,hr];rfl
 have e2:=HD hk;have e3:(T.map yf).set k1.toNat (.nd .ls<|(r.map yt).set k2.toNat<|.lf true<|.int c)=(T.set k1.toNat<|r.set k2.toNat c).map yf:=by
  rw[List.map_set];show _=(T.map yf).set k1.toNat (.nd .ls<|(r.set k2.toNat c).map yt);rw[List.map_set]
 unfold ND;simp only[h1,h2,hv,zyL,if_pos (show 0<=k1/\0<=k2 from⟨p1,p2⟩),(QB hi rfl:Rn vF as i=some (T.map yf)),(Wn e1 rfl:YR vF _ _=some (r.map yt)),(Wn e2 rfl:YR Rx _ _=some (.int r[k2.toNat])),e3]
def HL{as:AS}{y i:Nat}{f1 f2 f3 fv:RS}{k1 k2 k3 c:Int}{Ds:DZ}{p:Str×TZ}{r:List Int}(h1:f1 as=some k1)(h2:f2 as=some k2)(h3:f3 as=some k3)(hv:fv as=some c)(p1:0<=k1)(p2:0<=k2)(p3:0<=k3)(hy:Ag as y=true)(hi:as[i]? = some (sN<|Ds.map yB))(hp:Ds[k1.toNat]? = some p)(hr:p.2[k2.toNat]? = some r)(hk:k3.toNat<r.length):
 SQ y i f1 1 f2 f3 fv as=some (.nx<|as.set i<|sN<|(Ds.set k1.toNat (p.1,p.2.set k2.toNat<|r.set k3.toNat c)).map yB):=by
 have e1:(Ds.map yB)[k1.toNat]? = some (.nd .tp [.lf true<|.str p.1,.nd .ls<|p.2.map yf]):=by rw[zzI,hp];rfl
 have e2:([.lf true<|.str p.1,.nd .ls<|p.2.map yf]:List O)[1]? = sN (p.2.map yf):=rfl;have e3:(p.2.map yf)[k2.toNat]? = sN (r.map yt):=by rw[zzI,hr];rfl
 have e4:=HD hk;have e6:(p.2.map yf).set k2.toNat (.nd .ls<|(r.map yt).set k3.toNat<|.lf true<|.int c)=(p.2.set k2.toNat<|r.set k3.toNat c).map yf:=by
  rw[List.map_set];show _=(p.2.map yf).set k2.toNat (.nd .ls<|(r.set k3.toNat c).map yt);rw[List.map_set]
 have e5:(Ds.map yB).set k1.toNat (.nd .tp<|[.lf true<|.str p.1,.nd .ls<|p.2.map yf].set 1<|.nd .ls<|(p.2.set k2.toNat<|r.set k3.toNat c).map yf)=(Ds.set k1.toNat (p.1,p.2.set k2.toNat<|r.set k3.toNat c)).map yB:=by
  symm;rw[List.map_set];rfl
 unfold SQ;simp only[h1,h2,h3,hv,zyL,if_pos (show 0<=k1/\0<=k2/\0<=k3/\Ag as y=true from⟨p1,p2,p3,hy⟩),(QB hi rfl:Rn vF as i=some (Ds.map yB)),(Wn e1 rfl:YR Yk _ _=some [.lf true<|.str p.1,.nd .ls<|p.2.map yf]),(Wn e2 rfl:YR vF _ _=some (p.2.map yf)),(Wn e3 rfl:YR vF _ _=some (r.map yt)),(Wn e4 rfl:YR Rx _ _=some (.int r[k3.toNat])),e6,e5]
def rJ{as:AS}{i:Nat}{os:List O}{b:EF}(h:as[i]? = some (sN os))(hb:b as=some (.ow<|.nd .ls [],as)):WD (f2 (fV i) b<|zB .NotEq) as true (.bl<|!os.isEmpty):=by
 have hc:zB .NotEq (O.nd .ls os).toD (.lst [])=some (.im<|.bl<|!os.isEmpty):=by
  cases os with
  |nil=>rfl
  |cons o r=>rfl
 have hv:RV.view as (RV.ow<|O.nd .ls []).frz=some (.lst [],some true):=rfl;have hi:RV.view as (RV.bo i).frz=some ((O.nd .ls os).toD,(O.nd .ls os).kl):=Yy h;have hw:wrap (meet (O.nd .ls os).kl<|some true) (.im<|.bl<|!os.isEmpty)=some (.ow<|.lf true<|.bl<|!os.isEmpty):=by
  simp[wrap,zR,Nc]
 unfold WD f2;rw[W_ h];simp only[zyL,hb,hi,hv,hc,hw]
def oJ{as:AS}{i:Nat}{os:List O}(h:as[i]? = some (sN os)):WD (f2 (fV i) (yK dN)<|zB .NotEq) as true (.bl<|!os.isEmpty):=rJ h<|xp zG<|wd rfl
def FQ{n i:Nat}{r:List Int}{c:Int}(hr:Row n r)(hc:zL n c):Row n (r.set i c):=by
 refine⟨by rw[zzU];exact hr.1,λx m=>?_⟩
 rcases List.mem_or_eq_of_mem_set m with m|rfl
 . exact hr.2 x m
 . exact hc
def FI{k n i:Nat}{T:TZ}{r:List Int}(hT:Tab k n T)(hr:Row n r):Tab k n (T.set i r):=by
 refine⟨by rw[zzU];exact hT.1,λx m=>?_⟩
 rcases List.mem_or_eq_of_mem_set m with m|rfl
 . exact hT.2 x m
 . exact hr
theorem set_same{α:Type}:∀{l:List α}{i:Nat}{a:α},l[i]? = some a->l.set i a=l
 | [],_,_,h=>by simp at h
 |x::l,0,a,h=>by
  simp at h;rw[h];rfl
 |x::l,i+1,a,h=>congrArg (x :: ·) (set_same (l:=l) (i:=i)<|by simpa using h)
abbrev BY(n m:Nat)(a0 a1 a4 a6 a7:Option O)(xs:List Int)(w:Int)(e:Int)(J:TZ)(Ds:DZ):AS:=
 [a0,a1,sI n,sI m,a4,sI e,a6,a7,sT<|zc xs,some<|xW J,sN<|Ds.map yB,sI w,none]
section
variable{n m:Nat}{a0 a1 a4 a6 a7:Option O}{xs:List Int}{w e:Int}{J:TZ}{Ds:DZ}
def Yt(hl:xs.length=8)(k:Nat)(hk:k<8):∃x,xs[k]? = some x/\zg (zc xs) (.int (k:Int))=some (.im<|.int x):=by
 have g:=zzE (l:=xs) (i:=k) (by trivial);exact⟨_,g,QZ g⟩
def uS(hl:xs.length=8)(n1:1<=n)(he:zL n e):∃e',zL n e'/\wG (fT<|f2 yW zN<|zB .Eq) (zy true 5<|f2 (f2 (fV 8) zF zg) zo zx) vE (BY n m a0 a1 a4 a6 a7 xs w e J Ds)=some (.nx<|BY n m a0 a1 a4 a6 a7 xs w e' J Ds):=by
 obtain⟨x,_,hx⟩:=Yt hl 1 (by trivial)
 by_cases h:w=0
 . exact⟨x%n,wV n1,wa (zE (yq (za (i:=11) rfl) zb rfl) (by show some (w==0)=_;simp[h]))<|yz (i:=5) (yj (zq (za (i:=8) rfl) zb hx rfl) (za (i:=2) rfl)<|by trivial)<|zk rfl⟩
 . exact⟨e,he,zZ (zE (yq (za (i:=11) rfl) zb rfl) (by show some (w==0)=_;simp[h])) rfl⟩
def uf(hl:xs.length=8)(n1:1<=n)(hJ:Tab n n J):∃J',Tab n n J'/\wG (YZ (fT<|f2 yW zF<|zB .Eq)<|fT<|f2 yW yh<|zB .Eq) (ND 9 (XM (Nl 8<|xC 2)<|xV 2) (XM (Nl 8<|xC 3)<|xV 2)<|XM (Nl 8<|xC 4)<|xV 2) vE (BY n m a0 a1 a4 a6 a7 xs w e J Ds)=some (.nx<|BY n m a0 a1 a4 a6 a7 xs w e J' Ds):=by
 obtain⟨x2,g2,_⟩:=Yt hl 2 (by trivial);obtain⟨x3,g3,_⟩:=Yt hl 3 (by trivial);obtain⟨x4,g4,_⟩:=Yt hl 4 (by trivial);have t1:WT (fT<|f2 yW zF<|zB .Eq) (BY n m a0 a1 a4 a6 a7 xs w e J Ds) (w==1):=zE (yq (za (i:=11) rfl) zb rfl) rfl;have t2:WT (fT<|f2 yW yh<|zB .Eq) (BY n m a0 a1 a4 a6 a7 xs w e J Ds) (w==2):=zE (yq (za (i:=11) rfl) zb rfl) rfl;have t:WT (YZ (fT<|f2 yW zF<|zB .Eq)<|fT<|f2 yW yh<|zB .Eq) (BY n m a0 a1 a4 a6 a7 xs w e J Ds) (w==1||w==2):=Qt t1 (λh=>by rw[h,Bool.false_or];exact t2) (λh=>by rw[h];rfl);cases hw:(w==1||w==2)with
 |false=>rw[hw]at t;exact⟨J,hJ,zZ t rfl⟩
 |true=>
  rw[hw]at t;have m2:=wV (x:=x2) n1;have m3:=wV (x:=x3) n1;have m4:=wV (x:=x4) n1;have hk:(x2%(n:Int)).toNat<J.length:=by rw[hJ.1];trivial
  have hr:=zzE hk;have hR:=hJ.2 _<|zxA hk;generalize J[(x2%(n:Int)).toNat]=r at hr hR;have hn:(0:Int)<n:=by trivial
  exact⟨_,FI hJ<|FQ hR m4,wa t<|Bs (Zy (YH (i:=8) rfl (by decide) g2) (QP (i:=2) rfl) hn) (Zy (YH (i:=8) rfl (by decide) g3) (QP (i:=2) rfl) hn) (Zy (YH (i:=8) rfl (by decide) g4) (QP (i:=2) rfl) hn) m2.1 m3.1 rfl hr<|by rw[hR.1];trivial⟩
def t7(hl:xs.length=8)(n1:1<=n)(m1:1<=m)(hD:∀p ∈ Ds,Tab m n p.2):∃Ds',Ds'.map (·.1)=Ds.map (·.1)/\(∀p ∈ Ds',Tab m n p.2)/\wG (WI (fT<|f2 yW yh<|zB .Gt)<|fT<|f2 (fV 10) (yK dN)<|zB .NotEq) (SQ 12 10 (XM (Nl 8<|xC 5)<|SA 10) 1 (XM (Nl 8<|xC 6)<|xV 3) (XM (Nl 8<|xC 7)<|xV 2)<|XM (Nl 8<|xC 4)<|xV 2) vE (BY n m a0 a1 a4 a6 a7 xs w e J Ds)=some (.nx<|BY n m a0 a1 a4 a6 a7 xs w e J Ds'):=by
 obtain⟨x4,g4,_⟩:=Yt hl 4 (by trivial);obtain⟨x5,g5,_⟩:=Yt hl 5 (by trivial);obtain⟨x6,g6,_⟩:=Yt hl 6 (by trivial);obtain⟨x7,g7,_⟩:=Yt hl 7 (by trivial);have t1:WT (fT<|f2 yW yh<|zB .Gt) (BY n m a0 a1 a4 a6 a7 xs w e J Ds) (decide (2<w)):=zE (VQ (za (i:=11) rfl) zb) rfl;have t2:WT (fT<|f2 (fV 10) (yK dN)<|zB .NotEq) (BY n m a0 a1 a4 a6 a7 xs w e J Ds) (!(Ds.map yB).isEmpty):=zE (oJ (i:=10) rfl) rfl;have t:WT (WI (fT<|f2 yW yh<|zB .Gt)<|fT<|f2 (fV 10) (yK dN)<|zB .NotEq) (BY n m a0 a1 a4 a6 a7 xs w e J Ds) (decide (2<w) && !(Ds.map yB).isEmpty):=Yp t1 (λh=>by rw[h,Bool.true_and];exact t2) (λh=>by rw[h];rfl);cases hw:(decide (2<w) && !(Ds.map yB).isEmpty)with
 |false=>rw[hw]at t;exact⟨Ds,rfl,hD,zZ t rfl⟩
 |true=>
  rw[hw]at t;have hne:0<Ds.length:=by
   cases Ds with
   |nil=>simp at hw
   |cons p r=>exact Nat.zero_lt_succ _
  have hlen:((Ds.map yB).length:Int)=Ds.length:=by rw[zzB]
  have m4:=wV (x:=x4) n1;have m5:=wV (x:=x5) hne;have m6:=wV (x:=x6) m1;have m7:=wV (x:=x7) n1;have hk:(x5%(Ds.length:Int)).toNat<Ds.length:=by trivial
  have hp:=zzE hk;have hP:=hD _<|zxA hk;generalize Ds[(x5%(Ds.length:Int)).toNat]=p at hp hP;have hk2:(x6%(m:Int)).toNat<p.2.length:=by rw[hP.1];trivial
  have hr:=zzE hk2;have hR:=hP.2 _<|zxA hk2;generalize p.2[(x6%(m:Int)).toNat]=r at hr hR;have hn:(0:Int)<n:=by trivial
  have hm:(0:Int)<m:=by trivial
  refine⟨Ds.set (x5%(Ds.length:Int)).toNat (p.1,p.2.set (x6%(m:Int)).toNat<|r.set (x7%(n:Int)).toNat<|x4%n), ?_,λq mq=>?_,wa t<|HL (Zy (YH (i:=8) rfl (by decide) g5) (by rw[<-hlen];exact OH (i:=10) rfl)<|by trivial) (Zy (YH (i:=8) rfl (by decide) g6) (QP (i:=3) rfl) hm) (Zy (YH (i:=8) rfl (by decide) g7) (QP (i:=2) rfl) hn) (Zy (YH (i:=8) rfl (by decide) g4) (QP (i:=2) rfl) hn) m5.1 m6.1 m7.1 rfl rfl hp hr<|by rw[hR.1];trivial⟩
  . rw[List.map_set];exact set_same (by rw[zzI,hp];rfl)
  . rcases List.mem_or_eq_of_mem_set mq with mq|rfl
    . exact hD q mq
    . exact FI hP<|FQ hR m4
end
def Im(T:TZ):(xW T).frz = .lf true (zm T):=by
 show O.lf (O.strs _) (.lst<|O.toDs _)=_;rw[(Wa T).1,(Wa T).2]
def Bv(Ds:DZ):(O.nd .ls<|Ds.map yB).frz = .lf true (.lst<|Ds.map zO):=by
 show O.lf (O.strs _) (.lst<|O.toDs _)=_;rw[(Ws Ds).1,(Ws Ds).2]
def O2{n m:Nat}{J:TZ}{e c:Int}{Ds:DZ}{S:SS}(A:Alg n m J e Ds):∃J' e' Ds',Alg n m J' e' Ds'/\RE (Vs [(true,zi n m J e Ds S),(true,.int c)]) (zi n m J' e' Ds' S):=by
 have n8:=A.n8;have m6:=A.m6;have dl:=A.dl;obtain⟨xs,xl,hx,ws⟩:=Jk (as:=[sT<|zi n m J e Ds S,sI c,sI n,sI m,sT<|zm J,sI e,sT<|.lst<|Ds.map zO,sT<|.lst<|S.map ye,none,none,none,none,none]) (a:=fV 1) (b:=fC<|.int 8) (c:=c) (m:=8) (by trivial) (WD.e<|za rfl)<|WD.e zb;obtain⟨x0,_,a0⟩:=Yt xl 0 (by trivial);obtain⟨e',he,s1⟩:=uS (m:=m) (a0:=sT<|zi n m J e Ds S) (a1:=sI c) (a4:=sT<|zm J) (a6:=sT<|.lst<|Ds.map zO) (a7:=sT<|.lst<|S.map ye) (w:=x0%6) (J:=J) (Ds:=Ds) xl A.n1 ⟨A.e0,A.en⟩;obtain⟨J',hJ,s2⟩:=uf (m:=m) (a0:=sT<|zi n m J e Ds S) (a1:=sI c) (a4:=sT<|zm J) (a6:=sT<|.lst<|Ds.map zO) (a7:=sT<|.lst<|S.map ye) (w:=x0%6) (e:=e') (Ds:=Ds) xl A.n1 A.j;obtain⟨Ds',hn,hD,s3⟩:=t7 (a0:=sT<|zi n m J e Ds S) (a1:=sI c) (a4:=sT<|zm J) (a6:=sT<|.lst<|Ds.map zO) (a7:=sT<|.lst<|S.map ye) (w:=x0%6) (e:=e') (J:=J') xl A.n1 A.m1 A.ds;have hlen:Ds'.length=Ds.length:=by rw[<-zzB (f:=λp:Str×TZ=>p.1),hn,zzB]
 refine⟨J',e',Ds',⟨A.n1,n8,A.m1,m6,hJ,he.1,he.2,by trivial,hD,by rw[hn];exact A.nd⟩, ?_⟩;have c9:=yr (i:=9) (On (T:=J) (f:=fV 4) (as:=[sT<|zi n m J e Ds S,sI c,sI n,sI m,sT<|zm J,sI e,sT<|.lst<|Ds.map zO,sT<|.lst<|S.map ye,sT<|zc xs,none,none,none,none]) (by rw[A.j.1];trivial)<|WD.e<|za rfl)<|zk rfl;have c10:=yr (i:=10) (YT (cap:=[none,none]) (Pv (f:=fV 6) (as:=[sT<|zi n m J e Ds S,sI c,sI n,sI m,sT<|zm J,sI e,sT<|.lst<|Ds.map zO,sT<|.lst<|S.map ye,sT<|zc xs,some<|xW J,none,none,none])<|WD.e<|za rfl) (by rw[zzB,zzB];exact Gk<|by trivial)<|PQ Ds λp mp=>by rw[(A.ds p mp).1];trivial)<|zk rfl;refine yx rfl<|zd (as1:=[sT<|zi n m J e Ds S,sI c,sI n,sI m,sT<|zm J,sI e,sT<|.lst<|Ds.map zO,sT<|.lst<|S.map ye,none,none,none,none,none]) (NM (WD.e<|za rfl) rfl)<|zd (xx (p:=8) ws<|zk rfl)<|zd c9<|zd c10<|zd (yz (i:=11) (yj (zq (za rfl) zb a0 rfl) zb<|by decide)<|zk rfl)<|zd s1<|zd s2<|zd s3 ?_;have q:=zP (as:=BY n m (sT<|zi n m J e Ds S) (sI c) (sT<|zm J) (sT<|.lst<|Ds.map zO) (sT<|.lst<|S.map ye) xs (x0%6) e' J' Ds') (a:=fV 2) (za rfl)<|zP (a:=fV 3) (za rfl)<|Xz (j:=9) (fr:=dC yY<|dC (fV 10)<|dC xD dN) rfl<|zP (a:=fV 5) (za rfl)<|Xz (j:=10) (fr:=dC xD dN) rfl<|zP (a:=fV 7) (za rfl) rfl;rw[Im,Bv]at q;exact⟨_,YK (RU q<|wd rfl) rfl,rfl,rfl⟩
def ZA{n:Nat}{J:TZ}{w v:Int}(hJ:Tab n n J)(hw:zL n w)(hv:zL n v):zL n (yw J w v):=(rowAt (xF hJ hw).2 hv).2
def wD{a b c:EF}{as:AS}{n:Nat}{J:TZ}{w v:Int}(hJ:Tab n n J)(hw:zL n w)(hv:zL n v)(ha:WD a as true (zm J))(hb:WD b as true (.int w))(hc:WD c as true (.int v)):WD (f2 (f2 a b zg) c zg) as true (.int<|yw J w v):=
 zq (zW ha hb (xF hJ hw).1) hc (rowAt (xF hJ hw).2 hv).1 rfl
def XQ{a b c:EF}{as:AS}{m n:Nat}{T:TZ}{w v:Int}(hT:Tab m n T)(hw:zL m w)(hv:zL n v)(ha:WD a as true (zm T))(hb:WD b as true (.int w))(hc:WD c as true (.int v)):WD (f2 (f2 a b zg) c zg) as true (.int<|yw T w v)/\zL n (yw T w v):=
 ⟨zq (zW ha hb (xF hT hw).1) hc (rowAt (xF hT hw).2 hv).1 rfl,(rowAt (xF hT hw).2 hv).2⟩
def Zn{v n:Nat}{g:GF}{f:SF}{as:AS}{s:Bool}(h:as[v]? = some (some<|.lf s<|.int n))(hn:n<=1000):yS (z_ (aC (fV v) aN) ya) g f as=forL g f (xb 0 n) as:=
 yQ (yR (zj (za h) zw) (by trivial)<|by trivial) (by rw[zyI])
def MR{a b:EF}{as:AS}{x y:Int}{s t:Bool}(ha:WD a as s (.int x))(hb:WD b as t (.int y)):WT (fT<|f2 a b<|zB .NotEq) as (!(x==y)):=zE (uu (c:=x==y) ha hb rfl) rfl
abbrev FT:=Option<|List D
def oD:FT->D
 |none=>.non
 |some ds=>.tup ds
def fs(n:Nat)(t:Int->FT):FT:=(List.range n).findSome? λi:Nat=>t (i:Int)
abbrev R4(r:Option Out)(I:AS->Prop)(t:FT):Prop:=(t=none/\∃as',r=some (.nx as')/\I as')\/∃ds,t=some ds/\Rt r (.tup ds)
def C4{g:GF}{f:SF}{d:Z_}{r:List Z_}{as as1:AS}{x:D}(h1:g d as=some as1)(h2:Rt (f as1) x):Rt (forL g f (d::r) as) x:=by
 obtain⟨o,e1,e2⟩:=h2;exact⟨o,NX h1 e1,e2⟩
theorem qT{α:Type}{g:GF}{f:SF}{it:α->Z_}(I:AS->Prop)(t:α->FT):∀(l:List α),(∀x ∈ l,∀as,I as->∃as1,g (it x) as=some as1/\R4 (f as1) I (t x))->∀as,I as->R4 (forL g f (l.map it) as) I (l.findSome? t)
 | [],_,as,h=>.inl ⟨rfl,as,rfl,h⟩
 |x::l,H,as,h=>by
  obtain⟨as1,h1,h2⟩:=H x zzF as h
  rcases h2 with⟨e,as2,h2,h3⟩|⟨ds,e,h2⟩
  . have k:=qT I t l (λy my=>H y<|zzD _ my) as2 h3;rw[List.findSome?_cons,e]
    rcases k with⟨e',as3,k1,k2⟩|⟨ds,e',o,k1,k2⟩
    . exact .inl ⟨e',as3,wK h1 h2 k1,k2⟩
    . exact .inr ⟨ds,e',o,wK h1 h2 k1,k2⟩
  . rw[List.findSome?_cons,e];exact .inr ⟨ds,rfl,C4 h1 h2⟩
def WN{v n:Nat}{f:SF}(I:AS->Prop)(t:Int->FT)(H:∀b,zL n b->∀as,I as->∃as1,gN v (true,.int b) as=some as1/\R4 (f as1) I (t b)){as:AS}(h:I as):R4 (forL (gN v) f (xb 0 n) as) I (fs n t):=by
 refine qT (it:=λi:Nat=>(true,D.int<|0+(i:Int))) I (λi:Nat=>t (i:Int)) (List.range n) (λi mi as hI=>?_) as h;have:=List.mem_range.mp mi;rw[Int.zero_add];exact H i ⟨by omega,by omega⟩ as hI
def HG{c:TF}{f:EF}{as:AS}{q:Bool}{ds:List D}{I:AS->Prop}(ht:WT c as q)(hf:WE f as (.tup ds))(hI:I as):R4 (wG c (yi f) vE as) I (if q=true then some ds else none):=by
 cases q with
 |true=>exact .inr ⟨ds,rfl,wC ht<|yy hf⟩
 |false=>exact .inl ⟨rfl,as,zZ ht rfl,hI⟩
def R4.seq{f g:SF}{as as1:AS}{I:AS->Prop}{t:FT}(h:f as=some (.nx as1))(k:R4 (g as1) I t):R4 (zp f g as) I t:=by
 rcases k with⟨e,a,b,c⟩|⟨ds,e,b⟩
 . exact .inl ⟨e,a,zV h b,c⟩
 . exact .inr ⟨ds,e,zd h b⟩
theorem R4.imp{r:Option Out}{I I':AS->Prop}{t:FT}(h:R4 r I t)(k:∀as,I as->I' as):R4 r I' t:=Or.imp (λ⟨e,a,b,c⟩=>⟨e,a,b,k a c⟩) id h
def R4.rt{f g:SF}{as:AS}{I:AS->Prop}{t t':FT}(h:R4 (f as) I t)(k:∀as',I as'->Rt (g as') (oD t')):Rt (zp f g as) (oD<|t.or t'):=by
 rcases h with⟨rfl,as',h1,h2⟩|⟨ds,rfl,h1⟩
 . exact zd h1<|k as' h2
 . exact xG h1
def or_none{t:FT}:t.or none=t:=by cases t<;>rfl
def Nt{n:Nat}{t t':Int->FT}(h:∀b,zL n b->t b=t' b):fs n t=fs n t':=by
 unfold fs;have:∀l:List Nat,(∀i ∈ l,i<n)->l.findSome? (λi:Nat=>t (i:Int))=l.findSome? λi:Nat=>t' (i:Int):=λl=>by
  induction l with
  |nil=>exact λ_=>rfl
  |cons i l ih=>
   intro hl;have:=hl i zzF;rw[List.findSome?_cons,List.findSome?_cons,h i ⟨by omega,by omega⟩,ih λj mj=>hl j<|zzD _ mj]
 exact this _ λi mi=>List.mem_range.mp mi
theorem M7{m:Nat}(m1:1<=m)(t:Int->Int->FT):∀n:Nat,fs (n*m) (λp=>t (p/m)<|p%m)=fs n λa=>fs m λi=>t a i
 |0=>by rw[Nat.zero_mul];unfold fs;rfl
 |n+1=>by
  have ih:=M7 m1 t n;unfold fs at ih ⊢;rw[Nat.succ_mul,List.range_add,List.findSome?_append,ih,List.range_succ,List.findSome?_append]
  congr 1
  rw[List.findSome?_map];have e:∀l:List Nat,(∀j ∈ l,j<m)->l.findSome? ((λp:Nat=>t ((p:Int)/m)<|(p:Int)%m)∘λx=>n*m+x)=l.findSome? λi:Nat=>t (n:Int) (i:Int):=λl=>by
   induction l with
   |nil=>exact λ_=>rfl
   |cons j l ih=>
    intro hl;have hj:=hl j zzF;have e1:(((n*m+j:Nat):Int))/m=n:=by
     rw[<-Int.natCast_ediv,Nat.mul_comm,Nat.mul_add_div (by omega),Nat.div_eq_of_lt hj,Nat.add_zero]
    have e2:(((n*m+j:Nat):Int))%m=j:=by
     rw[<-Int.natCast_emod,Nat.mul_comm,Nat.mul_add_mod,Nat.mod_eq_of_lt hj]
    rw[List.findSome?_cons,List.findSome?_cons,ih λi mi=>hl i<|zzD _ mi];have e3:((λp:Nat=>t ((p:Int)/m)<|(p:Int)%m)∘λx=>n*m+x) j=t (n:Int) (j:Int):=by
     show t (((n*m+j:Nat):Int)/m) (((n*m+j:Nat):Int)%m)=_;rw[e1,e2]
    rw[e3]
  rw[e _ λj mj=>List.mem_range.mp mj];simp only[List.findSome?_cons,List.findSome?_nil];cases(List.range m).findSome? λi:Nat=>t (n:Int) (i:Int)<;>rfl
section
variable{S:Option O->Option O->Option O->AS}{vj vn ve:Nat}{J T:TZ}{n m:Nat}{e:Int}{Ds:DZ}{SS':SS}
def tU(n:Nat)(J:TZ)(e:Int):FT:=fs n λa=>if(!(yw J e a==a) || !(yw J a e==a))=true then some [.str "nothing",.int a]else none
def tA(n:Nat)(J:TZ):FT:=fs n λa=>fs n λb=>fs n λc=>if(!(yw J (yw J a b) c==yw J a (yw J b c)))=true then some [.str "parting",.int a,.int b,.int c]else none
def tD(n m:Nat)(J T:TZ)(s:Str):FT:=fs n λa=>fs m λi=>fs n λb=>fs m λk=>if(!(yw T ((i+k)%m) (yw J a b)==yw J (yw T i a) (yw T k b)))=true then some [.str "doing",.str s,.int a,.int i,.int b,.int k]else none
def SH{x y z:Option O}(hJ:Tab n n J)(he:zL n e)(hj:∀x y z,(S x y z)[vj]? = some (sT<|zm J))(hv:∀x y z,(S x y z)[ve]? = some (sI e))(h3:∀x y z,(S x y z)[3]? = some x)(g3:∀d x y z,gN 3 (true,d) (S x y z)=some (S (sT d) y z)):
 R4 (forL (gN 3) (wG (YZ (fT<|f2 (f2 (f2 (fV vj) (fV ve) zg) zA zg) zA<|zB .NotEq)<|fT<|f2 (f2 (f2 (fV vj) zA zg) (fV ve) zg) zA<|zB .NotEq) (yi<|zX<|dC (fC<|.str "nothing")<|dC zA dN) vE) (xb 0 n)<|S x y z) (λas=>∃x,as=S x y z) (tU n J e):=by
 refine WN (λas=>∃x,as=S x y z) _ (λa ha as hI=>?_) ⟨x,rfl⟩;obtain⟨x,rfl⟩:=hI;have w3:WD zA (S (sI a) y z) true (.int a):=za<|h3 _ _ _;have t1:=MR (wD hJ he ha (za<|hj (sI a) y z) (za<|hv (sI a) y z) w3) w3;have t2:=MR (wD hJ ha he (za<|hj (sI a) y z) w3<|za<|hv (sI a) y z) w3;exact⟨S (sI a) y z,g3 _ _ _ _,HG (q:=!(yw J e a==a) || !(yw J a e==a)) (Qt t1 (λh=>by rw[h,Bool.false_or];exact t2) λh=>by rw[h];rfl) (Q4 (os:=[.lf true<|.str "nothing",yt a]) (ze zb<|ze w3 zG) (wd rfl) rfl rfl) ⟨_,rfl⟩⟩
abbrev qL(vj:Nat):SF:=wG (fT<|f2 (f2 (f2 (fV vj) (f2 (f2 (fV vj) zA zg) yc zg) zg) yY zg) (f2 (f2 (fV vj) zA zg) (f2 (f2 (fV vj) yc zg) yY zg) zg)<|zB .NotEq) (yi<|zX<|dC (fC<|.str "parting")<|dC zA<|dC yc<|dC yY dN) vE
abbrev AU(vj vn:Nat):SF:=yS (z_ (aC (fV vn) aN) ya) Zs<|yS (z_ (aC (fV vn) aN) ya) (gN 5)<|qL vj
def PJ{x y z:Option O}(n8:n<=8)(hJ:Tab n n J)(hj:∀x y z,(S x y z)[vj]? = some (sT<|zm J))(hn:∀x y z,(S x y z)[vn]? = some (sI n))(h3:∀x y z,(S x y z)[3]? = some x)(h4:∀x y z,(S x y z)[4]? = some y)(h5:∀x y z,(S x y z)[5]? = some z)
 (g3:∀d x y z,gN 3 (true,d) (S x y z)=some (S (sT d) y z)) (g4:∀d x y z,gN 4 (true,d) (S x y z)=some (S x (sT d) z)) (g5:∀d x y z,gN 5 (true,d) (S x y z)=some (S x y<|sT d)):
 R4 (forL (gN 3) (AU vj vn) (xb 0 n)<|S x y z) (λas=>∃x y z,as=S x y z) (tA n J):=by
 refine WN (λas=>∃x y z,as=S x y z) _ (λa ha as hI=>?_) ⟨x,y,z,rfl⟩;obtain⟨x,y,z,rfl⟩:=hI;refine⟨_,g3 _ _ _ _, ?_⟩;unfold AU;rw[Zn (hn _ _ _)<|by trivial];refine(WN (v:=4) (n:=n) (λas=>∃y z,as=S (sI a) y z) _ (λb hb as hI=>?_) ⟨y,z,rfl⟩).imp λas ⟨y,z,e⟩=>⟨_,y,z,e⟩;obtain⟨y,z,rfl⟩:=hI;refine⟨_,g4 _ _ _ _, ?_⟩;rw[Zn (hn _ _ _)<|by trivial];refine(WN (v:=5) (n:=n) (λas=>∃z,as=S (sI a) (sI b) z) _ (λc hc as hI=>?_) ⟨z,rfl⟩).imp λas ⟨z,e⟩=>⟨_,z,e⟩;obtain⟨z,rfl⟩:=hI;have w3:WD zA (S (sI a) (sI b)<|sI c) true (.int a):=za<|h3 _ _ _;have w4:WD yc (S (sI a) (sI b)<|sI c) true (.int b):=za<|h4 _ _ _;have w5:WD yY (S (sI a) (sI b)<|sI c) true (.int c):=za<|h5 _ _ _;have wj:WD (fV vj) (S (sI a) (sI b)<|sI c) true (zm J):=za<|hj _ _ _;have ab:=ZA hJ ha hb;have bc:=ZA hJ hb hc;exact⟨_,g5 _ _ _ _,HG (MR (wD hJ ab hc wj (wD hJ ha hb wj w3 w4) w5)<|wD hJ ha bc wj w3<|wD hJ hb hc wj w4 w5) (Q4 (os:=[.lf true<|.str "parting",yt a,yt b,yt c]) (ze zb<|ze w3<|ze w4<|ze w5 zG) (wd rfl) rfl rfl) ⟨_,rfl⟩⟩
end
section
variable{n m:Nat}{J T:TZ}{e:Int}{Ds:DZ}{S:SS}
def Pm(n8:n<=8)(hJ:Tab n n J)(he:zL n e):RE (Z5 [(true,.int n),(true,zm J),(true,.int e)]) (oD<|(tU n J e).or<|tA n J):=by
 have k1:=SH (S:=λx y z=>[sI n,sT<|zm J,sI e,x,y,z]) (x:=none) (y:=none) (z:=none) (vj:=1) (ve:=2) hJ he (λ_ _ _=>rfl) (λ_ _ _=>rfl) (λ_ _ _=>rfl) λ_ _ _ _=>rfl;rw[<-Zn (v:=0) (n:=n) (as:=[sI n,sT<|zm J,sI e,none,none,none]) rfl (by trivial)]at k1;refine yx rfl<|k1.rt λas' hI=>?_;obtain⟨x,rfl⟩:=hI;have k2:=PJ (S:=λx y z=>[sI n,sT<|zm J,sI e,x,y,z]) (x:=x) (y:=none) (z:=none) (vj:=1) (vn:=0) n8 hJ (λ_ _ _=>rfl) (λ_ _ _=>rfl) (λ_ _ _=>rfl) (λ_ _ _=>rfl) (λ_ _ _=>rfl) (λ_ _ _ _=>rfl) (λ_ _ _ _=>rfl) λ_ _ _ _=>rfl;rw[<-Zn (v:=0) (n:=n) (g:=gN 3) (f:=AU 1 0) (as:=[sI n,sT<|zm J,sI e,x,none,none]) rfl (by trivial)]at k2;rw[<-or_none (t:=tA n J)];exact k2.rt λ_ _=>yy<|WD.e zb
def EJ(n8:n<=8)(hJ:Tab n n J)(he:zL n e):RE (v8 [(true,zi n m J e Ds S)]) (oD<|tU n J e):=by
 have s1:zy true 1 (f2 zf yh zg) [sT<|zi n m J e Ds S,none,none,none]=some (.nx [sT<|zi n m J e Ds S,sT<|zm J,none,none]):=yz (i:=1) (zW (za (i:=0) rfl) zb rfl)<|zk rfl;have s2:zy true 2 (f2 zf xU zg) [sT<|zi n m J e Ds S,sT<|zm J,none,none]=some (.nx [sT<|zi n m J e Ds S,sT<|zm J,sI e,none]):=yz (i:=2) (zW (za (i:=0) rfl) zb rfl)<|zk rfl;have k:=SH (S:=λx _ _=>[sT<|zi n m J e Ds S,sT<|zm J,sI e,x]) (x:=none) (y:=none) (z:=none) (vj:=1) (ve:=2) hJ he (λ_ _ _=>rfl) (λ_ _ _=>rfl) (λ_ _ _=>rfl) λ_ _ _ _=>rfl;have hr:=yR (as:=[sT<|zi n m J e Ds S,sT<|zm J,sI e,none]) (zj (zW (a:=fV 0) (b:=fC<|.int 0) (g:=zg) (z:=.int n) (za (i:=0) rfl) (zb (x:=.int 0)) rfl) zw) (by trivial) (by trivial);rw[zyI]at hr;refine yx rfl<|zd s1<|zd s2 ?_;rw[<-or_none (t:=tU n J e)];refine R4.rt (I:=λas=>∃x,as=[sT<|zi n m J e Ds S,sT<|zm J,sI e,x]) ?_ λ_ _=>yy<|WD.e zb;rw[yQ hr rfl];exact k
def EM(n8:n<=8)(hJ:Tab n n J):RE (v5 [(true,zi n m J e Ds S)]) (oD<|tA n J):=by
 have s1:zy true 1 (f2 zf zN zg) [sT<|zi n m J e Ds S,none,none,none,none,none]=some (.nx [sT<|zi n m J e Ds S,sI n,none,none,none,none]):=yz (i:=1) (zW (za (i:=0) rfl) zb rfl)<|zk rfl;have s2:zy true 2 (f2 zf yh zg) [sT<|zi n m J e Ds S,sI n,none,none,none,none]=some (.nx [sT<|zi n m J e Ds S,sI n,sT<|zm J,none,none,none]):=yz (i:=2) (zW (za (i:=0) rfl) zb rfl)<|zk rfl;have k:=PJ (S:=λx y z=>[sT<|zi n m J e Ds S,sI n,sT<|zm J,x,y,z]) (x:=none) (y:=none) (z:=none) (vj:=2) (vn:=1) n8 hJ (λ_ _ _=>rfl) (λ_ _ _=>rfl) (λ_ _ _=>rfl) (λ_ _ _=>rfl) (λ_ _ _=>rfl) (λ_ _ _ _=>rfl) (λ_ _ _ _=>rfl) λ_ _ _ _=>rfl;rw[<-Zn (v:=1) (n:=n) (g:=gN 3) (f:=AU 2 1) (as:=[sT<|zi n m J e Ds S,sI n,sT<|zm J,none,none,none]) rfl (by trivial)]at k;refine yx rfl<|zd s1<|zd s2 ?_;rw[<-or_none (t:=tA n J)];exact k.rt λ_ _=>yy<|WD.e zb
end
section
variable{n m:Nat}{J T:TZ}{e:Int}{Ds:DZ}{S:SS}
abbrev pA:SF:=(wG (fT<|f2 (f2 (f2 zo (f2 (f2 xD (fV 9) zr) yc zx) zg) (f2 (f2 yY x9 zg) (fV 8) zg) zg) (f2 (f2 yY (f2 (f2 zo xD zg) x9 zg) zg) (f2 (f2 zo (fV 9) zg) (fV 8) zg) zg)<|zB .NotEq) (yi<|zX<|dC (fC<|.str "doing")<|dC zh<|dC x9<|dC xD<|dC (fV 8)<|dC (fV 9) dN) vE)
abbrev LZ(n m:Nat)(J T:TZ)(e:Int)(Ds:DZ)(S:SS)(s:Str)(x y z w:Option O):AS:=[sT<|zi n m J e Ds S,sT<|.str s,sT<|zm T,sI n,sI m,sT<|zm J,x,y,z,w]
def ou{s:Str}{a i b k:Int}(hJ:Tab n n J)(hT:Tab m n T)(m1:1<=m)(ha:zL n a)(hi:zL m i)(hb:zL n b)(hk:zL m k):R4 (pA<|LZ n m J T e Ds S s (sI a) (sI i) (sI b)<|sI k) (λas=>∃w,as=LZ n m J T e Ds S s (sI a) (sI i) (sI b) w) (if(!(yw T ((i+k)%m) (yw J a b)==yw J (yw T i a) (yw T k b)))=true then some [.str "doing",.str s,.int a,.int i,.int b,.int k]else none):=by
 have w2:WD zo (LZ n m J T e Ds S s (sI a) (sI i) (sI b)<|sI k) true (zm T):=za rfl;have w5:WD yY (LZ n m J T e Ds S s (sI a) (sI i) (sI b)<|sI k) true (zm J):=za rfl;have w6:WD x9 (LZ n m J T e Ds S s (sI a) (sI i) (sI b)<|sI k) true (.int a):=za rfl;have w7:WD xD (LZ n m J T e Ds S s (sI a) (sI i) (sI b)<|sI k) true (.int i):=za rfl;have w8:WD (fV 8) (LZ n m J T e Ds S s (sI a) (sI i) (sI b)<|sI k) true (.int b):=za rfl;have w9:WD (fV 9) (LZ n m J T e Ds S s (sI a) (sI i) (sI b)<|sI k) true (.int k):=za rfl;obtain⟨q1,q2⟩:=XQ hT hi ha w2 w7 w6;obtain⟨q3,q4⟩:=XQ hT hk hb w2 w9 w8;obtain⟨q5,q6⟩:=XQ hT (w:=(i+k)%m) (N9 m1) (ZA hJ ha hb) w2 (yj (yJ w7 w9) (za (i:=4) (x:=.int m) (s:=true) rfl)<|by trivial)<|wD hJ ha hb w5 w6 w8;exact HG (MR q5<|wD hJ q2 q4 w5 q1 q3) (Q4 (os:=[.lf true<|.str "doing",.lf true<|.str s,yt a,yt i,yt b,yt k]) (ze zb<|ze (za (i:=1) rfl)<|ze w6<|ze w7<|ze w8<|ze w9 zG) (wd rfl) rfl rfl) ⟨_,rfl⟩
def SV{s:Str}(n8:n<=8)(m1:1<=m)(m6:m<=6)(hJ:Tab n n J)(hT:Tab m n T):RE (vN [(true,zi n m J e Ds S),(true,.str s),(true,zm T)]) (oD<|tD n m J T s):=by
 have k:R4 (forL (gN 6) (yS (z_ (aC yc aN) ya) (gN 7)<|yS (z_ Yc ya) (gN 8)<|yS (z_ (aC yc aN) ya) (gN 9) pA) (xb 0 n)<|LZ n m J T e Ds S s none none none none) (λas=>∃x y z w,as=LZ n m J T e Ds S s x y z w) (tD n m J T s):=by
  refine WN (λas=>∃x y z w,as=LZ n m J T e Ds S s x y z w) _ (λa ha as hI=>?_) ⟨_,_,_,_,rfl⟩;obtain⟨x,y,z,w,rfl⟩:=hI;refine⟨LZ n m J T e Ds S s (sI a) y z w,rfl, ?_⟩;rw[Zn (v:=4) (n:=m) rfl<|by trivial];refine(WN (v:=7) (n:=m) (λas=>∃y z w,as=LZ n m J T e Ds S s (sI a) y z w) _ (λi hi as hI=>?_) ⟨_,_,_,rfl⟩).imp λas ⟨y,z,w,e⟩=>⟨_,y,z,w,e⟩;obtain⟨y,z,w,rfl⟩:=hI;refine⟨LZ n m J T e Ds S s (sI a) (sI i) z w,rfl, ?_⟩;rw[Zn (v:=3) (n:=n) rfl<|by trivial];refine(WN (v:=8) (n:=n) (λas=>∃z w,as=LZ n m J T e Ds S s (sI a) (sI i) z w) _ (λb hb as hI=>?_) ⟨_,_,rfl⟩).imp λas ⟨z,w,e⟩=>⟨_,z,w,e⟩;obtain⟨z,w,rfl⟩:=hI;refine⟨LZ n m J T e Ds S s (sI a) (sI i) (sI b) w,rfl, ?_⟩;rw[Zn (v:=4) (n:=m) rfl<|by trivial];refine(WN (v:=9) (n:=m) (λas=>∃w,as=LZ n m J T e Ds S s (sI a) (sI i) (sI b) w) _ (λk hk as hI=>?_) ⟨_,rfl⟩).imp λas ⟨w,e⟩=>⟨_,w,e⟩;obtain⟨w,rfl⟩:=hI;exact⟨_,rfl,ou hJ hT m1 ha hi hb hk⟩
 rw[<-Zn (v:=3) (n:=n) (as:=LZ n m J T e Ds S s none none none none) rfl (by trivial)]at k;have s3:zy true 3 (f2 zf zN zg) [sT<|zi n m J e Ds S,sT<|.str s,sT<|zm T,none,none,none,none,none,none,none]=some (.nx [sT<|zi n m J e Ds S,sT<|.str s,sT<|zm T,sI n,none,none,none,none,none,none]):=yz (i:=3) (zW (za (i:=0) rfl) zb rfl)<|zk rfl;have s4:zy true 4 (f2 zf zF zg) [sT<|zi n m J e Ds S,sT<|.str s,sT<|zm T,sI n,none,none,none,none,none,none]=some (.nx [sT<|zi n m J e Ds S,sT<|.str s,sT<|zm T,sI n,sI m,none,none,none,none,none]):=yz (i:=4) (zW (za (i:=0) rfl) zb rfl)<|zk rfl;have s5:zy true 5 (f2 zf yh zg) [sT<|zi n m J e Ds S,sT<|.str s,sT<|zm T,sI n,sI m,none,none,none,none,none]=some (.nx<|LZ n m J T e Ds S s none none none none):=yz (i:=5) (zW (za (i:=0) rfl) zb rfl)<|zk rfl;refine yx rfl<|zd s3<|zd s4<|zd s5 ?_;rw[<-or_none (t:=tD n m J T s)];exact k.rt λ_ _=>yy<|WD.e zb
abbrev EB(n m:Nat)(J T:TZ)(s:Str)(p q a i b k v:Option O):AS:=[sI n,sI m,sT<|zm J,sT<|.str s,sT<|zm T,p,q,a,i,b,k,v]
abbrev ldI:SF:=(zp (XY (fP (aC yY y6) EK)<|gT 2<|yC (gN 7)<|yC (gN 8) vI)
 (zp (XY (fP (aC x9 y6) EK)<|gT 2<|yC (gN 9)<|yC (gN 10) vI)
 (zp (zy true 11<|f2 (f2 zo (f2 (f2 yc (fV 8) zg) xD zg) zg) (f2 (f2 yc (fV 10) zg) (fV 9) zg) zg)
 (wG (fT<|f2 (f2 (f2 yc (f2 (f2 (fV 8) (fV 10) zr) zh zx) zg) (f2 (f2 zo xD zg) (fV 9) zg) zg) yW<|zB .NotEq) (yi<|zX<|dC (fC<|.str "doing")<|dC zA<|dC xD<|dC (fV 8)<|dC (fV 9)<|dC (fV 10) dN) vE))))
def uT{a b:EF}{as:AS}{x y:Int}(ha:WD a as true (.int x))(hb:WD b as true (.int y))(h0:0<y)(h1:y<1000):WD (fP (aC a<|aC b aN) EK) as true (.tup [.int<|x/y,.int<|x%y]):=
 NR (zj ha<|zj hb zw) (by show(if 0<y/\y<1073741824 then _ else _)=_;rw[if_pos ⟨h0,by trivial⟩]) rfl
def sx{s:Str}{p q:Int}{a i b k v:Option O}(hJ:Tab n n J)(hT:Tab m n T)(m1:1<=m)(m6:m<=6)(hp:zL (n*m) p)(hq:zL (n*m) q):R4 (ldI<|EB n m J T s (sI p) (sI q) a i b k v) (λas=>∃y a i b k v,as=EB n m J T s (sI p) y a i b k v) (if(!(yw T ((p%m+q%m)%m) (yw J (p/m)<|q/m)==yw J (yw T (p%m)<|p/m) (yw T (q%m)<|q/m)))=true then some [.str "doing",.str s,.int<|p/m,.int<|p%m,.int<|q/m,.int<|q%m]else none):=by
 obtain⟨ha,hi⟩:=yo m1 hp;obtain⟨hb,hk⟩:=yo m1 hq;refine R4.seq (as1:=EB n m J T s (sI p) (sI q) (sI<|p/m) (sI<|p%m) b k v) (NM (WD.e<|uT (za (i:=5) rfl) (za (i:=1) rfl) (by trivial)<|by trivial) rfl) ?_;refine R4.seq (as1:=EB n m J T s (sI p) (sI q) (sI<|p/m) (sI<|p%m) (sI<|q/m) (sI<|q%m) v) (NM (WD.e<|uT (za (i:=6) rfl) (za (i:=1) rfl) (by trivial)<|by trivial) rfl) ?_;generalize p/(m:Int)=a' at *;generalize p%(m:Int)=i' at *;generalize q/(m:Int)=b' at *;generalize q%(m:Int)=k' at *;obtain⟨q1,q2⟩:=XQ (as:=EB n m J T s (sI p) (sI q) (sI a') (sI i') (sI b') (sI k') v) hT hi ha (za (i:=4) rfl) (za (i:=8) rfl)<|za (i:=7) rfl;obtain⟨q3,q4⟩:=XQ (as:=EB n m J T s (sI p) (sI q) (sI a') (sI i') (sI b') (sI k') v) hT hk hb (za (i:=4) rfl) (za (i:=10) rfl)<|za (i:=9) rfl;refine R4.seq (as1:=EB n m J T s (sI p) (sI q) (sI a') (sI i') (sI b') (sI k')<|sI<|yw J (yw T i' a')<|yw T k' b') (yz (i:=11) (wD hJ q2 q4 (za (i:=2) rfl) q1 q3)<|zk rfl) ?_;obtain⟨q5,_⟩:=XQ (as:=EB n m J T s (sI p) (sI q) (sI a') (sI i') (sI b') (sI k')<|sI<|yw J (yw T i' a')<|yw T k' b') hT (w:=(i'+k')%m) (N9 m1) (ZA hJ ha hb) (za (i:=4) rfl) (yj (yJ (za (i:=8) rfl)<|za (i:=10) rfl) (za (i:=1) (x:=.int m) (s:=true) rfl)<|by trivial)<|wD hJ ha hb (za (i:=2) rfl) (za (i:=7) rfl)<|za (i:=9) rfl;exact HG (MR q5<|za (i:=11) (s:=true) rfl) (Q4 (os:=[.lf true<|.str "doing",.lf true<|.str s,yt a',yt i',yt b',yt k']) (ze zb<|ze (za (i:=3) rfl)<|ze (za (i:=7) rfl)<|ze (za (i:=8) rfl)<|ze (za (i:=9) rfl)<|ze (za (i:=10) rfl) zG) (wd rfl) rfl rfl) ⟨_,_,_,_,_,_,rfl⟩
def Nr{g:GF}{f:SF}{as:AS}(h0:as[0]? = some (sI n))(h1:as[1]? = some (sI m))(n8:n<=8)(m6:m<=6):yS (z_ (aC (f2 zf zh zC) aN) ya) g f as=forL g f (xb 0<|n*m) as:=by
 have nm:n*m<=48:=Nat.mul_le_mul n8 m6;have w:=xo (za h0) (za h1) (zU (by trivial)<|by trivial) (zU (by trivial)<|by trivial);rw[<-zzV]at w;exact yQ (yR (zj w zw) (by trivial)<|by trivial) (by rw[zyI])
def K_{s:Str}(n8:n<=8)(m1:1<=m)(m6:m<=6)(hJ:Tab n n J)(hT:Tab m n T):RE (ZT [(true,.int n),(true,.int m),(true,zm J),(true,.str s),(true,zm T)]) (oD<|tD n m J T s):=by
 have k:R4 (forL (gN 5) (yS (z_ (aC (f2 zf zh zC) aN) ya) (gN 6) ldI) (xb 0<|n*m)<|EB n m J T s none none none none none none none) (λas=>∃x y a i b k v,as=EB n m J T s x y a i b k v) (fs (n*m) λp=>fs (n*m) λq=>if(!(yw T ((p%m+q%m)%m) (yw J (p/m)<|q/m)==yw J (yw T (p%m)<|p/m) (yw T (q%m)<|q/m)))=true then some [.str "doing",.str s,.int<|p/m,.int<|p%m,.int<|q/m,.int<|q%m]else none):=by
  refine WN (λas=>∃x y a i b k v,as=EB n m J T s x y a i b k v) _ (λp hp as hI=>?_) ⟨_,_,_,_,_,_,_,rfl⟩;obtain⟨x,y,a,i,b,k,v,rfl⟩:=hI;refine⟨EB n m J T s (sI p) y a i b k v,rfl, ?_⟩;rw[Nr (n:=n) (m:=m) rfl rfl n8 m6];refine(WN (v:=6) (n:=n*m) (λas=>∃y a i b k v,as=EB n m J T s (sI p) y a i b k v) _ (λq hq as hI=>?_) ⟨_,_,_,_,_,_,rfl⟩).imp λas ⟨y,a,i,b,k,v,e⟩=>⟨_,y,a,i,b,k,v,e⟩;obtain⟨y,a,i,b,k,v,rfl⟩:=hI;exact⟨EB n m J T s (sI p) (sI q) a i b k v,rfl,sx hJ hT m1 m6 hp hq⟩
 have e1:=M7 m1 (λa i=>fs (n*m) λq=>if(!(yw T ((i+q%m)%m) (yw J a<|q/m)==yw J (yw T i a) (yw T (q%m)<|q/m)))=true then some [.str "doing",.str s,.int a,.int i,.int<|q/m,.int<|q%m]else none) n;rw[e1]at k;have e2:(fs n λa=>fs m λi=>fs (n*m) λq=>if(!(yw T ((i+q%m)%m) (yw J a<|q/m)==yw J (yw T i a) (yw T (q%m)<|q/m)))=true then some [.str "doing",.str s,.int a,.int i,.int<|q/m,.int<|q%m]else none)=tD n m J T s:=by
  unfold tD;refine Nt λa _=>Nt λi _=>?_;exact M7 m1 (λb k=>if(!(yw T ((i+k)%m) (yw J a b)==yw J (yw T i a) (yw T k b)))=true then some [.str "doing",.str s,.int a,.int i,.int b,.int k]else none) n
 rw[e2]at k;rw[<-Nr (n:=n) (m:=m) (as:=EB n m J T s none none none none none none none) rfl rfl n8 m6]at k;refine yx rfl ?_;rw[<-or_none (t:=tD n m J T s)];exact k.rt λ_ _=>yy<|WD.e zb
end
section
variable{n m:Nat}{J T:TZ}{e:Int}{Ds:DZ}{S:SS}
def R4.thn{f g:SF}{as:AS}{I I':AS->Prop}{t t':FT}(h:R4 (f as) I t)(k:∀as',I as'->R4 (g as') I' t'):R4 (zp f g as) I' (t.or t'):=by
 rcases h with⟨rfl,as',h1,h2⟩|⟨ds,rfl,h1⟩
 . rcases k as' h2 with⟨e,a,b,c⟩|⟨ds,e,b⟩
   . exact .inl ⟨e,a,zV h1 b,c⟩
   . exact .inr ⟨ds,e,zd h1 b⟩
 . exact .inr ⟨ds,rfl,xG h1⟩
def tE(n m:Nat)(J:TZ)(e:Int)(p:Str×TZ):FT:=(if(!(yw p.2 0 e==e))=true then some [.str "empty",.str p.1]else none).or<|tD n m J p.2 p.1
def tW(n m:Nat)(J:TZ)(e:Int)(Ds:DZ):FT:=((tU n J e).or<|tA n J).or<|Ds.findSome?<|tE n m J e
def SK{t:FT}:zB .Is (oD t) .non=some (.im<|.bl t.isNone):=by cases t<;>rfl
def Cf{t:FT}:zB .IsNot (oD t) .non=some (.im<|.bl t.isSome):=by cases t<;>rfl
def pJ{as:AS}{i:Nat}{t:FT}(h:as[i]? = some (sT<|oD t)):WT (fT<|f2 (fV i) (fC .non)<|zB .Is) as t.isNone:=zE (zq (za h) (zb (x:=.non)) SK rfl) rfl
def qc{as:AS}{i:Nat}{t:FT}(h:as[i]? = some (sT<|oD t)):WT (fT<|f2 (fV i) (fC .non)<|zB .IsNot) as t.isSome:=zE (zq (za h) (zb (x:=.non)) Cf rfl) rfl
def Hd(A:Alg n m J e Ds):RE (YS [(true,zi n m J e Ds S)]) (oD<|Ds.findSome?<|tE n m J e):=by
 have n8:=A.n8;have m1:=A.m1;have s1:zy true 1 (f2 zf xU zg) [sT<|zi n m J e Ds S,none,none,none,none]=some (.nx [sT<|zi n m J e Ds S,sI e,none,none,none]):=yz (i:=1) (zW (za (i:=0) rfl) zb rfl)<|zk rfl;have k:=qT (g:=gT 2<|yC (gN 2)<|yC (gN 3) vI) (f:=(zp (wG (fT<|f2 (f2 (f2 zA zN zg) zh zg) zh<|zB .NotEq) (yi<|zX<|dC (fC<|.str "empty")<|dC zo dN) vE)
  (zp (zy true 4<|zv (aC zf<|aC zo Yc) vN)
  (wG (fT<|f2 yc (fC .non)<|zB .IsNot) (yi yc) vE)))) (it:=λp:Str×TZ=>(true,zO p)) (λas=>∃(x y z:Option O),as=[sT<|zi n m J e Ds S,sI e,x,y,z]) (tE n m J e) Ds (λp mp as hI=>by
   obtain⟨x,y,z,rfl⟩:=hI;have hT:=A.ds p mp;obtain⟨q1,_⟩:=XQ (as:=[sT<|zi n m J e Ds S,sI e,sT<|.str p.1,sT<|zm p.2,z]) hT (w:=0) (v:=e) ⟨by trivial,by trivial⟩ ⟨A.e0,A.en⟩ (za (i:=3) rfl) (zb (x:=.int 0))<|za (i:=1) rfl;have t1:=MR q1<|za (i:=1) (x:=.int e) (s:=true) rfl;refine⟨[sT<|zi n m J e Ds S,sI e,sT<|.str p.1,sT<|zm p.2,z],rfl, ?_⟩;refine(HG (I:=λas=>as=[sT<|zi n m J e Ds S,sI e,sT<|.str p.1,sT<|zm p.2,z]) t1 (Q4 (os:=[.lf true<|.str "empty",.lf true<|.str p.1]) (ze zb<|ze (za (i:=2) rfl) zG) (wd rfl) rfl rfl) rfl).thn λas' hI=>?_;subst hI;refine R4.seq (xx (p:=4) (Z6 (WD.e<|za (i:=0) rfl) (WD.e<|za (i:=2) rfl) (WD.e<|za (i:=3) rfl)<|SV (s:=p.1) n8 m1 A.m6 A.j hT)<|zk rfl) ?_;have tt:=qc (as:=[sT<|zi n m J e Ds S,sI e,sT<|.str p.1,sT<|zm p.2,sT<|oD<|tD n m J p.2 p.1]) (i:=4) (t:=tD n m J p.2 p.1) rfl;generalize tD n m J p.2 p.1=t at tt;cases t with
   |none=>exact .inl ⟨rfl,_,zZ tt rfl,_,_,_,rfl⟩
   |some ds=>exact .inr ⟨ds,rfl,wC tt<|yy<|WD.e<|za (i:=4) rfl⟩) [sT<|zi n m J e Ds S,sI e,none,none,none] ⟨_,_,_,rfl⟩
 refine yx rfl<|zd s1 ?_;rw[<-or_none (t:=Ds.findSome?<|tE n m J e)];refine R4.rt (I:=λas=>∃(x y z:Option O),as=[sT<|zi n m J e Ds S,sI e,x,y,z]) ?_ λ_ _=>yy<|WD.e zb;have hi:=TU (as:=[sT<|zi n m J e Ds S,sI e,none,none,none]) (f:=f2 zf y9 zg) (ds:=Ds.map zO)<|zW (za (i:=0) rfl) zb rfl;rw[zyB]at hi;rw[yQ hi rfl];exact k
def Ft(A:Alg n m J e Ds):RE (wY [(true,zi n m J e Ds S)]) (oD<|tW n m J e Ds):=by
 have r1:=EJ (m:=m) (Ds:=Ds) (S:=S) A.n8 A.j ⟨A.e0,A.en⟩;have r2:=EM (m:=m) (e:=e) (Ds:=Ds) (S:=S) A.n8 A.j;have r3:=Hd (S:=S) A;have s1:=xx (as:=YG 2 [(true,zi n m J e Ds S)]) (p:=1) (xX (WD.e<|za (i:=0) rfl) r1)<|zk rfl;have st:∀(t t':FT) (g:Fn),RE (g [(true,zi n m J e Ds S)]) (oD t')->wG (fT<|f2 zh (fC .non)<|zB .Is) (zy true 1<|zv y8 g) vE [sT<|zi n m J e Ds S,sT<|oD t]=some (.nx [sT<|zi n m J e Ds S,sT<|oD<|t.or t']):=λt t' g hg=>by
  have tt:=pJ (as:=[sT<|zi n m J e Ds S,sT<|oD t]) (i:=1) rfl;cases t with
  |none=>exact wa tt (xx (p:=1) (xX (WD.e<|za (i:=0) rfl) hg)<|zk rfl)
  |some ds=>exact zZ tt rfl
 exact yx rfl<|zd s1<|zd (st _ _ _ r2)<|zd (st _ _ _ r3)<|yy<|WD.e<|za (i:=1) rfl
abbrev O0(n m:Nat)(J:TZ)(e:Int)(Ds:DZ)(S:SS)(d:D)(x y:Option O):AS:=[sT<|zi n m J e Ds S,sI n,sI m,sT<|zm J,sI e,sT<|.lst<|Ds.map zO,sT<|.lst<|S.map ye,sT d,x,y]
abbrev oe:SF:=(zp (wG (WI (fT<|f2 xD (fC .non)<|zB .Is)<|fT<|f2 (f2 (f2 (fV 9) zN zg) yc zg) yc<|zB .NotEq) (zy true 7<|zX<|dC (fC<|.str "empty")<|dC (fV 8) dN) vE)
 (wG (fT<|f2 xD (fC .non)<|zB .Is) (zy true 7<|zv (aC zh<|aC zo<|aC zA<|aC (fV 8)<|aC (fV 9) aN) ZT) vE))
def Qq(A:Alg n m J e Ds):RE (wH [(true,zi n m J e Ds S)]) (oD<|tW n m J e Ds):=by
 have n8:=A.n8;have m1:=A.m1;have he:zL n e:=⟨A.e0,A.en⟩;have h0:=Pm (e:=e) n8 A.j he;obtain⟨as',hf,x,y,rfl⟩:=yG (g:=gT 2<|yC (gN 8)<|yC (gN 9) vI) (f:=oe)
  (λi as=>∃(x y:Option O),as=O0 n m J e Ds S (oD<|((tU n J e).or<|tA n J).or<|(Ds.take i).findSome?<|tE n m J e) x y)
  ((Ds.map zO).map λd=>(true,d)) 0 (O0 n m J e Ds S (oD<|(tU n J e).or<|tA n J) none none) (λi x as hx' hI=>by
    obtain⟨x,y,rfl⟩:=hI;rw[zyB,zzI]at hx';obtain⟨p,hp,rfl⟩:=zzX.mp hx';have hT:=A.ds p<|zyA hp;have es:((tU n J e).or<|tA n J).or ((Ds.take<|0+i+1).findSome?<|tE n m J e)=(((tU n J e).or<|tA n J).or<|(Ds.take<|0+i).findSome?<|tE n m J e).or (tE n m J e p):=by
     have e2:List.findSome? (tE n m J e) (Option.toList<|some p)=tE n m J e p:=by
      rw[Option.toList_some,List.findSome?_cons,List.findSome?_nil];cases tE n m J e p<;>rfl
     generalize (tU n J e).or (tA n J)=X;rw[zyY,List.take_succ,hp,List.findSome?_append,e2,Option.or_assoc]
    rw[es];generalize ((tU n J e).or<|tA n J).or ((Ds.take<|0+i).findSome?<|tE n m J e)=t;refine⟨O0 n m J e Ds S (oD t) (sT<|.str p.1)<|sT<|zm p.2,rfl, ?_⟩;have tn:=pJ (as:=O0 n m J e Ds S (oD t) (sT<|.str p.1)<|sT<|zm p.2) (i:=7) rfl;cases t with
    |some ds=>exact⟨_,zV (zZ (Yp tn (λh=>nomatch h) λ_=>rfl) rfl)<|zZ tn rfl,_,_,rfl⟩
    |none=>
     obtain⟨q1,_⟩:=XQ (as:=O0 n m J e Ds S (oD none) (sT<|.str p.1)<|sT<|zm p.2) hT (w:=0) (v:=e) ⟨by trivial,by trivial⟩ he (za (i:=9) rfl) (zb (x:=.int 0))<|za (i:=4) rfl;have t1:=MR q1<|za (i:=4) (x:=.int e) (s:=true) rfl;have t2:=Yp (l:=!(yw p.2 0 e==e)) tn (λ_=>t1) (λh=>nomatch h);have ed:tE n m J e p=(if(!(yw p.2 0 e==e))=true then some [.str "empty",.str p.1]else none).or (tD n m J p.2 p.1):=rfl;rw[show(none:FT).or (tE n m J e p)=tE n m J e p from rfl,ed];generalize (!(yw p.2 0 e==e))=q at t2;cases q with
     |true=>exact⟨_,zV (as1:=O0 n m J e Ds S (.tup [.str "empty",.str p.1]) (sT<|.str p.1)<|sT<|zm p.2) (wa t2<|xx (p:=7) (Q4 (os:=[.lf true<|.str "empty",.lf true<|.str p.1]) (ze zb<|ze (za (i:=8) rfl) zG) (wd rfl) rfl rfl)<|zk rfl)<|zZ (zE (zq (za (i:=7) rfl) zb rfl rfl) rfl) rfl,_,_,rfl⟩
     |false=>exact⟨_,zV (zZ t2 rfl)<|wa tn<|xx (p:=7) (K5 (WD.e<|za (i:=1) rfl) (WD.e<|za (i:=2) rfl) (WD.e<|za (i:=3) rfl) (WD.e<|za (i:=8) rfl) (WD.e<|za (i:=9) rfl)<|K_ (s:=p.1) n8 m1 A.m6 A.j hT)<|zk rfl,_,_,rfl⟩)
  ⟨none,none,by rw[List.take_zero,List.findSome?_nil,or_none]⟩
 rw[zzB,zzB,zyY,List.take_length]at hf;exact yx rfl<|zd (as1:=[sT<|zi n m J e Ds S,sI n,sI m,sT<|zm J,sI e,sT<|.lst<|Ds.map zO,sT<|.lst<|S.map ye,none,none,none]) (NM (WD.e<|za (i:=0) rfl) rfl)<|zd (xx (p:=7) (Z6 (WD.e<|za (i:=1) rfl) (WD.e<|za (i:=3) rfl) (WD.e<|za (i:=4) rfl) h0)<|zk rfl)<|zd (yQ (TU<|za (i:=5) rfl) hf)<|yy<|WD.e<|za (i:=7) rfl
end
def LQ{n m:Nat}{J:TZ}{e c:Int}{Ds:DZ}{S:SS}(A:Alg n m J e Ds):∃J' e' Ds',Alg n m J' e' Ds'/\RE (v9 [(true,zi n m J e Ds S),(true,.int c)]) (zi n m J' e' Ds' S):=by
 have n1:=A.n1;have n8:=A.n8;have m6:=A.m6;have dl:=A.dl;have nn:n*n<=64:=Nat.mul_le_mul n8 n8;have nm:n*m<=48:=Nat.mul_le_mul n8 m6;have nmd:n*m*Ds.length<=288:=Nat.mul_le_mul nm dl;obtain⟨ds,d1,d2,d3⟩:=Bq (c:=c) (n:=n) (k:=1+n*n+n*m*Ds.length) n1 n8 (by omega);obtain⟨e',e1,e2⟩:=Tt (r:=ds) (P:=zL n) (k:=0) (by omega) (by omega) d2;obtain⟨J',j1,j2,j3⟩:=Tq (as:=[sT<|zi n m J e Ds S,sI c,sI n,sI m,sT<|zm J,sI e,sT<|.lst<|Ds.map zO,sT<|.lst<|S.map ye,sT<|.lst<|ds.map D.int,none,none,none,none]) (u:=true) zc (Q:=Row n) (n:=n) (fr:=aC zo aN) (cap:=[none,some 8,some 2]) (fe:=v_ zh (oS<|f2 zF (f2 zo zf zC) zr) (oS<|f2 (f2 zF (f2 zo zf zC) zr) zo zr) ZO) (zj (za rfl) zw) (by omega) λa a0 a1=>by
  have ha:n*a.toNat+n<=n*n:=by rw[<-Nat.mul_succ];exact Nat.mul_le_mul_left n (by omega)
  have ea:(a.toNat:Int)=a:=by omega
  have w:WD (f2 zF (f2 zo zf zC) zr) [sI a,sT<|.lst<|ds.map D.int,sI n] true (.int<|1+n*a):=yJ zb (xo (za rfl) (za rfl) (zU (by omega)<|by omega)<|zU (by omega)<|by omega);exact⟨[sI a,sT<|.lst<|ds.map D.int,sI n],_,rfl,uR (a:=1+n*a.toNat) (n:=n) (by omega) (za rfl) w (yJ w<|za rfl) (by rw[Int.natCast_add,zzV,ea];rfl) (by rw[Int.natCast_add,Int.natCast_add,zzV,ea];rfl),Fj (by omega) d2 rfl⟩
 obtain⟨os,l,e11,e12,ho,hlm,hlen,hf⟩:=Au (a0:=sT<|zi n m J e Ds S) (a1:=sI c) (a4:=sT<|zm J) (a5:=sI e) (a7:=sT<|.lst<|S.map ye) (a9:=sT<|zm J') n1 n8 m6 dl d1 d2;refine⟨J',e',l,⟨n1,n8,A.m1,m6,⟨j1,j2⟩,e2.1,e2.2,by omega,ho.al,by rw[hlm];exact A.nd⟩, ?_⟩;have ek:((1+n*n+n*m*Ds.length:Nat):Int)=1+n*n+n*m*((Ds.map zO).length:Int):=by rw[Int.natCast_add,Int.natCast_add,zzV,zzV,zzV,zzB];rfl
 have enm:((n*m:Nat):Int)=n*m:=zzV n m;rw[ek]at d3;refine yx rfl<|zd (as1:=[sT<|zi n m J e Ds S,sI c,sI n,sI m,sT<|zm J,sI e,sT<|.lst<|Ds.map zO,sT<|.lst<|S.map ye,none,none,none,none,none]) (NM (WD.e<|za rfl) rfl)<|zd (xx (p:=8) (Z6 (WD.e<|za rfl) (WD.e<|za rfl) (WD.e<|yJ (yJ zb<|xo (za rfl) (za rfl) (zU (by omega)<|by omega)<|zU (by omega)<|by omega)<|xo (xo (za rfl) (za rfl) (zU (by omega)<|by omega)<|zU (by omega)<|by omega) (y_ (zj (za rfl) zw) rfl rfl) (by rw[<-enm];exact zU (by omega)<|by omega)<|zU (by rw[zzB];omega)<|by rw[zzB];omega) d3)<|zk rfl)<|zd (xx (p:=9) j3<|zk rfl)<|zd (yr (i:=10) (xp zG<|wd rfl)<|zk rfl)<|zd (yQ (yR (j:=((Ds.map zO).length:Int)) (zj (y_ (zj (za rfl) zw) rfl rfl) zw) (by omega)<|by rw[zzB];omega)<|by rw[zzB];exact hf) ?_;have q:=zP (as:=CL n m (sT<|zi n m J e Ds S) (sI c) (sT<|zm J) (sI e) (sT<|.lst<|S.map ye) (sT<|zm J') Ds ds (sN os) e11 e12) (a:=fV 2) (za rfl)<|zP (a:=fV 3) (za rfl)<|zP (a:=fV 9) (za rfl)<|zP (a:=f2 (fV 8) zN zg) (zq (za rfl) zb e1 rfl)<|Xz (j:=10) (fr:=dC xD dN) rfl<|zP (a:=fV 7) (za rfl) rfl;rw[ho.frz]at q;exact⟨_,YK (RU q<|wd rfl) rfl,rfl,rfl⟩
def JJ{ns:List Int}:∃n m J e Ds S,Alg n m J e Ds/\Sg n S/\RE (Ub [(true,.lst<|ns.map .int)]) (zi n m J e Ds S):=by
 obtain⟨c,hc⟩:=ZU (ns:=ns) (k:=2) (s:=true) (t:=true) (by omega);obtain⟨c0,hc0⟩:=ZU (ns:=ns) (k:=0) (s:=true) (t:=true) (by omega);obtain⟨c1,hc1⟩:=ZU (ns:=ns) (k:=1) (s:=true) (t:=true) (by omega);obtain⟨n,m,J,e,Ds,S,⟨A,_⟩,hSl,hA⟩:=Gc (c:=c0) (c':=c1);have s1:zy true 1 (zv (aC zf<|aC yh aN) yg) [sT<|.lst<|ns.map .int,none,none]=some (.nx [sT<|.lst<|ns.map .int,sI c,none]):=yz (i:=1) (Ze (zj (za rfl)<|zj zb zw) hc)<|zk rfl;have s2:zy true 2 (zv (aC (zv (aC zf<|aC zN aN) yg)<|aC (zv (aC zf<|aC zF aN) yg) aN) xJ) [sT<|.lst<|ns.map .int,sI c,none]=some (.nx [sT<|.lst<|ns.map .int,sI c,sT<|zi n m J e Ds S]):=
  xx (p:=2) (Z7 (WD.e<|Ze (zj (za rfl)<|zj zb zw) hc0) (WD.e<|Ze (zj (za rfl)<|zj zb zw) hc1) hA) (zk rfl)
 by_cases h:c%2=1
 . obtain⟨J',e',Ds',A',h'⟩:=LQ (c:=c/2) (S:=S) A;exact⟨n,m,J',e',Ds',S,A',hSl,yx rfl<|zd s1<|zd s2<|xG<|wC (zE (yq (yj (za rfl) zb<|by decide) zb rfl) (by show some (c%2==1)=_;simp[h]))<|yy<|Z7 (WD.e<|za rfl) (WD.e<|vK (za rfl) zb (by decide)<|zU (by decide)<|by decide) h'⟩
 . obtain⟨J',e',Ds',A',h'⟩:=O2 (c:=c/2) (S:=S) A;exact⟨n,m,J',e',Ds',S,A',hSl,yx rfl<|zd s1<|zd s2<|zd (zZ (zE (yq (yj (za rfl) zb<|by decide) zb rfl) (by show some (c%2==1)=_;simp[h])) rfl)<|yy<|Z7 (WD.e<|za rfl) (WD.e<|vK (za rfl) zb (by decide)<|zU (by decide)<|by decide) h'⟩
def ZJ{n:Nat}{t:Int->FT}(h:fs n t=none){b:Int}(hb:zL n b):t b=none:=by
 unfold fs at h;have:=List.findSome?_eq_none_iff.mp h b.toNat (List.mem_range.mpr<|by have:=hb.1;have:=hb.2;omega);rw[show((b.toNat:Nat):Int)=b by have:=hb.1;omega]at this;exact this
def HF{t t':FT}(h:t.or t'=none):t=none/\t'=none:=by cases t with
 |none=>exact⟨rfl,h⟩
 |some d=>cases h
def E2{q:Bool}{ds:List D}(h:(if q=true then some ds else none)=none):q=false:=by cases q with
 |false=>rfl
 |true=>cases h
def Pw{a b:Int}(h:(!(a==b))=false):a=b:=by simpa using h
def HQ{n m:Nat}{J:TZ}{e:Int}{Ds:DZ}(A:Alg n m J e Ds)(h:tW n m J e Ds=none):LawA n m J e Ds:=by
 obtain⟨h1,h3⟩:=HF h;obtain⟨h1,h2⟩:=HF h1;have un:∀a,zL n a->yw J e a=a/\yw J a e=a:=λa ha=>by
  have:=E2<|ZJ h1 ha;rw[Bool.or_eq_false_iff]at this;exact⟨Pw this.1,Pw this.2⟩
 have m0:zL m (0:Int):=⟨Int.le_refl _,by have:=A.m1;omega⟩;have cl:∀{k:Nat}{T:TZ}(c a:Int),Tab k n T->zL k c->zL n a->zL n (yw T c a):=λc a hT hc ha=>(rowAt (xF hT hc).2 ha).2;have he:zL n e:=⟨A.e0,A.en⟩;refine⟨⟨λa b ha hb=>cl a b A.j ha hb,he,λa ha=>(un a ha).1,λa ha=>(un a ha).2,λa b c ha hb hc=>Pw<|E2<|ZJ (ZJ (ZJ h2 ha) hb) hc⟩,λp mp=>?_⟩;obtain⟨g1,g2⟩:=HF<|List.findSome?_eq_none_iff.mp h3 p mp;exact⟨λc a hc ha=>cl c a (A.ds p mp) hc ha,Pw<|E2 g1,λa i b k ha hi hb hk=>Pw<|E2<|ZJ (ZJ (ZJ (ZJ g2 ha) hi) hb) hk⟩
def Np{n m:Nat}{J:TZ}{e:Int}{Ds:DZ}(A:Alg n m J e Ds)(L:LawA n m J e Ds):tW n m J e Ds=none:=by
 have fn:∀{k:Nat}{t:Int->FT},(∀b,zL k b->t b=none)->fs k t=none:=λ{k t} H=>by
  unfold fs;exact List.findSome?_eq_none_iff.mpr λi mi=>H _ ⟨by omega,by have:=List.mem_range.mp mi;omega⟩
 have bn:∀{a b:Int},a=b->(!(a==b))=false:=λh=>by simp[h]
 have ino:∀{q:Bool}{ds:List D},q=false->(if q=true then some ds else none)=none:=λh=>by rw[h];rfl
 have h1:tU n J e=none:=fn λa ha=>ino (by rw[bn<|L.lj.ul a ha,bn<|L.lj.ur a ha];rfl);have h2:tA n J=none:=fn λa ha=>fn λb hb=>fn λc hc=>ino<|bn<|L.lj.as a b c ha hb hc;have h3:Ds.findSome? (tE n m J e)=none:=List.findSome?_eq_none_iff.mpr λp mp=>by
  have ld:=L.ld p mp;have g1:(if(!(yw p.2 0 e==e))=true then some [D.str "empty",D.str p.1]else none)=none:=ino<|bn ld.em;have g2:tD n m J p.2 p.1=none:=fn λa ha=>fn λi hi=>fn λb hb=>fn λk hk=>ino<|bn<|ld.dn a i b k ha hi hb hk;unfold tE;rw[g1,g2];rfl
 unfold tW;rw[h1,h2,h3];rfl
def HP{n m:Nat}{J:TZ}{e:Int}{Ds:DZ}{S:SS}(A:Alg n m J e Ds)(L:LawA n m J e Ds):xt [(true,zi n m J e Ds S)]=sT .non:=by
 have w:=Ft (S:=S) A;rw[Np A L]at w;have h:Zu (YG 2 [(true,zi n m J e Ds S)])=some (.nx [sT<|zi n m J e Ds S,sT .non]):=zV (xx (p:=1) (xX (WD.e<|za (i:=0) rfl) w)<|zk rfl)<|zZ (zE (zq (za (i:=1) rfl) zb rfl rfl) rfl) rfl;unfold xt v3;rw[if_pos<|show[(true,zi n m J e Ds S)].length=1 from rfl,h];rfl
def Il{ns:List Int}:∃n m J e Ds S,Alg n m J e Ds/\LawA n m J e Ds/\Sg n S/\RE (Vu [(true,.lst<|ns.map .int)]) (zi n m J e Ds S):=by
 obtain⟨c,hc⟩:=ZU (ns:=ns) (k:=2) (s:=true) (t:=true) (by omega);obtain⟨c0,hc0⟩:=ZU (ns:=ns) (k:=0) (s:=true) (t:=true) (by omega);obtain⟨c1,hc1⟩:=ZU (ns:=ns) (k:=1) (s:=true) (t:=true) (by omega);obtain⟨n,m,J,e,Ds,S,⟨A,L⟩,hS,hA⟩:=Gc (c:=c0) (c':=c1);obtain⟨n',m',J',e',Ds',S',A',hS',hA'⟩:=JJ (ns:=ns);have s1:=xx (p:=1) (as:=[sT<|.lst<|ns.map .int,none]) (xX (WD.e<|za (i:=0) rfl) hA')<|zk rfl;have ra:Rt (yi (zv (aC (zv (aC zf<|aC zN aN) yg)<|aC (zv (aC zf<|aC zF aN) yg) aN) xJ) [sT<|.lst<|ns.map .int,sT<|zi n' m' J' e' Ds' S']) (zi n m J e Ds S):=yy<|Z7 (WD.e<|Ze (zj (za rfl)<|zj zb zw) hc0) (WD.e<|Ze (zj (za rfl)<|zj zb zw) hc1) hA;have t1:WT (fT<|f2 (f2 (zv (aC zf<|aC yh aN) yg) yh zx) zF<|zB .Eq) [sT<|.lst<|ns.map .int,sT<|zi n' m' J' e' Ds' S'] (c%2==1):=zE (yq (yj (Ze (zj (za rfl)<|zj zb zw) hc) zb<|by decide) zb rfl) rfl;have t2:WT (fT<|f2 (zv y6 wH) (fC .non)<|zB .Is) [sT<|.lst<|ns.map .int,sT<|zi n' m' J' e' Ds' S'] (tW n' m' J' e' Ds').isNone:=zE (Ey (xX (WD.e<|za (i:=1) rfl)<|Qq A') (WD.e<|zb (x:=.non)) SK) rfl
 by_cases h:(c%2==1)=true
 . cases hw:tW n' m' J' e' Ds' with
   |none=>
    rw[hw]at t2;exact⟨n',m',J',e',Ds',S',A',HQ A' hw,hS',yx rfl<|zd s1<|xG<|wC (Yp (l:=true) t1 (λ_=>t2) λz=>by rw[h]at z;cases z)<|yy<|WD.e<|za (i:=1) rfl⟩
   |some d=>
    rw[hw]at t2;exact⟨n,m,J,e,Ds,S,A,L,hS,yx rfl<|zd s1<|zd (zZ (Yp (l:=false) t1 (λ_=>t2) λ_=>rfl) rfl) ra⟩
 . exact⟨n,m,J,e,Ds,S,A,L,hS,yx rfl<|zd s1<|zd (zZ (Yp (l:=false) t1 (λz=>absurd z h) λ_=>rfl) rfl) ra⟩
abbrev sL(x:Int):D:=.tup [.str "left",.int x]
abbrev sR(x:Int):D:=.tup [.str "right",.int x]
abbrev sD(s:Str)(c:Int):D:=.tup [.str "deed",.str s,.int c]
def wI{α:Type}{f:EF}{as:AS}{g:α->D}{l:List α}(h:WE f as (.lst<|l.map g)):yA f as=some (l.map λa=>(true,g a),as):=by
 have:=Pv h;rw[zyB]at this;exact this
def yu{n:Nat}{x:Int}(h:x ∈ zz n):zL n x:=by
 obtain⟨i,hi,rfl⟩:=zxE.mp h;have:=List.mem_range.mp hi;exact⟨by omega,by omega⟩
def Z2{n:Nat}{x:Int}(h:zL n x):x ∈ zz n:=zxE.mpr ⟨x.toNat,List.mem_range.mpr (by have:=h.1;have:=h.2;omega),by have:=h.1;omega⟩
def Xu{as:AS}{fr:AF}{n:Nat}{u:Bool}(h:WA fr as [(u,.int n)])(hn:n<=1000):z_ fr ya as=some ((zz n).map λx=>(true,D.int x),as):=by
 rw[yR h (by omega) (by omega),zyI,zyB];unfold xb;simp only[Int.zero_add];rfl
abbrev Ea(q:D×List Int):D:=.tup [q.1,zc q.2]
def qr{a b:EF}{as:AS}{ds es:List D}(ha:WE a as (.lst ds))(hb:WE b as (.lst es))(hl:ds.length+es.length<=sizeLine):f2 a b zr as=some (.ow<|.nd .ls<|(ds++es).map<|O.lf true,as):=by
 obtain⟨o,h1,h2,h3⟩:=ha;obtain⟨p,k1,k2,k3⟩:=hb;have e1:RV.view as (.ow o.frz)=some (.lst ds,some true):=by
  show some (o.toD,some o.str)=_;rw[h2,h3]
 have e2:RV.view as (.ow p.frz)=some (.lst es,some true):=by
  show some (p.toD,some p.str)=_;rw[k2,k3]
 unfold f2;simp only[h1,k1,zyL,RV.frz,e1,e2];show((Wt .Add (.lst ds)<|.lst es).bind _)=_;rw[add_lists hl];show(if((ds++es).all zR||true)=true then some (RV.ow<|.nd .ls<|(ds++es).map<|Nc true)else none:Option RV).bind _=_;rw[if_pos (by simp),Wc];rfl
theorem Mb:∀(a b:List O),O.toDs (a++b)=O.toDs a++O.toDs b
 | [],_=>rfl
 |x::a,b=>congrArg (x.toD :: ·)<|Mb a b
theorem N2:∀{a b:List O},O.strs a=true->O.strs b=true->O.strs (a++b)=true
 | [],_,_,h=>h
 |x::a,b,h,h'=>by
  have h:=(zyC _ _).mp<|show(x.str&&O.strs a)=true from h;show(x.str&&O.strs (a++b))=true;rw[h.1,N2 h.2 h'];rfl
def qD{α:Type}{toD:α->D}{Q:α->Prop}{as:AS}{fi:IF}{cap:List (Option Nat)}{g:GF}{fe:EF}{i:Nat}{os ps:List O}{l k:List α}{xs:List Z_}(h:as[i]? = some (sN os))(ho:Ows toD Q os l)(hi:fi as=some (xs,as))(hx:xs.length<=1000)(hc:xv g zK fe (wM cap as) xs=some ps)(hs:O.strs ps=true)(hd:O.toDs ps=k.map toD)(hk:∀a ∈ k,Q a)(hl:l.length+k.length<=1000):
 ym (yN i (dC (zt fi cap g zK fe) dN) Bu) as=some (.nx<|as.set i<|sN<|os++ps)/\Ows toD Q (os++ps) (l++k):=by
 have hlp:ps.length=k.length:=by have:=congrArg List.length hd;rw[X4,zzB]at this;exact this
 refine⟨?_,N2 ho.st hs,by rw[Mb,ho.ds,hd,zyM],λa m=>(zzM.mp m).elim (ho.al a)<|hk a,by rw[zzJ,zzJ,ho.ln,hlp]⟩;have e1:zt fi cap g zK fe as=some (.ow<|.nd .ls ps,as):=YT hi (Gk<|by omega) hc;unfold ym yN;rw[h];show(((dC (zt fi cap g zK fe) dN as).bind _).bind _)=_;unfold dC;rw[e1];show((match as[i]? with|some (some<|.nd .ls os)=>(Bu os [.nd .ls ps]).bind λz=>some (RV.ow z.2,as.set i<|sN z.1)|_=>none).bind _)=_;rw[h];show(((if os.length+ps.length<=sizeLine then some (os++ps,O.lf true .non)else none:Option (List O×O)).bind _).bind _)=_;rw[if_pos<|Gk<|by rw[ho.ln,hlp];omega];rfl
section
variable{n m:Nat}{J:TZ}{e:Int}{Ds:DZ}{S:SS}{v:Int}
abbrev tR(T:TZ)(x:Int):List Int:=(T[x.toNat]?).getD []
abbrev col(J:TZ)(x:Int):List Int:=J.map λr=>zD r x
abbrev Fm(n m:Nat)(J:TZ)(Ds:DZ)(q:List Int):Prop:=(∃x,zL n x/\(q=tR J x\/q=col J x))\/∃p ∈ Ds,∃c,zL m c/\q=tR p.2 c
abbrev Gd(n m:Nat)(J:TZ)(Ds:DZ)(q:D×List Int):Prop:=Row n q.2/\Fm n m J Ds q.2
def uN{x:Int}(A:Alg n m J e Ds)(h:zL n x):Row n (col J x):=by
 refine⟨by rw[zzB];exact A.j.1,λy my=>?_⟩;obtain⟨r,mr,rfl⟩:=zxE.mp my;exact(rowAt (A.j.2 r mr) h).2
abbrev pZ:SF:=(ym<|yN 3 (dC (zt (Cw yY) [none,none,some 4] (gT 2<|yC zH<|yC (gN 1) vI) zK<|zX<|dC (zX<|dC (fC<|.str "deed")<|dC zo<|dC zf dN)<|dC zh dN) dN) Bu)
theorem E7:∀(T:TZ) (k:Nat),WC true k (T.map zc)=((List.range' k T.length).zip T).map λq=>(true,D.tup [.int (q.1:Int),zc q.2])
 | [],_=>rfl
 |r::T,k=>by
  show(true,D.tup [.int (k:Int),zc r])::WC true (k+1) (T.map zc)=_;rw[E7 T<|k+1];rfl
def Oo(A:Alg n m J e Ds){p:Str×TZ}(hp:p ∈ Ds){B C L:Option O}{os:List O}{l:List (D×List Int)}(ho:Ows Ea (Gd n m J Ds) os l)(hl:l.length+6<=1000):
 ∃ps k,pZ [B,C,L,sN os,sT<|.str p.1,sT<|zm p.2]=some (.nx [B,C,L,sN<|os++ps,sT<|.str p.1,sT<|zm p.2])/\Ows Ea (Gd n m J Ds) (os++ps) (l++k)/\k.length=m/\∀c,zL m c->(sD p.1 c,tR p.2 c) ∈ k:=by
 have hT:=A.ds p hp;have m6:=A.m6;have hz:∀q ∈ (List.range' 0 p.2.length).zip p.2,p.2[q.1]? = some q.2:=λq hq=>by
  obtain⟨i,hi⟩:=List.mem_iff_getElem?.mp hq;obtain⟨h1,h2⟩:=List.getElem?_zip_eq_some.mp hi;have:=(zzG.mp h1);obtain⟨h3,h4⟩:=this;rw[List.getElem_range']at h4;rw[<-h4];simpa using h2
 obtain⟨ps,c1,c2,c3⟩:=QW (gg:=gT 2<|yC zH<|yC (gN 1) vI) (fe:=zX<|dC (zX<|dC (fC<|.str "deed")<|dC zo<|dC zf dN)<|dC zh dN) (it:=λq:Nat×List Int=>(true,D.tup [.int (q.1:Int),zc q.2])) (h:=λq=>Ea (sD p.1 (q.1:Int),q.2)) (as0:=[none,none,sT<|.str p.1]) ((List.range' 0 p.2.length).zip p.2) λq hq=>⟨[sI q.1,sT<|zc q.2,sT<|.str p.1],rfl,ZP (Q4 (os:=[.lf true<|.str "deed",.lf true<|.str p.1,yt q.1]) (ze zb<|ze (za (i:=2) rfl)<|ze (za (i:=0) rfl) zG) (wd rfl) rfl rfl)<|WD.e<|za (i:=1) rfl⟩;have hi:Cw yY [B,C,L,sN os,sT<|.str p.1,sT<|zm p.2]=some (((List.range' 0 p.2.length).zip p.2).map λq=>(true,D.tup [.int (q.1:Int),zc q.2]),[B,C,L,sN os,sT<|.str p.1,sT<|zm p.2]):=by
  rw[<-E7];rfl
 have zl:((List.range' 0 p.2.length).zip p.2).length=m:=by rw[List.length_zip,List.length_range',Nat.min_self];exact hT.1
 obtain⟨x1,x2⟩:=qD (i:=3) (cap:=[none,none,some 4]) (k:=((List.range' 0 p.2.length).zip p.2).map λq=>(sD p.1 (q.1:Int),q.2)) rfl ho hi (by rw[zzB,zl];omega) c1 c2 (by rw[c3,zyB];rfl) (λa ma=>by
  obtain⟨q,mq,rfl⟩:=zxE.mp ma;refine⟨hT.2 _<|zyA<|hz q mq,.inr ⟨p,hp,(q.1:Int), ?_, ?_⟩⟩
  . have:=(zzG.mp<|hz q mq).1;rw[hT.1]at this;exact⟨by omega,by omega⟩
  . show q.2=(p.2[((q.1:Nat):Int).toNat]?).getD [];rw[zyI,hz q mq];rfl) (by rw[zzB,zl];omega)
 refine⟨ps,_,x1,x2,by rw[zzB,zl],λc hc=>?_⟩;have hk:c.toNat<p.2.length:=by have:=hc.1;have:=hc.2;have:=hT.1;omega
 rw[show tR p.2 c=p.2[c.toNat] by show(p.2[c.toNat]?).getD []=_;rw[zzE hk];rfl];refine zxE.mpr ⟨(c.toNat,p.2[c.toNat]), ?_,by rw[show((c.toNat:Nat):Int)=c by have:=hc.1;omega]⟩;refine List.mem_iff_getElem?.mpr ⟨c.toNat,List.getElem?_zip_eq_some.mpr ⟨?_,zzE hk⟩⟩;rw[List.getElem?_range' hk];simp
def N3:(zz n).length=n:=by rw[zzB,zyU]
def Ln(A:Alg n m J e Ds):∃sts:List (D×List Int),sts.length<=60/\(∀q ∈ sts,Gd n m J Ds q)/\(∀x,zL n x->(sL x,tR J x) ∈ sts/\(sR x,col J x) ∈ sts)/\(∀p ∈ Ds,∀c,zL m c->(sD p.1 c,tR p.2 c) ∈ sts)/\RE (ZD [(true,zi n m J e Ds S)]) (.lst<|sts.map Ea):=by
 have n8:=A.n8;have m6:=A.m6;have dl:=A.dl;have s1:zy true 1 (f2 zf yh zg) [sT<|zi n m J e Ds S,none,none,none,none,none]=some (.nx [sT<|zi n m J e Ds S,sT<|zm J,none,none,none,none]):=yz (i:=1) (zW (za (i:=0) rfl) zb rfl)<|zk rfl;have w2:WE (fP (aC (f2 zf zN zg) aN) CG) [sT<|zi n m J e Ds S,sT<|zm J,none,none,none,none] (zc<|zz n):=⟨_,Lh (x:=.int n) (g:=CG) (zs:=(zz n).map D.int) (WD.e<|zW (za (i:=0) rfl) zb rfl) (by
  show(if(0:Int)<=n/\(n:Int)<=100000 then _ else _)=_;rw[if_pos ⟨by omega,by omega⟩,zyB];rfl),Ri _,congrArg D.lst<|VO _⟩
 have s2:=xx (p:=2) w2<|zk rfl;have ib:∀e3 e4 e5,yA zo [sT<|zi n m J e Ds S,sT<|zm J,sT<|zc<|zz n,e3,e4,e5]=some ((zz n).map λx=>(true,D.int x),[sT<|zi n m J e Ds S,sT<|zm J,sT<|zc<|zz n,e3,e4,e5]):=λ_ _ _=>wI (g:=D.int)<|WD.e<|za (i:=2) rfl;have wl:=xB (as:=[sT<|zi n m J e Ds S,sT<|zm J,sT<|zc<|zz n,none,none,none]) (h:=λx=>Ea (sL x,tR J x)) (it:=λx:Int=>(true,D.int x)) (cap:=[none,some 1]) (gg:=gN 0) (fe:=zX<|dC (zX<|dC (fC<|.str "left")<|dC zf dN)<|dC (f2 zh zf zg) dN) (zz n) (ib none none none) (by rw[N3];omega) λx mx=>⟨[sI x,sT<|zm J],rfl,ZP (ZP (WD.e zb)<|WD.e<|za (i:=0) rfl)<|WD.e<|zW (za (i:=1) rfl) (za (i:=0) rfl) (xF A.j<|yu mx).1⟩;have wr:=xB (as:=[sT<|zi n m J e Ds S,sT<|zm J,sT<|zc<|zz n,none,none,none]) (h:=λx=>Ea (sR x,col J x)) (it:=λx:Int=>(true,D.int x)) (cap:=[none,some 1]) (gg:=gN 0) (fe:=zX<|dC (zX<|dC (fC<|.str "right")<|dC zf dN)<|dC (zt (yA zh) [none,some 0] zH zK<|f2 zf zh zg) dN) (zz n) (ib none none none) (by rw[N3];omega) λx mx=>⟨[sI x,sT<|zm J],rfl,by
  have wc:=xB (as:=[sI x,sT<|zm J]) (h:=λr=>D.int<|zD r x) (it:=λr:List Int=>(true,zc r)) (cap:=[none,some 0]) (gg:=gN 0) (fe:=f2 zf zh zg) (fi:=yA zh) J (wI (g:=zc)<|WD.e<|za (i:=1) rfl) (by rw[A.j.1];omega) λr mr=>⟨[sT<|zc r,sI x],rfl,WD.e<|zq (za (i:=0) rfl) (za (i:=1) rfl) (rowAt (A.j.2 r mr)<|yu mx).1 rfl⟩;have ec:(J.map λr=>D.int<|zD r x)=(col J x).map D.int:=by rw[zyB];rfl
  rw[ec]at wc;exact ZP (ZP (WD.e zb)<|WD.e<|za (i:=0) rfl) wc⟩
 have s3:=yr (i:=3) (qr wl wr<|Gk<|by simp only[zzB,zyU];omega)<|zk rfl;have l0:Ows Ea (Gd n m J Ds) ((((zz n).map λx=>Ea (sL x,tR J x))++((zz n).map λx=>Ea (sR x,col J x))).map<|O.lf true) (((zz n).map λx=>(sL x,tR J x))++((zz n).map λx=>(sR x,col J x))):=by
  refine⟨Ri _, ?_,λq mq=>?_, ?_⟩
  . rw[VO];simp only[zyM,zyB];rfl
  . rcases zzM.mp mq with h|h
    . obtain⟨x,mx,rfl⟩:=zxE.mp h;exact⟨(xF A.j<|yu mx).2,.inl ⟨x,yu mx,.inl rfl⟩⟩
    . obtain⟨x,mx,rfl⟩:=zxE.mp h;exact⟨uN A<|yu mx,.inl ⟨x,yu mx,.inr rfl⟩⟩
  . simp only[zzB,zzJ]
 obtain⟨as',hf,os,l,e4,e5,rfl,ho,hl,hx,hd⟩:=yG (g:=gT 2<|yC Zs<|yC (gN 5) vI) (f:=pZ)
  (λi as=>∃(os:List O) (l:List (D×List Int)) (e4 e5:Option O),as=[sT<|zi n m J e Ds S,sT<|zm J,sT<|zc<|zz n,sN os,e4,e5]/\Ows Ea (Gd n m J Ds) os l/\l.length<=16+6*i/\(∀x,zL n x->(sL x,tR J x) ∈ l/\(sR x,col J x) ∈ l)/\∀p ∈ Ds.take i,∀c,zL m c->(sD p.1 c,tR p.2 c) ∈ l)
  ((Ds.map zO).map λd=>(true,d)) 0 [sT<|zi n m J e Ds S,sT<|zm J,sT<|zc<|zz n,sN<|(((zz n).map λx=>Ea (sL x,tR J x))++((zz n).map λx=>Ea (sR x,col J x))).map<|O.lf true,none,none] (λi x as hx' hI=>by
    obtain⟨os,l,e4,e5,rfl,ho,hl,hx,hd⟩:=hI;rw[zyB,zzI]at hx';obtain⟨p,hp,rfl⟩:=zzX.mp hx';have hi:i<Ds.length:=(zzG.mp hp).1;have mp:=zyA hp;rw[zyY]at hl hd ⊢;obtain⟨ps,k,x1,x2,x3,x4⟩:=Oo A mp (B:=sT<|zi n m J e Ds S) (C:=sT<|zm J) (L:=sT<|zc<|zz n) ho (by omega);refine⟨[sT<|zi n m J e Ds S,sT<|zm J,sT<|zc<|zz n,sN os,sT<|.str p.1,sT<|zm p.2],rfl,_,x1,_,_,_,_,rfl,x2,by rw[zzJ,x3];omega,λx hxx=>?_,λq mq c hc=>?_⟩
    . exact⟨zzP _ (hx x hxx).1,zzP _ (hx x hxx).2⟩
    . rw[List.take_succ,hp]at mq
      rcases zzM.mp mq with h|h
      . exact zzP _<|hd q h c hc
      . have:q=p:=by simpa using h
        subst this;exact zzL _<|x4 c hc)
  ⟨_,_,none,none,rfl,l0,by simp only[zzB,zzJ,zyU];omega,λx hx=>⟨zzP _<|zxE.mpr ⟨x,Z2 hx,rfl⟩,zzL _<|zxE.mpr ⟨x,Z2 hx,rfl⟩⟩,λp hp=>by simp at hp⟩
 rw[zzB,zzB,zyY]at hl hd;rw[List.take_length]at hd;exact⟨l,by omega,ho.al,hx,hd,yx rfl<|zd s1<|zd s2<|zd s3<|zd (yQ (TU<|zW (za (i:=0) rfl) zb rfl) hf)<|Ows.retB (i:=3) rfl ho⟩
end
section
variable{α:Type}[DecidableEq α]{toK:α->D}
def pos:List α->α->Nat
 | [],_=>0
 |x::K,a=>if x=a then 0 else pos K a+1
theorem EW{a b:α}:∀{K:List α},a ∈ K->b ∈ K->pos K a=pos K b->a=b
 | [],h,_,_=>nomatch h
 |x::K,ha,hb,e=>by
  unfold pos at e
  by_cases h1:x=a
  . rw[if_pos h1]at e
    by_cases h2:x=b
    . rw[<-h1,<-h2]
    . rw[if_neg h2]at e;omega
  . rw[if_neg h1]at e
    by_cases h2:x=b
    . rw[if_pos h2]at e;omega
    . rw[if_neg h2]at e;exact EW ((zzC.mp ha).resolve_left λz=>h1 z.symm) ((zzC.mp hb).resolve_left λz=>h2 z.symm) (by omega)
def LK(hf:∀a,zR (toK a)=false)(u:Bool)(l:List α):kids u (l.map toK)=l.map λa=>(u,toK a):=by
 unfold kids;rw[zyB];refine List.map_congr_left λa _=>?_;show(zR (toK a)||u,toK a)=_;rw[hf];rfl
theorem OR(u:Bool):∀ds:List D,O.toDs (ds.map<|O.lf u)=ds
 | []=>rfl
 |d::ds=>congrArg (d :: ·)<|OR u ds
def xM(K:List α):List α->List α
 | []=>K
 |a::l=>if a ∈ K then xM K l else xM (K++[a]) l
theorem Fy{a:α}:∀(l K:List α),a ∈ K->a ∈ xM K l
 | [],_,h=>h
 |b::l,K,h=>by
  unfold xM
  by_cases e:b ∈ K
  . rw[if_pos e];exact Fy l K h
  . rw[if_neg e];exact Fy l _<|zzP _ h
theorem Um{a:α}:∀(l K:List α),a ∈ l->a ∈ xM K l
 | [],_,h=>nomatch h
 |b::l,K,h=>by
  unfold xM
  by_cases e:b ∈ K
  . rw[if_pos e]
    rcases zzC.mp h with rfl|h
    . exact Fy l K e
    . exact Um l K h
  . rw[if_neg e]
    rcases zzC.mp h with rfl|h
    . exact Fy l _<|zzL _<|zzR.mpr rfl
    . exact Um l _ h
theorem Pc:∀(l K:List α),(xM K l).length<=K.length+l.length
 | [],K=>zzN _
 |b::l,K=>by
  unfold xM;show _<=K.length+(l.length+1)
  by_cases e:b ∈ K
  . rw[if_pos e];have:=Pc l K;omega
  . rw[if_neg e];have:=Pc l<|K++[b];rw[zzJ]at this;have:(xM (K++[b]) l).length<=K.length+1+l.length:=this;omega
variable{kk:α->List Key}
def JY(hk:∀a b,kk a=kk b->a=b)(a:α)(K:List α):TQ (K.map kk) (kk a)=decide (a ∈ K):=by
 unfold TQ;rw[List.any_map]
 by_cases h:a ∈ K
 . rw[zyO h,List.any_eq_true];exact⟨a,h,by simp⟩
 . rw[zyG h,List.any_eq_false];intro b mb z;exact h<|hk b a (by simpa using z) ▸ mb
theorem SI(hk:∀a b,kk a=kk b->a=b){a:α}:∀(K:List α) (s:Nat),a ∈ K->PM (K.map kk) ((List.range' s K.length).map λi:Nat=>D.int (i:Int)) (kk a)=some (.int ((s+pos K a:Nat):Int))
 | [],_,h=>nomatch h
 |x::K,s,h=>by
  unfold PM pos;rw[zzT,List.range'_succ,zyS,zyS,List.zip_cons_cons]
  by_cases e:x=a
  . rw[if_pos e,List.find?_cons_of_pos<|by simp[e]];rfl
  . rw[if_neg e,List.find?_cons_of_neg (by simpa using λz:kk x=kk a=>e<|hk x a z)];have:=SI hk K (s+1)<|(zzC.mp h).resolve_left λz=>e z.symm;unfold PM at this;rw[this,show s+1+pos K a=s+(pos K a+1) by omega]
abbrev nD(kk:α->List Key)(K:List α):Option O:=some<|.nd (.dt<|K.map kk) ((List.range' 0 K.length).map λi:Nat=>yt (i:Int))
theorem KO:∀(k s:Nat),O.toDs ((List.range' s k).map λi:Nat=>yt (i:Int))=(List.range' s k).map λi:Nat=>D.int (i:Int)
 |0,_=>rfl
 |k+1,s=>by
  rw[List.range'_succ,zyS,zyS];exact congrArg (D.int (s:Int) :: ·)<|KO k<|s+1
abbrev qP:SF:=BB 1<|dC zo<|dC (fP y6 xN) dN
def CM(hk:∀a b,kk a=kk b->a=b)(ht:∀a,QY (toK a)=some (kk a)){s0:Option O}{u:Bool}{K:List α}{a:α}(hl:K.length<=1000):qP [s0,nD kk K,some<|.lf u<|toK a]=some (.nx [s0,if a ∈ K then nD kk K else nD kk<|K++[a],some<|.lf u<|toK a]):=by
 have ln:fP y6 xN [s0,nD kk K,some<|.lf u<|toK a]=some (.ow<|yt (K.length:Nat),[s0,nD kk K,some<|.lf u<|toK a]):=by
  have h1:([s0,nD kk K,some<|.lf u<|toK a]:AS)[1]? = some (some<|.nd (.dt<|K.map kk) ((List.range' 0 K.length).map λi:Nat=>yt (i:Int))):=rfl;have e2:(O.nd (.dt<|K.map kk) ((List.range' 0 K.length).map λi:Nat=>yt (i:Int))).toD = .dt (K.map kk) ((List.range' 0 K.length).map λi:Nat=>D.int (i:Int)):=congrArg (D.dt<|K.map kk)<|KO _ _;have e:views [s0,nD kk K,some<|.lf u<|toK a] [.bo 1]=some ([.dt (K.map kk) ((List.range' 0 K.length).map λi:Nat=>D.int (i:Int))],meet (O.nd (.dt<|K.map kk) ((List.range' 0 K.length).map λi:Nat=>yt (i:Int))).kl<|some true):=by
   show(RV.view _<|.bo 1).bind _=_;rw[Yy h1,e2];rfl
  unfold fP y6 aC;rw[W_ h1];simp only[zyL,aN,RV.frz,e];show(some<|R0.im<|.int (((List.range' 0 K.length).map λi:Nat=>D.int (i:Int)).length:Nat)).bind _=_;rw[zzB,List.length_range'];rfl
 have fr:dC zo (dC (fP y6 xN) dN) [s0,nD kk K,some<|.lf u<|toK a]=some ([.lf u<|toK a,yt (K.length:Nat)],[s0,nD kk K,some<|.lf u<|toK a]):=zP (za (i:=2) rfl)<|zP ln rfl;unfold qP BB;show((dC zo (dC (fP y6 xN) dN) [s0,nD kk K,some<|.lf u<|toK a]).bind _)=_;rw[fr];show((QY<|toK a).bind λk=>if(K.map kk).length<sizeLine then some (Out.nx (if TQ (K.map kk) k=true then[s0,nD kk K,some<|.lf u<|toK a]else[s0,some<|.nd (.dt<|K.map kk++[k])<|((List.range' 0 K.length).map λi:Nat=>yt (i:Int))++[yt (K.length:Nat)],some<|.lf u<|toK a]))else none)=_;rw[ht];show(if(K.map kk).length<sizeLine then some (Out.nx (if TQ (K.map kk) (kk a)=true then[s0,nD kk K,some<|.lf u<|toK a]else[s0,some<|.nd (.dt<|K.map kk++[kk a])<|((List.range' 0 K.length).map λi:Nat=>yt (i:Int))++[yt (K.length:Nat)],some<|.lf u<|toK a]))else none)=_;rw[if_pos (by rw[zzB];exact Nat.lt_of_le_of_lt hl<|by decide),JY hk]
 by_cases h:a ∈ K
 . rw[zyO h,if_pos rfl,if_pos h]
 . rw[zyG h,if_neg (by decide),if_neg h];unfold nD;rw[zyM,zzJ];show _=some (Out.nx [s0,some<|.nd (.dt<|K.map kk++[kk a]) ((List.range' 0<|K.length+1).map λi:Nat=>yt (i:Int)),some<|.lf u<|toK a]);rw[List.range'_concat,zyM];simp
theorem Lz(hk:∀a b,kk a=kk b->a=b)(ht:∀a,QY (toK a)=some (kk a)){s0:Option O}{u:Bool}:∀(l K:List α) (e2:Option O),K.length+l.length<=1000->∃e2',forL (gN 2) qP (l.map λa=>(u,toK a)) [s0,nD kk K,e2]=some (.nx [s0,nD kk<|xM K l,e2'])
 | [],K,e2,_=>⟨e2,rfl⟩
 |a::l,K,e2,hl=>by
  have hl:K.length+(l.length+1)<=1000:=hl;have h1:=CM (toK:=toK) hk ht (s0:=s0) (u:=u) (K:=K) (a:=a) (by omega);unfold xM
  by_cases e:a ∈ K
  . rw[if_pos e]at h1 ⊢;obtain⟨e2',hf⟩:=Lz hk ht (s0:=s0) (u:=u) l K (some<|.lf u<|toK a) (by omega);exact⟨e2',wK (as1:=[s0,nD kk K,some<|.lf u<|toK a]) rfl h1 hf⟩
  . rw[if_neg e]at h1 ⊢;obtain⟨e2',hf⟩:=Lz hk ht (s0:=s0) (u:=u) l (K++[a]) (some<|.lf u<|toK a) (by rw[zzJ];show K.length+1+_<=_;omega);exact⟨e2',wK (as1:=[s0,nD kk K,some<|.lf u<|toK a]) rfl h1 hf⟩
end
section
variable{α:Type}{as as1 as2:AS}{fi:IF}{gg:GF}{tt:TF}{fe a b:EF}{it:α->Z_}{k:α->O}{p:α->Bool}{cap:List (Option Nat)}{o:O}{x y z:D}{os:List O}{i j:Nat}{fr:DF}
theorem Ku{as0:AS}:∀(l:List α),(∀q ∈ l,∃as1,gg (it q) as0=some as1/\WT tt as1 (p q)/\(p q=true->fe as1=some (.ow<|k q,as1)/\(k q).str=true))->xv gg tt fe as0 (l.map it)=some ((l.filter p).map k)
 | [],_=>rfl
 |q::l,H=>by
  obtain⟨as1,h1,h2,h3⟩:=H q<|zzF ..;have ih:=Ku l λq m=>H q<|zzD _ m;unfold WT at h2;show(gg (it q) as0).bind _=_;rw[h1];show(tt as1).bind _=_;rw[h2];show(if p q=true then _ else _)=_;cases e:p q with
  |false=>rw[if_neg (by decide),List.filter_cons_of_neg<|by rw[e];decide];exact ih
  |true=>
   obtain⟨h4,h5⟩:=h3 e;rw[if_pos rfl,List.filter_cons_of_pos e];show(fe as1).bind _=_;rw[h4];show(if(k q).str=true then _ else _)=_;rw[if_pos h5,ih];rfl
def Ol(l:List α)(h1:fi as=some (l.map it,as))(hl:l.length<=1000000)(H:∀q ∈ l,∃as1,gg (it q) (wM cap as)=some as1/\WT tt as1 (p q)/\(p q=true->fe as1=some (.ow<|k q,as1)/\(k q).str=true)):zt fi cap gg tt fe as=some (.ow<|.nd .ls<|(l.filter p).map k,as):=by
 unfold zt;rw[h1];show(if(l.map it).length<=sizeLine then _ else _)=_;rw[if_pos (by rw[zzB];exact Gk hl),Ku l H];rfl
def Vi(l:List α)(h1:fi as=some (l.map it,as))(hl:l.length<=1000000)(H:∀q ∈ l,∃as1,gg (it q) (wM cap as)=some as1/\fe as1=some (.ow<|k q,as1)/\(k q).str=true):zt fi cap gg zK fe as=some (.ow<|.nd .ls<|l.map k,as):=by
 have:=Ol (tt:=zK) (p:=λ_=>true) l h1 hl λq m=>by
  obtain⟨as1,a,b⟩:=H q m;exact⟨as1,a,rfl,λ_=>b⟩
 rwa [List.filter_eq_self.mpr λ_ _=>rfl]at this
def TM{g}(ha:WE a as x)(hg:g [(true,x)]=some o):zv (aC a aN) g as=some (.ow o,as):=vU (vY ha zw) (by show g [(zR x||true,x)]=_;rw[zyD];exact hg)
def VB(f:EF)(as:AS)(x:D):Prop:=∃r k,f as=some (r,as)/\r.frz.view as=some (x,k)
def WD.vb{s:Bool}(h:WD a as s x):VB a as x:=⟨_,some s,h,rfl⟩
def VB.sl{k:PF.Kind}(h:as[i]? = some (some<|.nd k os)):VB (fV i) as (O.nd k os).toD:=⟨_,_,W_ h,Yy h⟩
def vD(r:List Int):(yf r).toD=zc r:=congrArg D.lst (yX r).2.2
def VB.row{r:List Int}(h:as[i]? = some (some<|yf r)):VB (fV i) as (zc r):=by rw[<-vD];exact VB.sl h
def Fo{lv:Option Bool}(e:zR z=true):wrap lv (.im z)=some (.ow<|.lf true z):=by
 show(if(zR z||lv.isSome)=true then some (RV.ow<|Nc (lv.getD false) z)else none)=_;rw[e];show some (RV.ow<|O.lf (zR z||lv.getD false) z)=_;rw[e];rfl
def p7{g}(ha:VB a as x)(hb:VB b as y)(hg:g x y=some (.im z))(e:zR z=true):WD (f2 a b g) as true z:=by
 obtain⟨r,k,h1,h2⟩:=ha;obtain⟨q,l,h3,h4⟩:=hb;unfold WD f2;rw[h1];show(b as).bind _=_;rw[h3];show(r.frz.view as).bind _=_;rw[h2];show(q.frz.view as).bind _=_;rw[h4];show(g x y).bind _=_;rw[hg];show(wrap _<|.im z).bind _=_;rw[Fo e];rfl
def t8{g}(ha:VB a as x)(hg:g [x]=some (.im z))(e:zR z=true):WD (fP (aC a aN) g) as true z:=by
 obtain⟨r,k,h1,h2⟩:=ha;have ev:views as [r.frz]=some ([x],meet k<|some true):=by
  show(RV.view as r.frz).bind _=_;rw[h2];rfl
 unfold WD fP aC;rw[h1];show(views as [r.frz]).bind _=_;rw[ev];show(g [x]).bind _=_;rw[hg];show(wrap _<|.im z).bind _=_;rw[Fo e];rfl
def PC(h:as[i]? = some (some o)):FL i as=some (.ow o,as.set i none):=by unfold FL;rw[h]
def ub(h:as[j]? = some (some o))(hi:i<as.length):zy false i (FL j) as=some (.nx<|(as.set j none).set i<|some o):=by
 unfold zy;rw[PC h];show(if i<(as.set j none).length then _ else _)=_;rw[if_pos<|by rw[zzU];exact hi]
def Cq(h:fr as=some (os,as1))(hl:os.length<=sizeLine)(hn:os.all O.isLf=false):zX fr as=some (.ow<|.nd .tp os,as1):=by
 unfold zX;rw[h];show(if os.length<=sizeLine then some (RV.ow<|Zb os,as1)else none)=_;rw[if_pos hl];unfold Zb;rw[hn];rfl
def Kj:dN as=some ([],as):=rfl
def Jx(h:a as=some (.ow o,as1))(hs:o.str=true):yi a as=some (.rt o):=YK h hs
end
section
variable{α:Type}[DecidableEq α]{toK:α->D}{kk:α->List Key}
def Rm(hf:∀a,zR (toK a)=false)(hk:∀a b,kk a=kk b->a=b)(ht:∀a,QY (toK a)=some (kk a))(u:Bool)(l:List α)(hl:l.length<=100):vJ [(u,.lst<|l.map toK)]=some (yf<|l.map λa=>((pos (xM [] l) a:Nat):Int)):=by
 obtain⟨e2,hfor⟩:=Lz (toK:=toK) hk ht (s0:=some<|.lf u<|.lst<|l.map toK) (u:=u) l [] none (by show 0+_<=_;omega);have it1:XA zf [some<|.lf u<|.lst<|l.map toK,nD kk ([]:List α),none]=some (l.map λa=>(u,toK a),[some<|.lf u<|.lst<|l.map toK,nD kk ([]:List α),none]):=by
  show some (kids u<|l.map toK,_)=_;rw[LK hf]
 have it2:yA zf [some<|.lf u<|.lst<|l.map toK,nD kk<|xM [] l,e2]=some (l.map λa=>(u,toK a),[some<|.lf u<|.lst<|l.map toK,nD kk<|xM [] l,e2]):=by
  show some (kids u<|l.map toK,_)=_;rw[LK hf]
 have w:=Vi (as:=[some<|.lf u<|.lst<|l.map toK,nD kk<|xM [] l,e2]) (k:=λa=>yt (pos (xM [] l) a:Nat)) (it:=λa=>(u,toK a)) (cap:=[none,some 1]) (gg:=gN 0) (fe:=f2 zh zf rH) l it2 (by omega) λa ma=>by
  have ec:wM [none,some 1] [some<|.lf u<|.lst<|l.map toK,nD kk<|xM [] l,e2]=[none,some<|.lf false<|.dt ((xM [] l).map kk) ((List.range' 0 (xM [] l).length).map λi:Nat=>D.int (i:Int))]:=by
   show[none,some<|O.lf false<|.dt ((xM [] l).map kk)<|O.toDs ((List.range' 0 (xM [] l).length).map λi:Nat=>yt (i:Int))]=_;rw[KO]
  rw[ec];refine⟨[some<|.lf u<|toK a,some<|.lf false<|.dt ((xM [] l).map kk) ((List.range' 0 (xM [] l).length).map λi:Nat=>D.int (i:Int))],rfl,zq (za (i:=1) rfl) (za (i:=0) rfl) ?_ rfl,rfl⟩;show(QY<|toK a).bind _=_;rw[ht];show B5 (PM ((xM [] l).map kk) ((List.range' 0 (xM [] l).length).map λi:Nat=>D.int (i:Int))<|kk a)=_;rw[SI hk _ 0<|Um l [] ma,zyY];rfl
 rw[show(l.map λa=>yt (pos (xM [] l) a:Nat))=(l.map λa=>((pos (xM [] l) a:Nat):Int)).map yt by rw[zyB];rfl]at w;exact Yj rfl<|zV (as1:=[some<|.lf u<|.lst<|l.map toK,nD kk ([]:List α),none]) (yr (i:=1) rfl<|zk rfl)<|zV (yQ it1 hfor)<|Jx w (yX _).2.1
end
section
variable{ι α β:Type}[DecidableEq α][DecidableEq β]{g:ι->α}{h:ι->β}
def KP(e:ι->ι->Bool)(R:List ι):List ι->List ι
 | []=>R
 |i::is=>if(R.any λr=>e r i)=true then KP e R is else KP e (R++[i]) is
def Br(e:ι->ι->Bool):List ι->ι->Nat
 | [],_=>0
 |r::R,i=>if e r i=true then 0 else Br e R i+1
def Iy(R:List ι)(i:ι):(R.any λr=>decide (g r=g i))=true ↔ g i ∈ R.map g:=by
 rw[List.any_eq_true,zxE];exact⟨λ⟨r,mr,z⟩=>⟨r,mr,by simpa using z⟩,λ⟨r,mr,z⟩=>⟨r,mr,by simpa using z⟩⟩
theorem RI:∀(is R:List ι),xM (R.map g) (is.map g)=(KP (λr i=>decide (g r=g i)) R is).map g
 | [],_=>rfl
 |i::is,R=>by
  rw[zyS];unfold xM KP
  by_cases q:g i ∈ R.map g
  . rw[if_pos q,if_pos<|(Iy R i).mpr q];exact RI is R
  . rw[if_neg q,if_neg λz=>q<|(Iy R i).mp z];have:=RI is<|R++[i];rw[zyM]at this;exact this
theorem LU(i:ι):∀R:List ι,pos (R.map g) (g i)=Br (λr i=>decide (g r=g i)) R i
 | []=>rfl
 |r::R=>by
  rw[zyS];unfold pos Br
  by_cases q:g r=g i
  . rw[if_pos q,if_pos<|by simpa using q]
  . rw[if_neg q,if_neg (by simpa using q),LU i R]
theorem LF{e:ι->ι->Bool}{i:ι}:∀(is R:List ι),i ∈ KP e R is->i ∈ R\/i ∈ is
 | [],_,m=>.inl m
 |j::is,R,m=>by
  unfold KP at m
  split at m
  . exact(LF is R m).imp id λz=>zzD _ z
  . rcases LF is _ m with z|z
    . rcases zzM.mp z with z|z
      . exact .inl z
      . rw[zzR.mp z];exact .inr<|zzF ..
    . exact .inr<|zzD _ z
theorem Su{e e':ι->ι->Bool}{i:ι}:∀{R:List ι},(∀r ∈ R,e r i=e' r i)->(R.any λr=>e r i)=R.any λr=>e' r i
 | [],_=>rfl
 |r::R,H=>by rw[List.any_cons,List.any_cons,H r<|zzF ..,Su λx mx=>H x<|zzD _ mx]
theorem LN{e e':ι->ι->Bool}{P:ι->Prop}(H:∀r i,P r->P i->e r i=e' r i):∀(is R:List ι),(∀i ∈ is,P i)->(∀r ∈ R,P r)->KP e R is=KP e' R is
 | [],_,_,_=>rfl
 |i::is,R,hi,hR=>by
  have pi:=hi i<|zzF ..;have hi':∀j ∈ is,P j:=λj mj=>hi j<|zzD _ mj;unfold KP;rw[Su λr mr=>H r i (hR r mr) pi,LN H is R hi' hR,LN H is (R++[i]) hi' λr mr=>(zzM.mp mr).elim (hR r) λz=>zzR.mp z ▸ pi]
theorem FO{e e':ι->ι->Bool}{i:ι}:∀{R:List ι},(∀r ∈ R,e r i=e' r i)->Br e R i=Br e' R i
 | [],_=>rfl
 |r::R,H=>by
  unfold Br;rw[H r<|zzF ..,FO λx mx=>H x<|zzD _ mx]
def Oe{is:List ι}(H:∀i ∈ is,∀j ∈ is,g i=g j ↔ h i=h j){i:ι}(hi:i ∈ is):pos (xM []<|is.map g) (g i)=pos (xM []<|is.map h) (h i):=by
 have e1:=RI (g:=g) is [];have e2:=RI (g:=h) is [];rw[List.map_nil]at e1 e2;have He:∀r i,r ∈ is->i ∈ is->decide (g r=g i)=decide (h r=h i):=λr i mr mi=>decide_eq_decide.mpr<|H r mr i mi;rw[e1,e2,LU,LU,LN (P:=λi=>i ∈ is) He is [] (λ_ m=>m) (λ_ m=>nomatch m)];exact FO λr mr=>He r i ((LF is [] mr).elim (λz=>nomatch z) id) hi
end
def Yn(S:SS)(v:Int):List Bool:=S.map λp=>decide (v ∈ p.2)
theorem Ho(v:Int):∀xs:List Int,AN (.int v) (zc xs)=some (decide (v ∈ xs))
 | []=>rfl
 |x::xs=>by
  have ih:anyF (λy=>xq 50 y<|.int v) (xs.map D.int)=some (decide (v ∈ xs)):=Ho v xs;show(some<|x==v).bind (λb=>(anyF (λy=>xq 50 y<|.int v)<|xs.map D.int).bind λc=>some (b||c))=_;rw[ih];show some ((x==v)||decide (v ∈ xs))=_
  by_cases h:x=v
  . subst h;simp
  . have h':¬v=x:=λz=>h z.symm;simp[h,h']
def Fb{a b:EF}{as:AS}{v:Int}{xs:List Int}(ha:WD a as true (.int v))(hb:WD b as true (zc xs)):WD (f2 a b<|zB .In) as true (.bl<|decide (v ∈ xs)):=
 zq ha hb (by show(AN (.int v)<|zc xs).bind _=_;rw[Ho];rfl) rfl
def Y2{n:Nat}{g:Int->Int}{v:Int}(hv:zL n v):zD ((zz n).map g) v=g v:=by
 unfold zD;have h0:=hv.1;have h1:=hv.2;rw[zzI,zzI,List.getElem?_range (show v.toNat<n by omega)];show g ((v.toNat:Nat):Int)=g v;rw[show((v.toNat:Nat):Int)=v by omega]
section
variable{n m:Nat}{J:TZ}{e:Int}{Ds:DZ}{S:SS}{v:Int}{Rs:TZ}
def Mg(sl:S.length<=10):RE (YL [(true,zi n m J e Ds S),(true,.int v)]) (.tup<|(Yn S v).map D.bl):=by
 have w:=xB (as:=[sT<|zi n m J e Ds S,sI v]) (h:=λp:Str×List Int=>D.bl<|decide (v ∈ p.2)) (it:=λp=>(true,ye p)) (cap:=[none,none,some 1]) (gg:=gT 2<|yC zH<|yC (gN 1) vI) (fe:=f2 zo zh<|zB .In) (fi:=yA<|f2 zf VX zg) S (wI (g:=ye)<|WD.e<|zW (za (i:=0) rfl) zb rfl) (by omega) λp mp=>⟨[sT<|.str p.1,sT<|zc p.2,sI v],rfl,WD.e<|Fb (za (i:=2) rfl)<|za (i:=1) rfl⟩;refine yx rfl<|yy<|R_ w ?_;show some (R0.im<|.tup<|S.map λp=>D.bl<|decide (v ∈ p.2))=some (R0.im<|.tup<|(S.map λp=>decide (v ∈ p.2)).map D.bl);rw[zyB];rfl
abbrev Ee(S:SS)(Rs:TZ)(k:Nat)(u v:Int):Prop:=PP.Ek (Yn S) zD (λr=>r ∈ Rs) k u v
structure Nb(n:Nat)(S:SS)(Rs:TZ)(k:Nat)(r:List Int):Prop where
 ln:r.length=n
 eq:∀u v,zL n u->zL n v->(zD r u=zD r v ↔ Ee S Rs k u v)
 cn:∀{β:Type}[DecidableEq β] (h:Int->β),(∀i ∈ zz n,∀j ∈ zz n,h i=h j ↔ Ee S Rs k i j)->r=(zz n).map λa=>((pos (xM []<|(zz n).map h) (h a):Nat):Int)
def Nb.mk'{k:Nat}{α:Type}[DecidableEq α]{g:Int->α}(H:∀i ∈ zz n,∀j ∈ zz n,g i=g j ↔ Ee S Rs k i j):Nb n S Rs k ((zz n).map λa=>((pos (xM []<|(zz n).map g) (g a):Nat):Int)):=by
 refine⟨by simp,λu v hu hv=>?_,λ{β} _ h hh=>?_⟩
 . rw[Y2 hu,Y2 hv];rw[<-H u (Z2 hu) v (Z2 hv)];exact⟨λz=>EW (Um _ _<|List.mem_map_of_mem<|Z2 hu) (Um _ _<|List.mem_map_of_mem<|Z2 hv)<|Int.ofNat_inj.mp z,λz=>by rw[z]⟩
 . refine List.map_congr_left λa ma=>?_;rw[Oe (g:=g) (h:=h) (λi mi j mj=>(H i mi j mj).trans (hh i mi j mj).symm) ma]
def Nb.same{k:Nat}{r r':List Int}(h:Nb n S Rs k r)(h':Nb n S Rs (k+1) r')(s:PP.St (Yn S) zD (λr=>r ∈ Rs) n k):r'=r:=by
 have hk:∀i ∈ zz n,∀j ∈ zz n,zD r i=zD r j ↔ Ee S Rs k i j:=λi mi j mj=>h.eq i j (yu mi)<|yu mj;have hk':∀i ∈ zz n,∀j ∈ zz n,zD r i=zD r j ↔ Ee S Rs (k+1) i j:=λi mi j mj=>(hk i mi j mj).trans ⟨λz=>by
  have a:=yu mi;have b:=yu mj;have:=s i.toNat j.toNat (by have:=a.1;have:=a.2;omega) (by have:=b.1;have:=b.2;omega);rw[show((i.toNat:Nat):Int)=i by have:=a.1;omega,show((j.toNat:Nat):Int)=j by have:=b.1;omega]at this;exact this z,λz=>z.mono<|zyX _⟩
 exact(h'.cn _ hk').trans (h.cn _ hk).symm
def Nb.st{k:Nat}{r:List Int}(h:Nb n S Rs k r)(h':Nb n S Rs (k+1) r):PP.St (Yn S) zD (λr=>r ∈ Rs) n k:=λu v hu hv z=>(h'.eq u v ⟨by omega,by omega⟩ ⟨by omega,by omega⟩).mp<|(h.eq u v ⟨by omega,by omega⟩ ⟨by omega,by omega⟩).mpr z
abbrev key(Rs:TZ)(r:List Int)(v:Int):List Int:=Rs.map λq=>zD r<|zD q v
def HR{k:Nat}{r:List Int}(hR:∀q ∈ Rs,Row n q)(h:Nb n S Rs k r):∀i ∈ zz n,∀j ∈ zz n,key (zz n::Rs) r i=key (zz n::Rs) r j ↔ Ee S Rs (k+1) i j:=λi mi j mj=>by
 have hi:=yu mi;have hj:=yu mj;have ei:∀{x:Int},zL n x->zD (zz n) x=x:=λ{x} hx=>by
  have:=Y2 (g:=λa=>a) hx
  rwa [List.map_id']at this
 unfold Ee;rw[PP.Ek.succ];constructor
 . intro z;obtain⟨z1,z2⟩:=List.cons.inj z;have z1:zD r (zD (zz n) i)=zD r (zD (zz n) j):=z1;rw[ei hi,ei hj]at z1;refine⟨(h.eq i j hi hj).mp z1,λq hq=>?_⟩;exact(h.eq _ _ (rowAt (hR q hq) hi).2 (rowAt (hR q hq) hj).2).mp<|List.map_inj_left.mp z2 q hq
 . intro⟨z1,z2⟩;show zD r (zD (zz n) i)::_=zD r (zD (zz n) j)::_;rw[ei hi,ei hj,(h.eq i j hi hj).mpr z1];exact congrArg _<|List.map_congr_left λq hq=>(h.eq _ _ (rowAt (hR q hq) hi).2 (rowAt (hR q hq) hj).2).mpr<|z2 q hq
end
abbrev bK(l:List Bool):D:=.tup<|l.map D.bl
abbrev iK(l:List Int):D:=.tup<|l.map D.int
abbrev kB(l:List Bool):List Key:=l.map λb=>.inl (if b=true then 1 else 0)
abbrev kI(l:List Int):List Key:=l.map Sum.inl
theorem Hz:∀a b:List Bool,kB a=kB b->a=b
 | [],[],_=>rfl
 | [],_::_,h=>by simp at h
 |_::_,[],h=>by simp at h
 |x::a,y::b,h=>by
  obtain⟨h1,h2⟩:=List.cons.inj (show Sum.inl _::kB a=Sum.inl _::kB b from h);have h1:=Sum.inl.inj h1;rw[Hz a b h2];cases x<;>cases y<;>first|rfl|simp at h1
theorem SC:∀a b:List Int,kI a=kI b->a=b
 | [],[],_=>rfl
 | [],_::_,h=>by simp at h
 |_::_,[],h=>by simp at h
 |x::a,y::b,h=>by
  obtain⟨h1,h2⟩:=List.cons.inj (show Sum.inl x::kI a=Sum.inl y::kI b from h);rw[SC a b h2,Sum.inl.inj h1]
theorem HX:∀l:List Bool,QY (bK l)=some (kB l)
 | []=>rfl
 |b::l=>by
  have ih:UU (l.map D.bl)=some (kB l):=HX l;show(UU<|l.map D.bl).bind _=_;rw[ih];rfl
theorem Sa:∀l:List Int,QY (iK l)=some (kI l)
 | []=>rfl
 |b::l=>by
  have ih:UU (l.map D.int)=some (kI l):=Sa l;show(UU<|l.map D.int).bind _=_;rw[ih];rfl
def Zr{n:Nat}{r:List Int}{v:Int}(hr:r.length=n)(hv:zL n v):zg (zc r) (.int v)=some (.im<|.int<|zD r v):=by
 have hk:v.toNat<r.length:=by rw[hr];have:=hv.1;have:=hv.2;omega
 have g:=zzE hk;have e:zD r v=r[v.toNat]:=by unfold zD;rw[g];rfl
 rw[e];have:=xk (xs:=r.map D.int) (j:=v.toNat) (v:=D.int r[v.toNat]) (by rw[zzI,g];rfl);rw[show((v.toNat:Nat):Int)=v by have:=hv.1;omega]at this;show B5 (atI _ _)=_;rw[this];rfl
section
variable{n m:Nat}{J:TZ}{e:Int}{Ds:DZ}{S:SS}{Rs:TZ}
abbrev C5(A:D)(n:Nat)(Rs:TZ)(e3 e4:Option O):AS:=[sT A,sT<|zc<|zz n,sT<|zm (zz n::Rs),e3,e4]
abbrev pL:EF:=zv (aC (zt (yA zh) [none,some 3,some 2] zH zK<|fP (aC (zt (yA zo) [none,some 1,some 0] zH zK<|f2 zh (f2 zf zo zg) zg) aN) tupP) aN) vJ
def Hn{A:D}{k:Nat}{r:List Int}{e4:Option O}(n8:n<=8)(hl:Rs.length<=60)(hR:∀q ∈ Rs,Row n q)(h:Nb n S Rs k r):∃r',Nb n S Rs (k+1) r'/\pL (C5 A n Rs (some<|yf r) e4)=some (.ow<|yf r',C5 A n Rs (some<|yf r) e4):=by
 refine⟨_,Nb.mk'<|HR hR h, ?_⟩;have ec:wM [none,some 3,some 2] (C5 A n Rs (some<|yf r) e4)=[none,some<|.lf false<|zc r,sT<|zm (zz n::Rs)]:=by
  show[none,some<|O.lf false (yf r).toD,_]=_;rw[vD];rfl
 have w:=xB (as:=C5 A n Rs (some<|yf r) e4) (h:=λa=>iK<|key (zz n::Rs) r a) (it:=λx:Int=>(true,D.int x)) (cap:=[none,some 3,some 2]) (gg:=gN 0) (fe:=fP (aC (zt (yA zo) [none,some 1,some 0] zH zK<|f2 zh (f2 zf zo zg) zg) aN) tupP) (zz n) (wI (g:=D.int) (f:=fV 1)<|WD.e<|za (i:=1) rfl) (by rw[zzB,zyU];omega) λa ma=>by
  have ha:=yu ma;rw[ec];have wi:=xB (as:=[sI a,some<|.lf false<|zc r,sT<|zm (zz n::Rs)]) (h:=λq=>D.int<|zD r<|zD q a) (it:=λq:List Int=>(true,zc q)) (cap:=[none,some 1,some 0]) (gg:=gN 0) (fe:=f2 zh (f2 zf zo zg) zg) (zz n::Rs) (wI (g:=zc) (f:=fV 2)<|WD.e<|za (i:=2) rfl) (by rw[zzT];omega) λq mq=>by
   have hq:Row n q:=by
    rcases zzC.mp mq with rfl|mq
    . exact⟨by rw[zzB,zyU],λx mx=>yu mx⟩
    . exact hR q mq
   exact⟨[sT<|zc q,some<|.lf false<|zc r,sI a],rfl,WD.e<|zq (za (i:=1) rfl) (zq (za (i:=0) rfl) (za (i:=2) rfl) (rowAt hq ha).1 rfl) (Zr h.ln (rowAt hq ha).2) rfl⟩
  refine⟨[sI a,some<|.lf false<|zc r,sT<|zm (zz n::Rs)],rfl, ?_⟩;have:=R_ (g:=tupP) (z:=.tup<|(zz n::Rs).map λq=>D.int<|zD r<|zD q a) wi rfl;rw[show iK (key (zz n::Rs) r a) = .tup ((zz n::Rs).map λq=>D.int<|zD r<|zD q a) by show D.tup (((zz n::Rs).map λq=>zD r<|zD q a).map D.int)=_;rw[zyB];rfl];exact this
 rw[show((zz n).map λa=>iK<|key (zz n::Rs) r a)=((zz n).map<|key (zz n::Rs) r).map iK from(zyB (f:=key (zz n::Rs) r) (g:=iK)).symm]at w;have nm:=Rm (toK:=iK) (kk:=kI) (λ_=>rfl) SC Sa true ((zz n).map<|key (zz n::Rs) r) (by simp only[zzB,zyU];omega);rw[zyB (f:=key (zz n::Rs) r) (g:=λa=>((pos (xM []<|(zz n).map<|key (zz n::Rs) r) a:Nat):Int))]at nm;exact TM w nm
end
theorem Lk:∀a b:List Int,xq 60 (zc a) (zc b)=some (decide (a=b))
 | [],[]=>rfl
 | [],_::_=>rfl
 |_::_,[]=>rfl
 |x::a,y::b=>by
  have ih:GR (xq 59) (a.map D.int) (b.map D.int)=some (decide (a=b)):=Lk a b;show(some<|x==y).bind (λc=>(GR (xq 59) (a.map D.int)<|b.map D.int).bind λd=>some<|c&&d)=_;rw[ih];show some ((x==y)&&decide (a=b))=_
  by_cases h1:x=y<;>by_cases h2:a=b<;>simp[h1,h2]
def pR{as:AS}{a b:EF}{x y:D}{c:Bool}(ha:VB a as x)(hb:VB b as y)(h:xq 60 x y=some c):WD (f2 a b<|zB .NotEq) as true (.bl<|!c):=p7 ha hb (by show(xq 60 x y).bind _=_;rw[h];rfl) rfl
section
variable{n m:Nat}{J:TZ}{e:Int}{Ds:DZ}{S:SS}{Rs:TZ}
abbrev pW:TF:=fT<|f2 yc zA<|zB .NotEq
abbrev oh:SF:=(zp (zy false 3<|FL 4)<|zy false 4 pL)
def ue{A:D}(n8:n<=8)(hl:Rs.length<=60)(hR:∀q ∈ Rs,Row n q){k0:Nat}(s0:PP.St (Yn S) zD (λr=>r ∈ Rs) n k0):∀(d k f:Nat) (r r':List Int),k+d=k0->d<f->Nb n S Rs k r->Nb n S Rs (k+1) r'->∃k1 r1 e4,B4 pW oh f (C5 A n Rs (some<|yf r)<|some<|yf r')=some (.nx<|C5 A n Rs (some<|yf r1) e4)/\Nb n S Rs k1 r1/\PP.St (Yn S) zD (λr=>r ∈ Rs) n k1:=by
 intro d
 induction d with
 |zero=>
  intro k f r r' hk hf h h';have hk:k=k0:=hk;subst hk;have e:=h.same h' s0;subst e;obtain⟨f,rfl⟩:∃g,f=g+1:=⟨f-1,by omega⟩;have t:WT pW (C5 A n Rs (some<|yf r')<|some<|yf r') false:=zE (pR (c:=true) (VB.row (i:=4) rfl) (VB.row (i:=3) rfl)<|by rw[Lk,zyO rfl]) rfl;exact⟨k,r',_,M9 t,h,s0⟩
 |succ d ih=>
  intro k f r r' hk hf h h';obtain⟨f,rfl⟩:∃g,f=g+1:=⟨f-1,by omega⟩;have tw:=pR (as:=C5 A n Rs (some<|yf r)<|some<|yf r') (VB.row (i:=4) rfl) (VB.row (i:=3) rfl)<|Lk r' r
  by_cases q:r'=r
  . subst q;rw[zyO rfl]at tw;exact⟨k,r',_,M9<|zE tw rfl,h,h.st h'⟩
  . rw[zyG q]at tw;obtain⟨r2,h2,w2⟩:=Hn (A:=A) (e4:=none) n8 hl hR h';obtain⟨k1,r1,e4,hw,n1,n2⟩:=ih (k+1) f r' r2 (by omega) (by omega) h' h2;exact⟨k1,r1,e4,Sk (zE tw rfl) (zV (ub (i:=3) (j:=4) rfl<|zk rfl)<|yr (i:=4) w2<|zk rfl) hw,n1,n2⟩
def S5(A:Alg n m J e Ds)(hS:Sg n S):∃(Rs:TZ) (k:Nat) (r:List Int),(∀q ∈ Rs,Row n q)/\(∀q ∈ Rs,Fm n m J Ds q)/\(∀x,zL n x->tR J x ∈ Rs/\col J x ∈ Rs)/\(∀p ∈ Ds,∀c,zL m c->tR p.2 c ∈ Rs)/\Nb n S Rs k r/\PP.St (Yn S) zD (λr=>r ∈ Rs) n k/\wx [(true,zi n m J e Ds S)]=some (yf r):=by
 have n1:=A.n1;have n8:=A.n8;obtain⟨sts,sl,hg,hx,hd,hst⟩:=Ln (S:=S) A;have hR:∀q ∈ sts.map (·.2),Row n q:=λq mq=>by
  obtain⟨p,mp,rfl⟩:=zxE.mp mq;exact(hg p mp).1
 have hFm:∀q ∈ sts.map (·.2),Fm n m J Ds q:=λq mq=>by
  obtain⟨p,mp,rfl⟩:=zxE.mp mq;exact(hg p mp).2
 obtain⟨k0,hk0,st0⟩:=PP.stable (H:=Yn S) (f:=zD) (P:=λr=>r ∈ sts.map (·.2)) n1;have w1:WE (fP (aC (f2 zf zN zg) aN) CG) [sT<|zi n m J e Ds S,none,none,none,none] (zc<|zz n):=⟨_,Lh (x:=.int n) (g:=CG) (zs:=(zz n).map D.int) (WD.e<|zW (za (i:=0) rfl) zb rfl) (by
  show(if(0:Int)<=n/\(n:Int)<=100000 then _ else _)=_;rw[if_pos ⟨by omega,by omega⟩,zyB];rfl),Ri _,congrArg D.lst<|VO _⟩
 have s1:=xx (p:=1) w1<|zk rfl;have wr:=xB (as:=[sT<|zi n m J e Ds S,sT<|zc<|zz n,none,none,none]) (h:=λq:D×List Int=>zc q.2) (it:=λq=>(true,Ea q)) (cap:=[none,none]) (gg:=gT 2<|yC zH<|yC (gN 1) vI) (fe:=fV 1) (fi:=yA<|zv y8 ZD) sts (wI (g:=Ea)<|xX (WD.e<|za (i:=0) rfl) hst) (by omega) λq _=>⟨[sT q.1,sT<|zc q.2],by
  have k:kids true [q.1,zc q.2]=[(true,q.1),(true,zc q.2)]:=by
   show[(zR q.1||true,q.1),(zR (zc q.2)||true,zc q.2)]=_;rw[zyD,zyD]
  unfold gT;simp only[Ea,k];rfl,WD.e<|za (i:=1) rfl⟩
 have s2:=xx (p:=2) (OL (xy (x:=.lst [zc<|zz n]) (os:=[.lf true<|zc<|zz n]) (ze (za (as:=[sT<|zi n m J e Ds S,sT<|zc<|zz n,none,none,none]) (i:=1) rfl) zG) (wd rfl) rfl rfl) wr<|add_lists<|Gk (by rw[zzB];show 1+_<=_;omega))<|zk rfl;rw[show[zc<|zz n]++sts.map (λq:D×List Int=>zc q.2)=(zz n::sts.map (·.2)).map zc by rw[zyS,zyB];rfl]at s2;have wk:=xB (as:=C5 (zi n m J e Ds S) n (sts.map (·.2)) none none) (h:=λv=>bK<|Yn S v) (it:=λx:Int=>(true,D.int x)) (cap:=[none,some 0]) (gg:=gN 0) (fe:=zv (aC zh y8) YL) (fi:=yA zh) (zz n) (wI (g:=D.int) (f:=fV 1)<|WD.e<|za (i:=1) rfl) (by rw[zzB,zyU];omega) λv _=>⟨[sI v,sT<|zi n m J e Ds S],rfl,Z7 (WD.e<|za (i:=1) rfl) (WD.e<|za (i:=0) rfl)<|Mg hS.1⟩;rw[show((zz n).map λv=>bK<|Yn S v)=((zz n).map<|Yn S).map bK from(zyB (f:=Yn S) (g:=bK)).symm]at wk;have nm:=Rm (toK:=bK) (kk:=kB) (λ_=>rfl) Hz HX true ((zz n).map<|Yn S) (by simp only[zzB,zyU];omega);rw[zyB (f:=Yn S) (g:=λa=>((pos (xM []<|(zz n).map<|Yn S) a:Nat):Int))]at nm;have N0:Nb n S (sts.map (·.2)) 0 ((zz n).map λa=>((pos (xM []<|(zz n).map<|Yn S) (Yn S a):Nat):Int)):=Nb.mk' (g:=Yn S) λi _ j _=>(PP.Ek.zero (H:=Yn S) (f:=zD) (P:=λr=>r ∈ sts.map (·.2))).symm;have s3:=yr (i:=3) (TM wk nm)<|zk rfl;obtain⟨r1,h1,w4⟩:=Hn (A:=zi n m J e Ds S) (e4:=none) n8 (by rw[zzB];exact sl) hR N0;have s4:=yr (i:=4) w4<|zk rfl;obtain⟨k1,r,e4,hw,hb,hs⟩:=ue (A:=zi n m J e Ds S) n8 (by rw[zzB];exact sl) hR st0 k0 0 10000 _ r1 (zyY _) (by omega) N0 h1;refine⟨sts.map (·.2),k1,r,hR,hFm,λx hxx=>⟨zxE.mpr ⟨_,(hx x hxx).1,rfl⟩,zxE.mpr ⟨_,(hx x hxx).2,rfl⟩⟩,λp mp c hc=>zxE.mpr ⟨_,hd p mp c hc,rfl⟩,hb,hs,Yj rfl<|zV s1<|zV s2<|zV s3<|zV s4<|zV hw<|L8 (i:=3) rfl (yX _).2.1⟩
end
section
variable{α:Type}[DecidableEq α]
theorem K8:∀(l K:List α),K.Nodup->(xM K l).Nodup
 | [],_,h=>h
 |a::l,K,h=>by
  unfold xM
  by_cases e:a ∈ K
  . rw[if_pos e];exact K8 l K h
  . rw[if_neg e];exact K8 l _<|zxF.mpr ⟨h,by simp,λx mx y my=>by rw[zzR.mp my];exact λz=>e<|z ▸ mx⟩
theorem K7{b:α}:∀(l K:List α),b ∈ xM K l->b ∈ K\/b ∈ l
 | [],_,h=>.inl h
 |a::l,K,h=>by
  unfold xM at h
  split at h
  . exact(K7 l K h).imp id λz=>zzD _ z
  . rcases K7 l _ h with z|z
    . rcases zzM.mp z with z|z
      . exact .inl z
      . rw[zzR.mp z];exact .inr<|zzF ..
    . exact .inr<|zzD _ z
theorem H_{a:α}:∀{K:List α},a ∈ K->pos K a<K.length
 | [],h=>nomatch h
 |x::K,h=>by
  unfold pos
  by_cases e:x=a
  . rw[if_pos e];exact Nat.succ_pos _
  . rw[if_neg e];exact Nat.succ_lt_succ<|H_<|(zzC.mp h).resolve_left λz=>e z.symm
theorem Oh:∀{K:List α}{k:Nat}{a:α},K.Nodup->K[k]? = some a->pos K a=k
 | [],_,_,_,h=>by simp at h
 |x::K,0,a,_,h=>by
  have:x=a:=zzZ h;unfold pos;rw[if_pos this]
 |x::K,k+1,a,nd,h=>by
  have h1:K[k]? = some a:=h;have:x≠a:=λz=>(zzW.mp nd).1<|z ▸ zyA h1;unfold pos;rw[if_neg this,Oh (zzW.mp nd).2 h1]
end
section
variable{n:Nat}{S:SS}{Rs:TZ}{k:Nat}{r:List Int}
def Nb.cnt(h:Nb n S Rs k r):∃c:Nat,c<=n/\(∀v,zL n v->zL c (zD r v))/\∀x,zL c x->∃v,zL n v/\zD r v=x:=by
 have e:=h.cn (zD r) λi mi j mj=>h.eq i j (yu mi)<|yu mj;have at_:∀v,zL n v->zD r v=((pos (xM []<|(zz n).map<|zD r) (zD r v):Nat):Int):=λv hv=>by
  conv=>lhs;rw[e]
  rw[Y2 hv]
 refine⟨(xM []<|(zz n).map<|zD r).length, ?_,λv hv=>?_,λx hx=>?_⟩
 . have:=Pc ((zz n).map<|zD r) [];rw[zzB,zzB,zyU]at this;simpa using this
 . have:=H_<|Um ((zz n).map<|zD r) []<|List.mem_map_of_mem (f:=zD r)<|Z2 hv;rw[at_ v hv];exact⟨by omega,by omega⟩
 . have h0:=hx.1;have h1:=hx.2;have g:=zzE (l:=xM []<|(zz n).map<|zD r) (i:=x.toNat) (by omega);have p:=Oh (K8 ((zz n).map<|zD r) [] zyJ) g
   rcases K7 _ _ (zyA g)with z|z
   . exact nomatch z
   . obtain⟨v,mv,ev⟩:=zxE.mp z;refine⟨v,yu mv, ?_⟩;rw[at_ v<|yu mv,ev,p];omega
def Nb.row(h:Nb n S Rs k r)(s:PP.St (Yn S) zD (λr=>r ∈ Rs) n k)(hR:∀q ∈ Rs,Row n q){q:List Int}(hq:q ∈ Rs){u v:Int}(hu:zL n u)(hv:zL n v)(e:zD r u=zD r v):zD r (zD q u)=zD r (zD q v):=by
 have z:=(h.eq u v hu hv).mp e;have z1:Ee S Rs (k+1) u v:=by
  have:=s u.toNat v.toNat (by have:=hu.1;have:=hu.2;omega) (by have:=hv.1;have:=hv.2;omega);rw[show((u.toNat:Nat):Int)=u by have:=hu.1;omega,show((v.toNat:Nat):Int)=v by have:=hv.1;omega]at this;exact this z
 exact(h.eq _ _ (rowAt (hR q hq) hu).2 (rowAt (hR q hq) hv).2).mpr<|(PP.Ek.succ.mp z1).2 q hq
def Nb.sgn(h:Nb n S Rs k r){u v:Int}(hu:zL n u)(hv:zL n v)(e:zD r u=zD r v):Yn S u=Yn S v:=PP.Ek.zero.mp<|((h.eq u v hu hv).mp e).mono<|Nat.zero_le _
end
theorem N6:∀(l K:List Int),l.foldl step_dedup K=xM K l
 | [],_=>rfl
 |a::l,K=>by
  show l.foldl step_dedup (step_dedup K a)=xM K (a::l);unfold xM;rw[N6 l];unfold step_dedup;have e:(K.any (· == a))=decide (a ∈ K):=by
   by_cases h:a ∈ K
   . rw[zyO h,List.any_eq_true];exact⟨a,h,by simp⟩
   . rw[zyG h,List.any_eq_false];exact λx mx z=>h (by rw[<-eq_of_beq z];exact mx)
  rw[e]
  by_cases h:a ∈ K
  . rw[zyO h,if_pos rfl,if_pos h]
  . rw[zyG h,if_neg (by decide),if_neg h]
def J8{r:List Int}{c:Nat}(h1:∀x ∈ r,zL c x)(h2:∀x,zL c x->x ∈ r):U2 r=c:=by
 unfold U2;rw[N6];have nd:=K8 r [] zyJ;have s1:xM [] r ⊆ zz c:=λx mx=>Z2<|h1 x<|(K7 r [] mx).elim (λz=>nomatch z) id;have s2:zz c ⊆ xM [] r:=λx mx=>Um r []<|h2 x<|yu mx;have nr:(zz c).Nodup:=List.Pairwise.map _ (λa b h z=>h<|Int.ofNat_inj.mp z) List.nodup_range;have l1:=nd.length_le_of_subset s1;have l2:=nr.length_le_of_subset s2;rw[zzB,zyU]at l1 l2;omega
def ZN(r:List Int)(b:Int):Int:=(((Vl (λy=>xq 50 y<|.int b)<|r.map D.int).getD 0:Nat):Int)
def Q7{n:Nat}{r:List Int}{b:Int}(hl:r.length=n)(hb:b ∈ r):zL n (ZN r b)/\zD r (ZN r b)=b/\Vl (λy=>xq 50 y<|.int b) (r.map D.int)=some (ZN r b).toNat:=by
 obtain⟨j,j1,j2,j3⟩:=P4 hb;have e:ZN r b=(j:Int):=by unfold ZN;rw[j3];rfl
 rw[e,zyI];refine⟨⟨by omega,by omega⟩, ?_,j3⟩;unfold zD;rw[zyI,j2];rfl
section
variable{n:Nat}{S:SS}{Rs:TZ}{k c:Nat}{r:List Int}
def BX{as:AS}(n8:n<=8)(hl:r.length=n)(h1:∀v,zL n v->zL c (zD r v))(h2:∀x,zL c x->∃v,zL n v/\zD r v=x)(cn:c<=n)(hs:as[1]? = some (some<|yf r))(hc:wM [none,some 1] as=[none,some<|.lf false<|zc r]):
 WE (zt (z_ (aC (fP y6 t9) aN) ya) [none,some 1] zH zK<|wN .lst zh y8 wF) as (zc<|(zz c).map<|ZN r)/\∀x,zL c x->zL n (ZN r x)/\zD r (ZN r x)=x:=by
 have mem:∀x,zL c x->x ∈ r:=λx hx=>by
  obtain⟨v,hv,e⟩:=h2 x hx;have hk:v.toNat<r.length:=by have:=hv.1;have:=hv.2;omega
  have:zD r v=r[v.toNat]:=by unfold zD;rw[zzE hk];rfl
  rw[<-e,this];exact zxA hk
 have inn:∀x ∈ r,zL c x:=λx mx=>by
  obtain⟨i,hi⟩:=List.mem_iff_getElem?.mp mx;have hk:=(zzG.mp hi).1;have:=h1 (i:Int) ⟨by omega,by omega⟩;unfold zD at this;rw[zyI,hi]at this;exact this
 have dc:=J8 inn mem;have ls:WD (fP y6 t9) as true (.int (c:Nat)):=by
  refine t8 (VB.row hs) ?_ rfl;show((vZ<|r.map D.int).bind λss=>if ss.length<=1000 then some (R0.im<|.int<|U2 ss)else none)=_;have:vZ (r.map D.int)=some r:=by
   clear dc inn mem h1 h2 hl hs hc
   induction r with
   |nil=>rfl
   |cons x r ih=>show(vZ<|r.map D.int).bind _=_;rw[ih];rfl
  rw[this];show(if r.length<=1000 then _ else _)=_;rw[if_pos (by omega),dc]
 have w:=xB (as:=as) (h:=λx=>D.int<|ZN r x) (it:=λx:Int=>(true,D.int x)) (cap:=[none,some 1]) (gg:=gN 0) (fe:=wN .lst zh y8 wF) (fi:=z_ (aC (fP y6 t9) aN) ya) (zz c) (Xu (zj ls zw)<|by omega) (by rw[zzB,zyU];omega) λx mx=>by
  rw[hc];obtain⟨a1,a2,a3⟩:=Q7 hl<|mem x<|yu mx;refine⟨[sI x,some<|.lf false<|zc r],rfl,WD.e<|Wf (za (i:=1) rfl) rfl (zj (za (i:=0) rfl) zw) ?_ rfl⟩;show(Vl _<|r.map D.int).bind _=_;rw[a3];show(if(r.map D.int).length<=1000 then some (R0.im<|.int ((ZN r x).toNat:Nat))else none)=_;rw[if_pos (by rw[zzB];omega),show(((ZN r x).toNat:Nat):Int)=ZN r x by have:=a1.1;omega]
 rw[show((zz c).map λx=>D.int<|ZN r x)=((zz c).map<|ZN r).map D.int from(zyB (f:=ZN r) (g:=D.int)).symm]at w;exact⟨w,λx hx=>⟨(Q7 hl<|mem x hx).1,(Q7 hl<|mem x hx).2.1⟩⟩
end
section
variable{n m c:Nat}{J:TZ}{e:Int}{Ds:DZ}{S:SS}{r:List Int}
abbrev cH(r:List Int)(c:Nat):List Int:=(zz c).map<|ZN r
abbrev lJ(J:TZ)(r:List Int)(c:Nat):TZ:=(cH r c).map λa=>(cH r c).map λb=>zD r<|yw J a b
abbrev lD(Ds:DZ)(r:List Int)(c:Nat):DZ:=Ds.map λp=>(p.1,p.2.map λq=>(cH r c).map λa=>zD r<|zD q a)
abbrev lS(S:SS)(r:List Int)(c:Nat):SS:=S.map λp=>(p.1,((cH r c).filter λa=>decide (a ∈ p.2)).map<|zD r)
abbrev wQ(p:Str×List Int):O:=.nd .tp [.lf true<|.str p.1,yf p.2]
abbrev Zm{α:Type}(f:α->O)(l:List α):O:=.nd .ls<|l.map f
abbrev yF(n m:Nat)(J:TZ)(e:Int)(Ds:DZ)(S:SS)(r:List Int):O:=.nd .tp [.nd .tp [yt n,yt m,xW J,yt e,Zm yB Ds,Zm wQ S],yf r]
theorem Lb{α:Type}{f:α->O}(h:∀x,(f x).str=true):∀l:List α,O.strs (l.map f)=true
 | []=>rfl
 |x::l=>by show((f x).str&&O.strs (l.map f))=true;rw[h x,Lb h l];rfl
def Sj(r:List Int):(yf r).str=true:=(yX r).2.1
def tabS(T:TZ):(xW T).str=true:=Lb Sj T
def Jo(p:Str×TZ):(yB p).str=true:=by show(true&&((xW p.2).str&&true))=true;rw[tabS];rfl
def IM(p:Str×List Int):(wQ p).str=true:=by show(true&&((yf p.2).str&&true))=true;rw[Sj];rfl
def Mx{n m:Nat}{J:TZ}{e:Int}{Ds:DZ}{S:SS}{r:List Int}:(yF n m J e Ds S r).str=true:=by
 show((true&&(true&&((xW J).str&&(true&&(O.strs (Ds.map yB)&&(O.strs (S.map wQ)&&true))))))&&((yf r).str&&true))=true;rw[tabS,Lb Jo,Lb IM,Sj];rfl
def Bm(A:Alg n m J e Ds)(L:LawA n m J e Ds)(hS:Sg n S)(hn:wx [(true,zi n m J e Ds S)]=some (yf r))(hl:r.length=n)(h1:∀v,zL n v->zL c (zD r v))(h2:∀x,zL c x->∃v,zL n v/\zD r v=x)(cn:c<=n):xh [(true,zi n m J e Ds S)]=some (yF c m (lJ J r c) (zD r e) (lD Ds r c) (lS S r c) r):=by
 have n8:=A.n8;have m6:=A.m6;have dl:=A.dl;have s0:ym (zv y8 xt) [sT<|zi n m J e Ds S,none,none,none,none,none]=some (.nx [sT<|zi n m J e Ds S,none,none,none,none,none]):=by
  have:zv y8 xt [sT<|zi n m J e Ds S,none,none,none,none,none]=some (.ow<|.lf true .non,[sT<|zi n m J e Ds S,none,none,none,none,none]):=vU (zj (za (i:=0) rfl) zw)<|HP A L;unfold ym;rw[this];rfl
 have s1:=yr (i:=1) (as:=[sT<|zi n m J e Ds S,none,none,none,none,none]) (TM (WD.e<|za (i:=0) rfl) hn)<|zk rfl;have ec:∀f:O->AS,f (.lf false (yf r).toD)=f (.lf false<|zc r):=λf=>by rw[vD]
 obtain⟨w2,hc⟩:=BX (as:=[sT<|zi n m J e Ds S,some<|yf r,none,none,none,none]) n8 hl h1 h2 cn rfl<|ec λo=>[none,some o];have s2:=xx (p:=2) w2<|zk rfl;have cl:(cH r c).length=c:=by rw[zzB,zzB,zyU]
 have ci:∀a ∈ cH r c,zL n a:=λa ma=>by
  obtain⟨x,mx,rfl⟩:=zxE.mp ma;exact(hc x<|yu mx).1
 have he:zL n e:=⟨A.e0,A.en⟩;have w3:zt (yA zo) [none,some 1,some 2,some 0] zH zK (zt (yA zo) [none,some 1,some 0,some 3] zH zK<|f2 zh (f2 (f2 (f2 zA yh zg) zo zg) zf zg) zg) [sT<|zi n m J e Ds S,some<|yf r,sT<|zc<|cH r c,none,none,none]=some (.ow<|xW<|lJ J r c,[sT<|zi n m J e Ds S,some<|yf r,sT<|zc<|cH r c,none,none,none]):=by
  have w:=Vi (as:=[sT<|zi n m J e Ds S,some<|yf r,sT<|zc<|cH r c,none,none,none]) (k:=λa=>yf<|(cH r c).map λb=>zD r<|yw J a b) (it:=λx:Int=>(true,D.int x)) (cap:=[none,some 1,some 2,some 0]) (gg:=gN 0) (fe:=zt (yA zo) [none,some 1,some 0,some 3] zH zK<|f2 zh (f2 (f2 (f2 zA yh zg) zo zg) zf zg) zg) (cH r c) (wI (g:=D.int) (f:=fV 2)<|WD.e<|za (i:=2) rfl) (by rw[cl];omega) λa ma=>by
   have wi:=Vi (as:=[sI a,some<|.lf false<|zc r,sT<|zc<|cH r c,sT<|zi n m J e Ds S]) (k:=λb=>yt<|zD r<|yw J a b) (it:=λx:Int=>(true,D.int x)) (cap:=[none,some 1,some 0,some 3]) (gg:=gN 0) (fe:=f2 zh (f2 (f2 (f2 zA yh zg) zo zg) zf zg) zg) (cH r c) (wI (g:=D.int) (f:=fV 2)<|WD.e<|za (i:=2) rfl) (by rw[cl];omega) λb mb=>
    ⟨[sI b,some<|.lf false<|zc r,sI a,sT<|zi n m J e Ds S],rfl,zq (za (i:=1) rfl) (wD A.j (ci a ma) (ci b mb) (zW (za (i:=3) rfl) zb rfl) (za (i:=2) rfl)<|za (i:=0) rfl) (Zr hl<|ZA A.j (ci a ma)<|ci b mb) rfl,rfl⟩
   rw[show((cH r c).map λb=>yt<|zD r<|yw J a b)=((cH r c).map λb=>zD r<|yw J a b).map yt from(zyB (f:=λb=>zD r<|yw J a b) (g:=yt)).symm]at wi;refine⟨_, ?_,wi,Sj _⟩;show zH _ [none,some<|O.lf false (yf r).toD,sT<|zc<|cH r c,sT<|zi n m J e Ds S]=_;rw[vD];rfl
  rw[show((cH r c).map λa=>yf<|(cH r c).map λb=>zD r<|yw J a b)=(lJ J r c).map yf from(zyB (f:=λa=>(cH r c).map λb=>zD r<|yw J a b) (g:=yf)).symm]at w;exact w
 have s3:=yr (i:=3) w3<|zk rfl;have w4:zt (yA<|f2 zf y9 zg) [none,none,some 1,some 2] (gT 2<|yC zH<|yC (gN 1) vI) zK (zX<|dC zf<|dC (zt (yA zh) [none,some 2,some 3] zH zK<|zt (yA zo) [none,some 1,some 0] zH zK<|f2 zh (f2 zo zf zg) zg) dN) [sT<|zi n m J e Ds S,some<|yf r,sT<|zc<|cH r c,some<|xW<|lJ J r c,none,none]=some (.ow<|Zm yB<|lD Ds r c,[sT<|zi n m J e Ds S,some<|yf r,sT<|zc<|cH r c,some<|xW<|lJ J r c,none,none]):=by
  have w:=Vi (as:=[sT<|zi n m J e Ds S,some<|yf r,sT<|zc<|cH r c,some<|xW<|lJ J r c,none,none]) (k:=λp=>yB (p.1,p.2.map λq=>(cH r c).map λa=>zD r<|zD q a)) (it:=λp:Str×TZ=>(true,zO p)) (cap:=[none,none,some 1,some 2]) (gg:=gT 2<|yC zH<|yC (gN 1) vI) (fe:=zX<|dC zf<|dC (zt (yA zh) [none,some 2,some 3] zH zK<|zt (yA zo) [none,some 1,some 0] zH zK<|f2 zh (f2 zo zf zg) zg) dN) (fi:=yA<|f2 zf y9 zg) Ds (wI (g:=zO)<|WD.e<|zW (za (i:=0) rfl) zb rfl) (by omega) λp mp=>by
   have hT:=A.ds p mp;have wi:=Vi (as:=[sT<|.str p.1,sT<|zm p.2,some<|.lf false<|zc r,sT<|zc<|cH r c]) (k:=λq=>yf<|(cH r c).map λa=>zD r<|zD q a) (it:=λq:List Int=>(true,zc q)) (cap:=[none,some 2,some 3]) (gg:=gN 0) (fe:=zt (yA zo) [none,some 1,some 0] zH zK<|f2 zh (f2 zo zf zg) zg) p.2 (wI (g:=zc) (f:=fV 1)<|WD.e<|za (i:=1) rfl) (by rw[hT.1];omega) λq mq=>by
    have wj:=Vi (as:=[sT<|zc q,some<|.lf false<|zc r,sT<|zc<|cH r c]) (k:=λa=>yt<|zD r<|zD q a) (it:=λx:Int=>(true,D.int x)) (cap:=[none,some 1,some 0]) (gg:=gN 0) (fe:=f2 zh (f2 zo zf zg) zg) (cH r c) (wI (g:=D.int) (f:=fV 2)<|WD.e<|za (i:=2) rfl) (by rw[cl];omega) λa ma=>
     ⟨[sI a,some<|.lf false<|zc r,sT<|zc q],rfl,zq (za (i:=1) rfl) (zq (za (i:=2) rfl) (za (i:=0) rfl) (rowAt (hT.2 q mq)<|ci a ma).1 rfl) (Zr hl (rowAt (hT.2 q mq)<|ci a ma).2) rfl,rfl⟩
    rw[show((cH r c).map λa=>yt<|zD r<|zD q a)=((cH r c).map λa=>zD r<|zD q a).map yt from(zyB (f:=λa=>zD r<|zD q a) (g:=yt)).symm]at wj;exact⟨_,rfl,wj,Sj _⟩
   rw[show(p.2.map λq=>yf<|(cH r c).map λa=>zD r<|zD q a)=(p.2.map λq=>(cH r c).map λa=>zD r<|zD q a).map yf from(zyB (f:=λq=>(cH r c).map λa=>zD r<|zD q a) (g:=yf)).symm]at wi;refine⟨[sT<|.str p.1,sT<|zm p.2,some<|.lf false<|zc r,sT<|zc<|cH r c], ?_,Cq (zP (za (i:=0) rfl)<|zP wi Kj) (wd rfl) rfl,Jo _⟩;show gT 2 (yC zH<|yC (gN 1) vI) _ [none,none,some<|O.lf false (yf r).toD,sT<|zc<|cH r c]=_;rw[vD];rfl
  rw[show(Ds.map λp=>yB (p.1,p.2.map λq=>(cH r c).map λa=>zD r<|zD q a))=(lD Ds r c).map yB from(zyB (f:=λp:Str×TZ=>(p.1,p.2.map λq=>(cH r c).map λa=>zD r<|zD q a)) (g:=yB)).symm]at w;exact w
 have s4:=yr (i:=4) w4<|zk rfl;have w5:zt (yA<|f2 zf VX zg) [none,none,some 1,some 2] (gT 2<|yC zH<|yC (gN 1) vI) zK (zX<|dC zf<|dC (zt (yA zA) [none,some 2,some 1] zH (fT<|f2 zf zo<|zB .In)<|f2 zh zf zg) dN) [sT<|zi n m J e Ds S,some<|yf r,sT<|zc<|cH r c,some<|xW<|lJ J r c,some<|Zm yB<|lD Ds r c,none]=some (.ow<|Zm wQ<|lS S r c,[sT<|zi n m J e Ds S,some<|yf r,sT<|zc<|cH r c,some<|xW<|lJ J r c,some<|Zm yB<|lD Ds r c,none]):=by
  have w:=Vi (as:=[sT<|zi n m J e Ds S,some<|yf r,sT<|zc<|cH r c,some<|xW<|lJ J r c,some<|Zm yB<|lD Ds r c,none]) (k:=λp=>wQ (p.1,((cH r c).filter λa=>decide (a ∈ p.2)).map<|zD r)) (it:=λp:Str×List Int=>(true,ye p)) (cap:=[none,none,some 1,some 2]) (gg:=gT 2<|yC zH<|yC (gN 1) vI) (fe:=zX<|dC zf<|dC (zt (yA zA) [none,some 2,some 1] zH (fT<|f2 zf zo<|zB .In)<|f2 zh zf zg) dN) (fi:=yA<|f2 zf VX zg) S (wI (g:=ye)<|WD.e<|zW (za (i:=0) rfl) zb rfl) (by have:=hS.1;omega) λp mp=>by
   have wj:=Ol (as:=[sT<|.str p.1,sT<|zc p.2,some<|.lf false<|zc r,sT<|zc<|cH r c]) (k:=λa=>yt<|zD r a) (p:=λa=>decide (a ∈ p.2)) (it:=λx:Int=>(true,D.int x)) (cap:=[none,some 2,some 1]) (gg:=gN 0) (tt:=fT<|f2 zf zo<|zB .In) (fe:=f2 zh zf zg) (cH r c) (wI (g:=D.int) (f:=fV 3)<|WD.e<|za (i:=3) rfl) (by rw[cl];omega) λa ma=>
    ⟨[sI a,some<|.lf false<|zc r,sT<|zc p.2],rfl,zE (Fb (za (i:=0) rfl)<|za (i:=2) rfl) rfl,λ_=>⟨zq (za (i:=1) rfl) (za (i:=0) rfl) (Zr hl<|ci a ma) rfl,rfl⟩⟩
   rw[show(((cH r c).filter λa=>decide (a ∈ p.2)).map λa=>yt<|zD r a)=(((cH r c).filter λa=>decide (a ∈ p.2)).map<|zD r).map yt from(zyB (f:=zD r) (g:=yt)).symm]at wj;refine⟨[sT<|.str p.1,sT<|zc p.2,some<|.lf false<|zc r,sT<|zc<|cH r c], ?_,Cq (zP (za (i:=0) rfl)<|zP wj Kj) (wd rfl) rfl,IM _⟩;show gT 2 (yC zH<|yC (gN 1) vI) _ [none,none,some<|O.lf false (yf r).toD,sT<|zc<|cH r c]=_;rw[vD];rfl
  rw[show(S.map λp=>wQ (p.1,((cH r c).filter λa=>decide (a ∈ p.2)).map<|zD r))=(lS S r c).map wQ from(zyB (f:=λp:Str×List Int=>(p.1,((cH r c).filter λa=>decide (a ∈ p.2)).map<|zD r)) (g:=wQ)).symm]at w;exact w
 have s5:=yr (i:=5) w5<|zk rfl;have wl:WD (fP ZC xN) [sT<|zi n m J e Ds S,some<|yf r,sT<|zc<|cH r c,some<|xW<|lJ J r c,some<|Zm yB<|lD Ds r c,some<|Zm wQ<|lS S r c] true (.int (c:Nat)):=by
  have:=y_ (g:=xN) (x:=.int (((cH r c).map D.int).length:Nat)) (zj (za (as:=[sT<|zi n m J e Ds S,some<|yf r,sT<|zc<|cH r c,some<|xW<|lJ J r c,some<|Zm yB<|lD Ds r c,some<|Zm wQ<|lS S r c]) (i:=2) rfl) zw) rfl rfl;rw[zzB,cl]at this;exact this
 have t1:zX (dC (fP ZC xN)<|dC (f2 zf zF zg)<|dC (FL 3)<|dC (f2 zh (f2 zf xU zg) zg)<|dC (FL 4)<|dC (FL 5) dN) [sT<|zi n m J e Ds S,some<|yf r,sT<|zc<|cH r c,some<|xW<|lJ J r c,some<|Zm yB<|lD Ds r c,some<|Zm wQ<|lS S r c]=some (.ow<|.nd .tp [yt c,yt m,xW<|lJ J r c,yt<|zD r e,Zm yB<|lD Ds r c,Zm wQ<|lS S r c],[sT<|zi n m J e Ds S,some<|yf r,sT<|zc<|cH r c,none,none,none]):=Cq (zP wl<|zP (zq (za (i:=0) rfl) zb rfl rfl)<|zP (PC (i:=3) rfl)<|zP (p7 (VB.row (i:=1) rfl) (WD.vb<|zq (za (i:=0) rfl) zb rfl rfl) (Zr hl he) rfl)<|zP (PC (i:=4) rfl)<|zP (PC (i:=5) rfl) Kj) (wd rfl) rfl;exact Yj rfl<|zV s0<|zV s1<|zV s2<|zV s3<|zV s4<|zV s5<|Jx (Cq (zP t1<|zP (PC (i:=1) rfl) Kj) (wd rfl) rfl) Mx
end
section
variable{n m c:Nat}{J:TZ}{e:Int}{Ds:DZ}{S:SS}{r:List Int}
def LS{a b:Int}(hJ:Tab n n J)(ha:zL n a):zD (col J b) a=yw J a b:=by
 have h0:=ha.1;have h1:=ha.2;have hk:a.toNat<J.length:=by rw[hJ.1];omega
 show((J.map λr=>zD r b)[a.toNat]?).getD 0=zD ((J[a.toNat]?).getD []) b;rw[zzI,zzE hk];rfl
def IZ{g:Int->Int}{x:Int}(hx:zL c x):zD ((cH r c).map g) x=g (ZN r x):=by
 rw[zyB];exact Y2 (g:=λx=>g<|ZN r x) hx
def ud{x y:Int}(hx:zL c x)(hy:zL c y):yw (lJ J r c) x y=zD r (yw J (ZN r x)<|ZN r y):=by
 have h0:=hx.1;have h1:=hx.2;have e1:(lJ J r c)[x.toNat]? = some ((cH r c).map λb=>zD r<|yw J (ZN r x) b):=by
  rw[zzI,zzI,zzI,List.getElem?_range (show x.toNat<c by omega)];show some ((cH r c).map λb=>zD r<|yw J (ZN r ((x.toNat:Nat):Int)) b)=_;rw[show((x.toNat:Nat):Int)=x by omega]
 show zD (((lJ J r c)[x.toNat]?).getD []) y=_;rw[e1];exact IZ hy
abbrev lT(T:TZ)(r:List Int)(c:Nat):TZ:=T.map λq=>(cH r c).map λa=>zD r<|zD q a
def tO{T:TZ}{i x:Int}(hT:Tab m n T)(hi:zL m i)(hx:zL c x):yw (lT T r c) i x=zD r (yw T i<|ZN r x):=by
 have h0:=hi.1;have h1:=hi.2;have hk:i.toNat<T.length:=by rw[hT.1];omega
 show zD (((T.map λq=>(cH r c).map λa=>zD r<|zD q a)[i.toNat]?).getD []) x=zD r (zD ((T[i.toNat]?).getD [])<|ZN r x);rw[zzI,zzE hk];exact IZ (g:=λa=>zD r<|zD T[i.toNat] a) hx
abbrev lV(V:List Int)(r:List Int)(c:Nat):List Int:=((cH r c).filter λa=>decide (a ∈ V)).map<|zD r
structure Ct(n m c:Nat)(J:TZ)(e:Int)(Ds:DZ)(S:SS)(r:List Int):Prop where
 al:Alg c m (lJ J r c) (zD r e) (lD Ds r c)
 cn:c<=n
 ln:r.length=n
 i1:∀v,zL n v->zL c (zD r v)
 ix:∀x,zL c x->zL n (ZN r x)/\zD r (ZN r x)=x
 jc:∀a b,zL n a->zL n b->yw (lJ J r c) (zD r a) (zD r b)=zD r (yw J a b)
 dc:∀p ∈ Ds,∀i a,zL m i->zL n a->yw (lT p.2 r c) i (zD r a)=zD r (yw p.2 i a)
 sc:∀p ∈ S,∀a,zL n a->(zD r a ∈ lV p.2 r c ↔ a ∈ p.2)
structure Cg(n m:Nat)(J:TZ)(Ds:DZ)(S:SS)(r:List Int)(Rs:TZ)(k:Nat):Prop where
 R:∀q ∈ Rs,Row n q
 F:∀q ∈ Rs,Fm n m J Ds q
 x:∀x,zL n x->tR J x ∈ Rs/\col J x ∈ Rs
 d:∀p ∈ Ds,∀c,zL m c->tR p.2 c ∈ Rs
 nb:Nb n S Rs k r
 st:PP.St (Yn S) zD (λr=>r ∈ Rs) n k
def Sy(A:Alg n m J e Ds)(L:LawA n m J e Ds)(hS:Sg n S):∃(c:Nat) (r:List Int) (Rs:TZ) (k:Nat),Ct n m c J e Ds S r/\Cg n m J Ds S r Rs k/\xh [(true,zi n m J e Ds S)]=some (yF c m (lJ J r c) (zD r e) (lD Ds r c) (lS S r c) r):=by
 obtain⟨Rs,k,r,hR,hFm,hx,hd,nb,st,hn⟩:=S5 A hS;obtain⟨c,cn,h1,h2⟩:=nb.cnt;have n1:=A.n1;have n8:=A.n8;have he:zL n e:=⟨A.e0,A.en⟩;have hl:=nb.ln;have ix:∀x,zL c x->zL n (ZN r x)/\zD r (ZN r x)=x:=λx hx=>by
  obtain⟨v,hv,ev⟩:=h2 x hx;have hk:v.toNat<r.length:=by have:=hv.1;have:=hv.2;omega
  have e1:zD r v=r[v.toNat]:=by unfold zD;rw[zzE hk];rfl
  have mx:x ∈ r:=by rw[<-ev,e1];exact zxA hk
  exact⟨(Q7 hl mx).1,(Q7 hl mx).2.1⟩
 have cl:(cH r c).length=c:=by rw[zzB,zzB,zyU]
 have ci:∀a ∈ cH r c,zL n a:=λa ma=>by
  obtain⟨x,mx,rfl⟩:=zxE.mp ma;exact(ix x<|yu mx).1
 have rw_:∀g:Int->Int,(∀a,zL n a->zL n (g a))->Row c ((cH r c).map λa=>zD r<|g a):=λg hg=>⟨by rw[zzB,cl],λy my=>by
  obtain⟨a,ma,rfl⟩:=zxE.mp my;exact h1 _<|hg a<|ci a ma⟩
 have ie:=h1 e he;have c1:1<=c:=by have:=ie.1;have:=ie.2;omega
 refine⟨c,r,Rs,k,⟨⟨c1,by omega,A.m1,A.m6,⟨by rw[zzB,cl],λq mq=>?_⟩,ie.1,ie.2,by rw[zzB];exact A.dl,λp mp=>?_, ?_⟩,cn,hl,h1,ix,λa b ha hb=>?_,λp mp i a hi ha=>?_,λp mp a ha=>?_⟩,⟨hR,hFm,hx,hd,nb,st⟩,Bm A L hS hn hl h1 h2 cn⟩
 . obtain⟨a,ma,rfl⟩:=zxE.mp mq;exact rw_ (yw J a) λb hb=>ZA A.j (ci a ma) hb
 . obtain⟨q,mq,rfl⟩:=zxE.mp mp;have hT:=A.ds q mq;refine⟨by rw[zzB];exact hT.1,λt mt=>?_⟩;obtain⟨s,ms,rfl⟩:=zxE.mp mt;exact rw_ (zD s) λb hb=>(rowAt (hT.2 s ms) hb).2
 . rw[zyB];exact A.nd
 . obtain⟨ia,ea⟩:=ix _<|h1 a ha;obtain⟨ib,eb⟩:=ix _<|h1 b hb;rw[ud (h1 a ha)<|h1 b hb];have q1:=nb.row st hR (hx _ ib).2 ia ha ea;rw[LS A.j ia,LS A.j ha]at q1;have q2:=nb.row st hR (hx _ ha).1 ib hb eb;exact q1.trans q2
 . obtain⟨ia,ea⟩:=ix _<|h1 a ha;rw[tO (A.ds p mp) hi<|h1 a ha];exact nb.row st hR (hd p mp i hi) ia ha ea
 . have sg:∀u v,zL n u->zL n v->zD r u=zD r v->u ∈ p.2->v ∈ p.2:=λu v hu hv q mu=>by
    have:=List.map_inj_left.mp (nb.sgn hu hv q) p mp;rw[zyO mu]at this;exact of_decide_eq_true this.symm
   obtain⟨ia,ea⟩:=ix _<|h1 a ha;constructor
   . intro z;obtain⟨a',ma,q⟩:=zxE.mp z;obtain⟨m1,m2⟩:=List.mem_filter.mp ma;exact sg a' a (ci a' m1) ha q<|of_decide_eq_true m2
   . intro z;refine zxE.mpr ⟨ZN r<|zD r a,List.mem_filter.mpr ⟨zxE.mpr ⟨_,Z2<|h1 a ha,rfl⟩,zyO<|sg a _ ha ia ea.symm z⟩,ea⟩
end
section
variable{n m c:Nat}{J:TZ}{e:Int}{Ds:DZ}{S:SS}{r:List Int}
def Bi(A:Alg n m J e Ds)(L:LawA n m J e Ds)(K:Ct n m c J e Ds S r):LawA c m (lJ J r c) (zD r e) (lD Ds r c):=by
 have he:zL n e:=⟨A.e0,A.en⟩;have m0:zL m (0:Int):=⟨Int.le_refl _,by have:=A.m1;omega⟩;refine⟨⟨λa b ha hb=>ZA K.al.j ha hb,K.i1 e he,λx hx=>?_,λx hx=>?_,λx y z hx hy hz=>?_⟩,λp' mp'=>?_⟩
 . obtain⟨ia,ea⟩:=K.ix x hx;rw[<-ea,K.jc e _ he ia,L.lj.ul _ ia]
 . obtain⟨ia,ea⟩:=K.ix x hx;rw[<-ea,K.jc _ e ia he,L.lj.ur _ ia]
 . obtain⟨ia,ea⟩:=K.ix x hx;obtain⟨ib,eb⟩:=K.ix y hy;obtain⟨ic,ec⟩:=K.ix z hz;rw[<-ea,<-eb,<-ec,K.jc _ _ ia ib,K.jc _ _ (ZA A.j ia ib) ic,K.jc _ _ ib ic,K.jc _ _ ia<|ZA A.j ib ic,L.lj.as _ _ _ ia ib ic]
 . obtain⟨p,mp,rfl⟩:=zxE.mp mp';have ld:=L.ld p mp;have hT:=K.al.ds _ mp';refine⟨λi x hi hx=>(rowAt (xF hT hi).2 hx).2, ?_,λx i y j hx hi hy hj=>?_⟩
   . exact(K.dc p mp 0 e m0 he).trans<|congrArg (zD r) ld.em
   . obtain⟨ia,ea⟩:=K.ix x hx;obtain⟨ib,eb⟩:=K.ix y hy;have im:zL m ((i+j)%m):=N9 (by have:=A.m1;omega);show yw (lT p.2 r c) ((i+j)%m) (yw (lJ J r c) x y)=yw (lJ J r c) (yw (lT p.2 r c) i x) (yw (lT p.2 r c) j y);rw[<-ea,<-eb,K.jc _ _ ia ib,K.dc p mp _ _ im<|ZA A.j ia ib,K.dc p mp _ _ hi ia,K.dc p mp _ _ hj ib,K.jc _ _ (ld.cl _ _ hi ia)<|ld.cl _ _ hj ib,ld.dn _ _ _ _ ia hi ib hj]
def IB(K:Ct n m c J e Ds S r)(V:List Int):lV V r c=(zz c).filter λx=>decide (ZN r x ∈ V):=by
 show(((zz c).map<|ZN r).filter λa=>decide (a ∈ V)).map (zD r)=_;rw[List.filter_map,zyB]
 conv=>rhs;rw[<-List.map_id' (List.filter _<|zz c)]
 refine List.map_congr_left λa ma=>?_;exact(K.ix a<|yu (List.mem_filter.mp ma).1).2
end
def sP{k:Nat}{a:Int}:xq (k+1) (.int a) (.int a)=some true:=by show some (a==a)=_;simp
def D4{k:Nat}{a:Str}:xq (k+1) (.str a) (.str a)=some true:=by show some (a==a)=_;simp
def qN{k:Nat}{r:List Int}:xq (k+2) (zc r) (zc r)=some true:=by
 show GR (xq<|k+1) (r.map D.int) (r.map D.int)=_;refine wg λx m=>?_;obtain⟨i,_,rfl⟩:=zxE.mp m;exact sP
def eqT{k:Nat}{T:TZ}:xq (k+3) (zm T) (zm T)=some true:=by
 show GR (xq<|k+2) (T.map zc) (T.map zc)=_;refine wg λx m=>?_;obtain⟨i,_,rfl⟩:=zxE.mp m;exact qN
def qu{k:Nat}{p:Str×TZ}:xq (k+4) (zO p) (zO p)=some true:=by
 show GR (xq<|k+3) [.str p.1,zm p.2] [.str p.1,zm p.2]=_;refine wg λx m=>?_
 rcases zzC.mp m with rfl|m
 . exact D4
 rcases zzC.mp m with rfl|m
 . exact eqT
 . exact nomatch m
def qh{k:Nat}{p:Str×List Int}:xq (k+3) (ye p) (ye p)=some true:=by
 show GR (xq<|k+2) [.str p.1,zc p.2] [.str p.1,zc p.2]=_;refine wg λx m=>?_
 rcases zzC.mp m with rfl|m
 . exact D4
 rcases zzC.mp m with rfl|m
 . exact qN
 . exact nomatch m
def Jy{k:Nat}{Ds:DZ}:xq (k+5) (.lst<|Ds.map zO) (.lst<|Ds.map zO)=some true:=by
 show GR (xq<|k+4) (Ds.map zO) (Ds.map zO)=_;refine wg λx m=>?_;obtain⟨i,_,rfl⟩:=zxE.mp m;exact qu
def uv{k:Nat}{S:SS}:xq (k+4) (.lst<|S.map ye) (.lst<|S.map ye)=some true:=by
 show GR (xq<|k+3) (S.map ye) (S.map ye)=_;refine wg λx m=>?_;obtain⟨i,_,rfl⟩:=zxE.mp m;exact qh
def qe{k n m:Nat}{J:TZ}{e:Int}{Ds:DZ}{S:SS}:xq (k+6) (zi n m J e Ds S) (zi n m J e Ds S)=some true:=by
 show GR (xq<|k+5) [.int n,.int m,zm J,.int e,.lst<|Ds.map zO,.lst<|S.map ye] [.int n,.int m,zm J,.int e,.lst<|Ds.map zO,.lst<|S.map ye]=_;refine wg λx m=>?_
 rcases zzC.mp m with rfl|m
 . exact sP
 rcases zzC.mp m with rfl|m
 . exact sP
 rcases zzC.mp m with rfl|m
 . exact eqT
 rcases zzC.mp m with rfl|m
 . exact sP
 rcases zzC.mp m with rfl|m
 . exact Jy
 rcases zzC.mp m with rfl|m
 . exact uv
 . exact nomatch m
inductive Sr(n m:Nat)(J:TZ)(Ds:DZ):D->List Int->Prop
 |l {x:Int}(h:zL n x):Sr n m J Ds (sL x) (tR J x)
 |r {x:Int}(h:zL n x):Sr n m J Ds (sR x) (col J x)
 |d {p:Str×TZ}{c:Int}(hp:p ∈ Ds) (h:zL m c):Sr n m J Ds (sD p.1 c) (tR p.2 c)
abbrev oK(p:Str×TZ)(c v:Int):Int:=zD ((p.2[c.toNat]?).getD []) v
abbrev oq:SF:=(wG (fT<|f2 zA (f2 zh zF zg)<|zB .Eq) (yi<|f2 (f2 yc (f2 zh yh zg) zg) zo zg) vE)
section
variable{n m:Nat}{J:TZ}{e:Int}{Ds:DZ}{S:SS}{d:D}{v:Int}
theorem G6{u:Bool}{p:Str×TZ}{c:Int}{B:Option O}(hT:Tab m n p.2)(h:zL m c)(hv:zL n v):∀(Es:DZ) (e3 e4:Option O),p ∈ Es->(Es.map (·.1)).Nodup->forL (gT 2<|yC (gN 3)<|yC Zs vI) oq ((Es.map zO).map λd=>(true,d)) [B,some<|.lf u<|sD p.1 c,sI v,e3,e4]=some (.rt<|yt<|oK p c v)
 | [],_,_,h,_=>nomatch h
 |q::Es,e3,e4,hm,nd=>by
  have nd':=zzW.mp (show(q.1::Es.map (·.1)).Nodup from nd)
  by_cases eq:q.1=p.1
  . have:p=q:=by
     rcases zzC.mp hm with h|h
     . exact h
     . exact absurd (List.mem_map_of_mem (f:=λp:Str×TZ=>p.1) h) (by rw[<-eq];exact nd'.1)
    subst this;exact NX (as1:=[B,some<|.lf u<|sD p.1 c,sI v,sT<|.str p.1,sT<|zm p.2]) rfl<|wa (zE (yq (c:=true) (za (i:=3) rfl) (zq (za (i:=1) rfl) zb rfl rfl) D4) rfl)<|XD<|zq (zW (za (i:=4) rfl) (zq (za (i:=1) rfl) zb rfl rfl) (xF hT h).1) (za (i:=2) rfl) (rowAt (xF hT h).2 hv).1 rfl
  . have hp:p ∈ Es:=by
     rcases zzC.mp hm with h|h
     . exact absurd (by rw[h]) eq
     . exact h
    exact wK (as1:=[B,some<|.lf u<|sD p.1 c,sI v,sT<|.str q.1,sT<|zm q.2]) rfl (zZ (zE (yq (c:=false) (za (i:=3) rfl) (zq (za (i:=1) rfl) zb rfl rfl) (by show some (q.1==p.1)=some false;simp[eq])) rfl) rfl)<|G6 hT h hv Es _ _ hp nd'.2
def B_{q:List Int}(A:Alg n m J e Ds)(hd:Sr n m J Ds d q):Row n q/\Fm n m J Ds q/\∀v,zL n v->Zw [(true,zi n m J e Ds S),(true,d),(true,.int v)]=sI (zD q v):=by
 cases hd with
 | @l x h=>
  exact⟨(xF A.j h).2,.inl ⟨x,h,.inl rfl⟩,λv hv=>
   Yj rfl (V6<|wa (zE (yq (c:=true) (zq (za (i:=1) rfl) zb rfl rfl) zb D4) rfl)<|XD<|wD A.j h hv (zW (za (i:=0) rfl) zb rfl) (zq (za (i:=1) rfl) zb rfl rfl)<|za (i:=2) rfl)⟩
 | @r x h=>
  refine⟨uN A h,.inl ⟨x,h,.inr rfl⟩,λv hv=>?_⟩;rw[LS A.j hv];exact Yj rfl<|zV (zZ (zE (yq (c:=false) (zq (za (i:=1) rfl) zb rfl rfl) zb rfl) rfl) rfl)<|V6<|wa (zE (yq (c:=true) (zq (za (i:=1) rfl) zb rfl rfl) zb D4) rfl)<|XD<|wD A.j hv h (zW (za (i:=0) rfl) zb rfl) (za (i:=2) rfl)<|zq (za (i:=1) rfl) zb rfl rfl
 | @d p c hp h=>
  obtain⟨t1,t2⟩:=xF (A.ds p hp) h;exact⟨t2,.inr ⟨p,hp,c,h,rfl⟩,λv hv=>Yj rfl<|zV (zZ (zE (yq (c:=false) (zq (za (i:=1) rfl) zb rfl rfl) zb rfl) rfl) rfl)<|zV (zZ (zE (yq (c:=false) (zq (za (i:=1) rfl) zb rfl rfl) zb rfl) rfl) rfl)<|V6<|yQ (TU<|zW (za (i:=0) rfl) zb rfl)<|G6 (A.ds p hp) h hv Ds none none hp A.nd.1⟩
abbrev pq:SF:=(zy true 1<|f2 zh (yK<|dC (zX<|dC (fC<|.str "left")<|dC zo dN)<|dC (zX<|dC (fC<|.str "right")<|dC zo dN) dN) zr)
abbrev pU:SF:=(zy true 1<|f2 zh (zt (z_ (aC (f2 zf zF zg) aN) ya) [none,some 3] zH zK<|zX<|dC (fC<|.str "deed")<|dC zh<|dC zf dN) zr)
def BP{as:AS}{x:Int}(h:as[2]? = some (sI x)):WE (yK<|dC (zX<|dC (fC<|.str "left")<|dC zo dN)<|dC (zX<|dC (fC<|.str "right")<|dC zo dN) dN) as (.lst [sL x,sR x]):=
 xy (os:=[Zb [.lf true<|.str "left",yt x],Zb [.lf true<|.str "right",yt x]]) (v7 (Te (ze zb<|ze (za h) zG)<|wd rfl)<|v7 (Te (ze zb<|ze (za h) zG)<|wd rfl) zG) (wd rfl) rfl rfl
def DD(A:Alg n m J e Ds):∃(r:List (D×List Int)) (e2:Option O),r.length=2*n/\(∀d ∈ r,Sr n m J Ds d.1 d.2)/\(∀x,zL n x->(sL x,tR J x) ∈ r/\(sR x,col J x) ∈ r)/\forL (gN 2) pq (xb 0 n) [sT<|zi n m J e Ds S,sT<|.lst [],none,none,none]=some (.nx [sT<|zi n m J e Ds S,sT (.lst (r.map (·.1))),e2,none,none]):=by
 have n8:=A.n8;obtain⟨as',hf,r,e2,rfl,hl,hr,hc⟩:=yG (g:=gN 2) (f:=pq)
  (λi as=>∃(r:List (D×List Int)) (e2:Option O),as=[sT<|zi n m J e Ds S,sT (.lst (r.map (·.1))),e2,none,none]/\r.length=2*i/\(∀d ∈ r,Sr n m J Ds d.1 d.2)/\∀x,zL i x->(sL x,tR J x) ∈ r/\(sR x,col J x) ∈ r)
  (xb 0 n) 0 [sT<|zi n m J e Ds S,sT<|.lst [],none,none,none] (λi x as hx' hI=>by
   obtain⟨r,e2,rfl,hl,hr,hc⟩:=hI;obtain⟨rfl,hi⟩:=xm hx';have hx:zL n (0+(i:Int)):=⟨by omega,by omega⟩;refine⟨[sT<|zi n m J e Ds S,sT (.lst (r.map (·.1))),sI<|0+i,none,none],rfl,_,xx (p:=1) (OL (WD.e<|za (i:=1) rfl) (BP rfl)<|add_lists<|Gk (by rw[zzB,hl];show _+2<=_;omega))<|zk rfl,r++[(sL<|0+i,tR J<|0+i),(sR<|0+i,col J<|0+i)],sI<|0+i,by rw[zyM];rfl,by rw[zzJ,hl];show _+2=_;omega,λd hd=>?_,λx hx=>?_⟩
   . rcases zzM.mp hd with h|h
     . exact hr d h
     . rcases zzC.mp h with rfl|h
       . exact .l hx
       . rcases zzC.mp h with rfl|h
         . exact .r hx
         . exact nomatch h
   . by_cases q:x=0+(i:Int)
     . subst q;exact⟨zzL _<|zzF ..,zzL _<|zzD _<|zzF ..⟩
     . obtain⟨c1,c2⟩:=hc x ⟨hx.1,by have:=hx.2;omega⟩;exact⟨zzP _ c1,zzP _ c2⟩)
  ⟨[],none,rfl,rfl,(λ_ h=>nomatch h),λx h=>absurd h.2 (by have:=h.1;show ¬x<((0:Nat):Int);omega)⟩
 rw[yH]at hl hc;exact⟨r,e2,by omega,hr,λx h=>hc x (by rw[zyY];exact h),hf⟩
def Du{r0:List (D×List Int)}{e2:Option O}(A:Alg n m J e Ds)(hl0:r0.length=2*n)(hr0:∀d ∈ r0,Sr n m J Ds d.1 d.2):∃(r:List (D×List Int)) (e3 e4:Option O),2*n<=r.length/\r.length<=100/\(∀d ∈ r,Sr n m J Ds d.1 d.2)/\(∀d ∈ r0,d ∈ r)/\(∀p ∈ Ds,∀c,zL m c->(sD p.1 c,tR p.2 c) ∈ r)/\forL (gT 2<|yC (gN 3)<|yC Zs vI) pU ((Ds.map zO).map λd=>(true,d)) [sT<|zi n m J e Ds S,sT (.lst (r0.map (·.1))),e2,none,none]=some (.nx [sT<|zi n m J e Ds S,sT (.lst (r.map (·.1))),e2,e3,e4]):=by
 have n8:=A.n8;have m6:=A.m6;have dl:=A.dl;obtain⟨as',hf,r,e3,e4,rfl,hl,hl2,hr,h0,hd⟩:=yG (g:=gT 2<|yC (gN 3)<|yC Zs vI) (f:=pU)
  (λi as=>∃(r:List (D×List Int)) (e3 e4:Option O),as=[sT<|zi n m J e Ds S,sT (.lst (r.map (·.1))),e2,e3,e4]/\2*n<=r.length/\r.length<=2*n+6*i/\(∀d ∈ r,Sr n m J Ds d.1 d.2)/\(∀d ∈ r0,d ∈ r)/\∀p ∈ Ds.take i,∀c,zL m c->(sD p.1 c,tR p.2 c) ∈ r)
  ((Ds.map zO).map λd=>(true,d)) 0 [sT<|zi n m J e Ds S,sT (.lst (r0.map (·.1))),e2,none,none] (λi x as hx' hI=>by
    obtain⟨r,e3,e4,rfl,hl,hl2,hr,h0,hd⟩:=hI;rw[zyB,zzI]at hx';obtain⟨p,hp,rfl⟩:=zzX.mp hx';have hi:i<Ds.length:=(zzG.mp hp).1;have mp:=zyA hp;rw[zyY]at hl2 hd ⊢;have wc:=xB (as:=[sT<|zi n m J e Ds S,sT (.lst (r.map (·.1))),e2,sT<|.str p.1,sT<|zm p.2]) (h:=λb=>sD p.1 b) (it:=λx:Int=>(true,D.int x)) (cap:=[none,some 3]) (gg:=gN 0) (fe:=zX<|dC (fC<|.str "deed")<|dC zh<|dC zf dN) (fi:=z_ (aC (f2 zf zF zg) aN) ya) (zz m) (Xu (zj (zq (za (i:=0) rfl) zb rfl rfl) zw)<|by omega) (by rw[zzB,zyU];omega) λb _=>⟨[sI b,sT<|.str p.1],rfl,Q4 (os:=[.lf true<|.str "deed",.lf true<|.str p.1,yt b]) (ze zb<|ze (za (i:=1) rfl)<|ze (za (i:=0) rfl) zG) (wd rfl) rfl rfl⟩;refine⟨_,rfl,_,xx (p:=1) (OL (WD.e<|za (i:=1) rfl) wc<|add_lists<|Gk<|by rw[zzB,zzB,zzB,zyU];omega)<|zk rfl,r++(zz m).map (λc=>(sD p.1 c,tR p.2 c)),sT<|.str p.1,sT<|zm p.2,by rw[zyM,show((zz m).map λc=>(sD p.1 c,tR p.2 c)).map (·.1)=(zz m).map λb=>sD p.1 b from zyB];rfl,by rw[zzJ];omega,by rw[zzJ,zzB,zzB,zyU];omega,λd hd=>?_,λd md=>zzP _<|h0 d md,λq mq c hc=>?_⟩
    . rcases zzM.mp hd with h|h
      . exact hr d h
      . obtain⟨c,hc,rfl⟩:=zxE.mp h;exact .d mp<|yu hc
    . rw[List.take_succ,hp]at mq
      rcases zzM.mp mq with h|h
      . exact zzP _<|hd q h c hc
      . have:q=p:=by simpa using h
        subst this;exact zzL _<|zxE.mpr ⟨c,Z2 hc,rfl⟩)
  ⟨r0,none,none,rfl,by omega,by omega,hr0,(λ_ h=>h),λp hp=>by simp at hp⟩
 rw[zzB,zzB,zyY]at hl2 hd;rw[List.take_length]at hd;exact⟨r,e3,e4,hl,by omega,hr,h0,hd,hf⟩
def S7(A:Alg n m J e Ds):∃r:List (D×List Int),r.length<=100/\(∀d ∈ r,Sr n m J Ds d.1 d.2)/\(∀q,q ∈ r.map (·.2) ↔ Fm n m J Ds q)/\RE (XO [(true,zi n m J e Ds S)]) (.lst (r.map (·.1))):=by
 have n1:=A.n1;have n8:=A.n8;obtain⟨r0,e2,l0,h0,c0,f0⟩:=DD (S:=S) A;obtain⟨r,e3,e4,l1,l2,h1,c1,c2,f1⟩:=Du (S:=S) (e2:=e2) A l0 h0;refine⟨r,l2,h1,λq=>⟨λmq=>?_,λhq=>?_⟩,yx rfl<|zd (xx (p:=1) (xy zG (wd rfl) rfl rfl)<|zk rfl)<|zd (yQ (yR (zj (zq (za (i:=0) rfl) zb rfl rfl) zw) (by omega)<|by omega)<|by rw[zyI];exact f0)<|zd (yQ (TU<|zW (za (i:=0) rfl) zb rfl) f1)<|yy<|WD.e<|za (i:=1) rfl⟩
 . obtain⟨p,mp,rfl⟩:=zxE.mp mq;exact(B_ (S:=S) A<|h1 p mp).2.1
 . rcases hq with⟨x,hx,rfl|rfl⟩|⟨p,mp,c,hc,rfl⟩
   . exact zxE.mpr ⟨_,c1 _ (c0 x hx).1,rfl⟩
   . exact zxE.mpr ⟨_,c1 _ (c0 x hx).2,rfl⟩
   . exact zxE.mpr ⟨_,c2 p mp c hc,rfl⟩
end
def qS{f:EF}{as:AS}{x:D}(h:WE f as x):WD (Je f) as true x:=by
 obtain⟨o,h,h1,h2⟩:=h;unfold WD Je;rw[h,<-h1,<-h2];rfl
def Dm(ds:List D):(ds.map<|O.lf true).all O.isLf=true:=by
 rw[List.all_eq_true];intro x mx;obtain⟨d,_,rfl⟩:=zxE.mp mx;rfl
def uw{k:PF.Kind}(ds:List D):(O.nd k<|ds.map<|O.lf true).kl=some true:=by
 show(if(ds.map<|O.lf true).all O.isLf=true then some (O.strs<|ds.map<|O.lf true)else none)=_;rw[if_pos<|Dm ds,Ri]
def J4{as:AS}{i:Nat}{b:EF}{g:D->D->Option R0}{k:PF.Kind}{ds:List D}{X y z:D}(h:as[i]? = some (some<|.nd k<|ds.map<|O.lf true))(hX:(O.nd k<|ds.map<|O.lf true).toD=X)(hb:WD b as true y)(hg:g X y=some (.im z)):WE (f2 (fV i) b g) as z:=by
 have e2:RV.view as (.bo i)=some (X,some true):=by rw[Yy h,uw,hX]
 refine⟨.lf (zR z||true) z, ?_,zyD _,rfl⟩;unfold WD at hb;unfold f2;simp only[W_ h,hb,zyL,RV.frz,e2];show((g X y).bind _)=_;rw[hg];show((if(zR z||true)=true then some (RV.ow<|Nc true z)else none:Option RV).bind _)=_;rw[if_pos<|zyD _];rfl
def JS{as:AS}{i:Nat}{a:EF}{g:D->D->Option R0}{k:PF.Kind}{os:List O}{X x:D}{c s:Bool}(ha:WD a as s x)(h:as[i]? = some (some<|.nd k os))(hX:(O.nd k os).toD=X)(hg:g x X=some (.im<|.bl c)):WD (f2 a (fV i) g) as true (.bl c):=by
 have e2:RV.view as (.bo i)=some (X,(O.nd k os).kl):=by rw[Yy h,hX]
 unfold WD at ha ⊢;unfold f2;simp only[W_ h,ha,zyL,RV.frz,e2];show((g x X).bind _)=_;rw[hg];rfl
def J7(ds:List D):(O.nd .ls<|ds.map<|O.lf true).toD = .lst ds:=by
 show D.lst (O.toDs<|ds.map<|O.lf true)=_;rw[VO]
section
variable{α:Type}[DecidableEq α]{toK:α->D}
theorem Os(hq:∀a b,xq 50 (toK a) (toK b)=some (decide (a=b)))(a:α):∀K:List α,anyF (λy=>xq 50 y<|toK a) (K.map toK)=some (decide (a ∈ K))
 | []=>rfl
 |x::K=>by
  show(xq 50 (toK x)<|toK a).bind (λb=>(anyF (λy=>xq 50 y<|toK a)<|K.map toK).bind λc=>some (b||c))=_;rw[hq,Os hq a K];show some (decide (x=a)||decide (a ∈ K))=_
  by_cases h:x=a
  . subst h;simp
  . have h':¬a=x:=λz=>h z.symm;simp[h,h']
theorem IV(hq:∀a b,xq 50 (toK a) (toK b)=some (decide (a=b))){a:α}:∀{K:List α},a ∈ K->Vl (λy=>xq 50 y<|toK a) (K.map toK)=some (pos K a)
 |x::K,m=>by
  show(xq 50 (toK x)<|toK a).bind _=_;rw[hq,zyL];unfold pos
  by_cases h:x=a
  . rw[if_pos h,zyO h];show(anyF _<|K.map toK).bind _=_;rw[Os hq a K];rfl
  . rw[if_neg h,zyG h];show(Vl _<|K.map toK).bind _=_;rw[IV hq<|(zzC.mp m).resolve_left λz=>h z.symm];rfl
abbrev oy:SF:=wG (fT<|f2 zo zh<|zB .NotIn) (ym<|yN 1 (dC zo dN) yT) vE
theorem Ga(hq:∀a b,xq 50 (toK a) (toK b)=some (decide (a=b))){s0:Option O}{u:Bool}:∀(l K:List α) (e2:Option O),K.length+l.length<=100->∃e2',forL (gN 2) oy (l.map λa=>(u,toK a)) [s0,sN<|(K.map toK).map<|O.lf u,e2]=some (.nx [s0,sN<|((xM K l).map toK).map<|O.lf u,e2'])
 | [],_,e2,_=>⟨e2,rfl⟩
 |a::l,K,e2,hl=>by
  have hl:K.length+(l.length+1)<=100:=hl;have tn:=zE (JS (as:=[s0,sN<|(K.map toK).map<|O.lf u,some<|.lf u<|toK a]) (i:=1) (g:=zB .NotIn) (c:=!decide (a ∈ K)) (X:=.lst<|K.map toK) (za (i:=2) rfl) rfl (by show D.lst (O.toDs<|(K.map toK).map<|O.lf u)=_;rw[OR]) (by
   have e:AN (toK a) (.lst<|K.map toK)=some (decide (a ∈ K)):=Os hq a K;unfold zB;simp only[e];rfl)) rfl
  by_cases h:a ∈ K
  . rw[zyO h]at tn;obtain⟨e2',hf⟩:=Ga hq l K (some<|.lf u<|toK a) (by omega);refine⟨e2', ?_⟩;unfold xM;rw[if_pos h];exact wK (as1:=[s0,sN<|(K.map toK).map<|O.lf u,some<|.lf u<|toK a]) rfl (zZ tn rfl) hf
  . rw[zyG h]at tn;have sa:=Lp (as:=[s0,sN<|(K.map toK).map<|O.lf u,some<|.lf u<|toK a]) (i:=1) (a:=fV 2) (os:=(K.map toK).map<|O.lf u) rfl (by rw[zzB,zzB];exact Nat.lt_of_le_of_lt (show K.length<=100 by omega)<|by decide)<|za (i:=2) rfl;obtain⟨e2',hf⟩:=Ga hq l (K++[a]) (some<|.lf u<|toK a) (by rw[zzJ];show K.length+1+_<=_;omega);refine⟨e2', ?_⟩;unfold xM;rw[if_neg h];refine wK (as1:=[s0,sN<|(K.map toK).map<|O.lf u,some<|.lf u<|toK a]) rfl (wa tn sa)<|Eq.trans ?_ hf;rw[zyM,zyM];rfl
def VY(hf:∀a,zR (toK a)=false)(hq:∀a b,xq 50 (toK a) (toK b)=some (decide (a=b)))(u:Bool)(l:List α)(hl:l.length<=100):RE (xr [(u,.lst<|l.map toK)]) (zc<|l.map λa=>((pos (xM [] l) a:Nat):Int)):=by
 obtain⟨e2,hfor⟩:=Ga hq (s0:=some<|.lf u<|.lst<|l.map toK) (u:=u) l [] none (by show 0+_<=_;omega);have kl:=Pc l [];have kl:(xM [] l).length<=0+l.length:=kl;have it1:XA zf [some<|.lf u<|.lst<|l.map toK,sN [],none]=some (l.map λa=>(u,toK a),[some<|.lf u<|.lst<|l.map toK,sN [],none]):=by
  show some (kids u<|l.map toK,_)=_;rw[LK hf]
 have it2:yA zf [some<|.lf u<|.lst<|l.map toK,sN<|((xM [] l).map toK).map<|O.lf u,e2]=some (l.map λa=>(u,toK a),[some<|.lf u<|.lst<|l.map toK,sN<|((xM [] l).map toK).map<|O.lf u,e2]):=by
  show some (kids u<|l.map toK,_)=_;rw[LK hf]
 have w:=xB (as:=[some<|.lf u<|.lst<|l.map toK,sN<|((xM [] l).map toK).map<|O.lf u,e2]) (h:=λa=>D.int (pos (xM [] l) a:Nat)) (it:=λa=>(u,toK a)) (cap:=[none,some 1]) (gg:=gN 0) (fe:=wN .lst zh y8 wF) l it2 (by omega) λa ma=>by
  have ec:wM [none,some 1] [some<|.lf u<|.lst<|l.map toK,sN<|((xM [] l).map toK).map<|O.lf u,e2]=[none,some<|.lf false<|.lst<|(xM [] l).map toK]:=by
   show[none,some<|O.lf false<|.lst<|O.toDs<|((xM [] l).map toK).map<|O.lf u]=_;rw[OR]
  rw[ec];refine⟨[some<|.lf u<|toK a,some<|.lf false<|.lst<|(xM [] l).map toK],rfl,WD.e<|Wf (za (i:=1) rfl) rfl (zj (za (i:=0) rfl) zw) ?_ rfl⟩;show(Vl _<|(xM [] l).map toK).bind _=_;rw[IV hq<|Um l [] ma];show(if((xM [] l).map toK).length<=1000 then some (R0.im<|.int (pos (xM [] l) a:Nat))else none)=_;rw[if_pos<|by rw[zzB];omega]
 rw[show(l.map λa=>D.int (pos (xM [] l) a:Nat))=(l.map λa=>((pos (xM [] l) a:Nat):Int)).map D.int by rw[zyB];rfl]at w;exact yx rfl<|zd (yr (i:=1) (xp zG<|wd rfl)<|zk rfl)<|zd (yQ it1 hfor)<|yy w
end
theorem Li{β:Type}[DecidableEq β]{g:β->D}(h:∀x y,xq 49 (g x) (g y)=some (decide (x=y))):∀a b:List β,GR (xq 49) (a.map g) (b.map g)=some (decide (a=b))
 | [],[]=>rfl
 | [],_::_=>rfl
 |_::_,[]=>rfl
 |x::a,y::b=>by
  show(xq 49 (g x)<|g y).bind (λc=>(GR (xq 49) (a.map g)<|b.map g).bind λd=>some<|c&&d)=_;rw[h,Li h a b];show some (decide (x=y)&&decide (a=b))=_
  by_cases h1:x=y<;>by_cases h2:a=b<;>simp[h1,h2]
def FJ{r:List Int}:∀(L:TZ),L2.atI ((L++[r]).map zc) (-1)=some (zc r):=λL=>by
 unfold L2.atI L2.ixN;rw[if_neg (by decide),if_pos (by rw[zzB,zzJ];show -(((L.length+1:Nat)):Int) <= -1;omega)];show((L++[r]).map zc)[(((((L++[r]).map zc).length:Nat):Int) + -1).toNat]? = _;rw[zzB,zzJ,show((((L.length+[r].length:Nat)):Int) + -1).toNat=L.length by show((((L.length+1:Nat)):Int) + -1).toNat=_;omega,zyM,zyR (by rw[zzB];exact zzN _),zzB,Nat.sub_self];rfl
def BV(i:Nat):zz (i+1)=zz i++[(i:Int)]:=by
 show(List.range<|i+1).map _=_;rw[List.range_succ,zyM];rfl
def uX(a b:List Bool):xq 50 (bK a) (bK b)=some (decide (a=b)):=Li (λx y=>by show some (x==y)=_;by_cases h:x=y<;>simp[h]) a b
def tG(a b:List Int):xq 50 (iK a) (iK b)=some (decide (a=b)):=Li (λx y=>by show some (x==y)=_;by_cases h:x=y<;>simp[h]) a b
section
variable{n m:Nat}{J:TZ}{e:Int}{Ds:DZ}{S:SS}{v:Int}{st:List (D×List Int)}
def OX(sl:S.length<=10):RE (Y0 [(true,zi n m J e Ds S),(true,.int v)]) (.tup<|(Yn S v).map D.bl):=by
 have w:=xB (as:=[sT<|zi n m J e Ds S,sI v]) (h:=λp:Str×List Int=>D.bl<|decide (v ∈ p.2)) (it:=λp=>(true,ye p)) (cap:=[none,none,some 1]) (gg:=gT 2<|yC zH<|yC (gN 1) vI) (fe:=f2 zo zh<|zB .In) (fi:=yA<|f2 zf VX zg) S (wI (g:=ye)<|WD.e<|zW (za (i:=0) rfl) zb rfl) (by omega) λp mp=>⟨[sT<|.str p.1,sT<|zc p.2,sI v],rfl,WD.e<|Fb (za (i:=2) rfl)<|za (i:=1) rfl⟩;refine yx rfl<|yy<|R_ w ?_;show some (R0.im<|.tup<|S.map λp=>D.bl<|decide (v ∈ p.2))=some (R0.im<|.tup<|(S.map λp=>decide (v ∈ p.2)).map D.bl);rw[zyB];rfl
def OP{xs ys:List D}(h:xs.length+ys.length<=sizeLine):Wt .Add (.tup xs) (.tup ys)=some (.im<|.tup<|xs++ys):=if_pos h
abbrev uJ:EF:=Je<|f2 (zX<|dC (f2 yc x9 zg) dN) (fP (aC (zt (yA zh) [none,some 4,some 0,some 6] zH zK<|f2 zh (zv (aC zo<|aC zf Yc) Zw) zg) aN) tupP) zr
abbrev L7(A:D)(st:List (D×List Int))(Ls:TZ)(e3 e4 e5 e6:Option O):AS:=[sT A,sT (.lst (st.map (·.1))),sN<|(Ls.map zc).map<|O.lf true,e3,e4,e5,e6]
abbrev Kh(n:Nat)(st:List (D×List Int)):TZ:=zz n::st.map (·.2)
def Dx{Ls:TZ}{r:List Int}{e3 e5:Option O}(A:Alg n m J e Ds)(sl:st.length<=100)(hst:∀d ∈ st,Sr n m J Ds d.1 d.2)(hr:r.length=n)(hv:zL n v):WD uJ (L7 (zi n m J e Ds S) st Ls e3 (sT<|zc r) e5<|sI v) true (iK<|key (Kh n st) r v):=by
 have w:=xB (as:=L7 (zi n m J e Ds S) st Ls e3 (sT<|zc r) e5<|sI v) (h:=λd:D×List Int=>D.int<|zD r<|zD d.2 v) (it:=λd=>(true,d.1)) (cap:=[none,some 4,some 0,some 6]) (gg:=gN 0) (fe:=f2 zh (zv (aC zo<|aC zf Yc) Zw) zg) st (wI (g:=λd:D×List Int=>d.1) (f:=fV 1)<|WD.e<|za (i:=1) rfl) (by omega) λd md=>by
  obtain⟨s1,_,s2⟩:=B_ (S:=S) A<|hst d md;exact⟨[sT d.1,sT<|zc r,sT<|zi n m J e Ds S,sI v],rfl,WD.e<|zq (za (i:=1) rfl) (AR (WD.e<|za (i:=2) rfl) (WD.e<|za (i:=0) rfl) (WD.e<|za (i:=3) rfl)<|s2 v hv) (Zr hr (rowAt s1 hv).2) rfl⟩
 have w1:=R_ (g:=tupP) (z:=.tup<|st.map λd=>D.int<|zD r<|zD d.2 v) w rfl;have w0:=CD<|WD.e<|zq (as:=L7 (zi n m J e Ds S) st Ls e3 (sT<|zc r) e5<|sI v) (za (i:=4) rfl) (za (i:=6) rfl) (Zr hr hv) rfl;refine qS<|WD.e ?_;have:=Ey w0 w1<|OP<|Gk (by rw[zzB];show 1+_<=_;omega);have ei:zD (zz n) v=v:=by
  have:=Y2 (g:=λa=>a) hv
  rwa [List.map_id']at this
 rw[show iK (key (Kh n st) r v) = .tup ([D.int<|zD r v]++st.map λd=>D.int<|zD r<|zD d.2 v) by show D.tup (D.int (zD r<|zD (zz n) v)::(((st.map (·.2)).map λq=>zD r<|zD q v).map D.int))=_;rw[ei,zyB,zyB];rfl];exact this
def Ht{Ls:TZ}{r:List Int}{e3 e6:Option O}(A:Alg n m J e Ds)(sl:st.length<=100)(hst:∀d ∈ st,Sr n m J Ds d.1 d.2)(hr:r.length=n):∃e6',forL (gN 6) (ym<|yN 5 (dC uJ dN) yT) (xb 0 n) (L7 (zi n m J e Ds S) st Ls e3 (sT<|zc r) (sN []) e6)=some (.nx<|L7 (zi n m J e Ds S) st Ls e3 (sT<|zc r) (sN<|(((zz n).map<|key (Kh n st) r).map iK).map<|O.lf true) e6'):=by
 have n8:=A.n8;obtain⟨as',hf,e6',rfl⟩:=yG (g:=gN 6) (f:=ym<|yN 5 (dC uJ dN) yT)
  (λi as=>∃(e6:Option O),as=L7 (zi n m J e Ds S) st Ls e3 (sT<|zc r) (sN<|(((zz i).map<|key (Kh n st) r).map iK).map<|O.lf true) e6)
  (xb 0 n) 0 (L7 (zi n m J e Ds S) st Ls e3 (sT<|zc r) (sN []) e6) (λi x as hx' hI=>by
   obtain⟨e6,rfl⟩:=hI;obtain⟨rfl,hi⟩:=xm hx';rw[zyY,Int.zero_add];have hv:zL n (i:Int):=⟨by omega,by omega⟩;refine⟨L7 (zi n m J e Ds S) st Ls e3 (sT<|zc r) (sN<|(((zz i).map<|key (Kh n st) r).map iK).map<|O.lf true)<|sI i,rfl,_,Lp (i:=5) rfl (by simp only[zzB,zyU];exact Nat.lt_of_le_of_lt (show i<=8 by omega)<|by decide)<|Dx A sl hst hr hv,sI i, ?_⟩;rw[BV,zyM,zyM,zyM];rfl)
  ⟨e6,rfl⟩
 rw[yH,zyY]at hf;exact⟨e6',hf⟩
abbrev pN:SF:=(zp (zy true 4<|f2 zo (f1 zF NI) zg)
 (zp (zy false 5<|yK dN)
 (zp (yS (z_ (aC (f2 zf zN zg) aN) ya) (gN 6)<|ym<|yN 5 (dC uJ dN) yT)
 (ym<|yN 2 (dC (Je<|zv BH xr) dN) yT))))
def EL{Ls:TZ}{r:List Int}{k:Nat}{e3 e4 e5 e6:Option O}(A:Alg n m J e Ds)(sl:st.length<=100)(hst:∀d ∈ st,Sr n m J Ds d.1 d.2)(hL:Ls.length<=100)(hr:Nb n S (st.map (·.2)) k r):∃r' e4' e5' e6',Nb n S (st.map (·.2)) (k+1) r'/\pN (L7 (zi n m J e Ds S) st (Ls++[r]) e3 e4 e5 e6)=some (.nx<|L7 (zi n m J e Ds S) st (Ls++[r]++[r']) e3 e4' e5' e6'):=by
 have n8:=A.n8;have s4:zy true 4 (f2 zo (f1 zF NI) zg) (L7 (zi n m J e Ds S) st (Ls++[r]) e3 e4 e5 e6)=some (.nx<|L7 (zi n m J e Ds S) st (Ls++[r]) e3 (sT<|zc r) e5 e6):=xx (p:=4) (J4 (i:=2) (b:=f1 zF NI) (g:=zg) (z:=zc r) rfl (J7 _) (SJ<|zb (x:=.int 1)) (by show B5 (L2.atI ((Ls++[r]).map zc) (-1))=_;rw[FJ];rfl))<|zk rfl;have s5:=yr (i:=5) (as:=L7 (zi n m J e Ds S) st (Ls++[r]) e3 (sT<|zc r) e5 e6) (xp zG<|wd rfl)<|zk rfl;obtain⟨e6',hf⟩:=Ht (S:=S) (Ls:=Ls++[r]) (e3:=e3) (e6:=e6) A sl hst hr.ln;have s6:yS (z_ (aC (f2 zf zN zg) aN) ya) (gN 6) (ym<|yN 5 (dC uJ dN) yT) (L7 (zi n m J e Ds S) st (Ls++[r]) e3 (sT<|zc r) (sN []) e6)=some (.nx<|L7 (zi n m J e Ds S) st (Ls++[r]) e3 (sT<|zc r) (sN<|(((zz n).map<|key (Kh n st) r).map iK).map<|O.lf true) e6'):=yQ (yR (zj (zq (za (i:=0) rfl) zb rfl rfl) zw) (by omega)<|by omega) (by rw[zyI];exact hf);obtain⟨o,o1,o2,o3⟩:=VY (toK:=iK) (λ_=>rfl) tG false ((zz n).map<|key (Kh n st) r) (by simp only[zzB,zyU];omega);have wc:WE (zv BH xr) (L7 (zi n m J e Ds S) st (Ls++[r]) e3 (sT<|zc r) (sN<|(((zz n).map<|key (Kh n st) r).map iK).map<|O.lf true) e6') (zc<|((zz n).map<|key (Kh n st) r).map λa=>((pos (xM []<|(zz n).map<|key (Kh n st) r) a:Nat):Int)):=
  ⟨o,OC (rs:=[.bo 5]) rfl (by show some [(false,D.lst<|O.toDs<|(((zz n).map<|key (Kh n st) r).map iK).map<|O.lf true)]=_;rw[VO]) o1,o2,o3⟩
 have nk:Nb n S (st.map (·.2)) (k+1) (((zz n).map<|key (Kh n st) r).map λa=>((pos (xM []<|(zz n).map<|key (Kh n st) r) a:Nat):Int)):=by
  rw[zyB (f:=key (Kh n st) r)];exact Nb.mk'<|HR (λq mq=>by
   obtain⟨d,md,rfl⟩:=zxE.mp mq;exact(B_ (S:=S) A<|hst d md).1) hr
 have sa:=Lp (i:=2) (as:=L7 (zi n m J e Ds S) st (Ls++[r]) e3 (sT<|zc r) (sN<|(((zz n).map<|key (Kh n st) r).map iK).map<|O.lf true) e6') rfl (by simp only[zzB,zzJ];exact Nat.lt_of_le_of_lt (show Ls.length+1<=101 by omega)<|by decide)<|qS wc;rw[show((Ls++[r]).map zc).map (O.lf true)++[O.lf true<|zc<|((zz n).map<|key (Kh n st) r).map λa=>((pos (xM []<|(zz n).map<|key (Kh n st) r) a:Nat):Int)]=((Ls++[r]++[((zz n).map<|key (Kh n st) r).map λa=>((pos (xM []<|(zz n).map<|key (Kh n st) r) a:Nat):Int)]).map zc).map (O.lf true) by simp only[zyM,zyS,List.map_nil]]at sa;exact⟨_,sT<|zc r,sN<|(((zz n).map<|key (Kh n st) r).map iK).map<|O.lf true,e6',nk,zV s4<|zV s5<|zV s6 sa⟩
def Bh(A:Alg n m J e Ds)(sl:S.length<=10):∃(st:List (D×List Int)) (Ls:TZ) (r:List Int),(∀q,q ∈ st.map (·.2) ↔ Fm n m J Ds q)/\Ls.length=n/\Nb n S (st.map (·.2)) n r/\RE (w_ [(true,zi n m J e Ds S)]) (zm<|Ls++[r]):=by
 have n1:=A.n1;have n8:=A.n8;obtain⟨st,stl,hst,hfm,hS⟩:=S7 (S:=S) A;have s1:=xx (p:=1) (as:=[sT<|zi n m J e Ds S,none,none,none,none,none,none]) (xX (WD.e<|za (i:=0) rfl) hS)<|zk rfl;have wk:=xB (as:=[sT<|zi n m J e Ds S,sT (.lst (st.map (·.1))),none,none,none,none,none]) (h:=λv=>bK<|Yn S v) (it:=λx:Int=>(true,D.int x)) (cap:=[none,some 0]) (gg:=gN 0) (fe:=zv (aC zh y8) Y0) (fi:=z_ (aC (f2 zf zN zg) aN) ya) (zz n) (Xu (zj (zq (za (i:=0) rfl) zb rfl rfl) zw)<|by omega) (by rw[zzB,zyU];omega) λv _=>⟨[sI v,sT<|zi n m J e Ds S],rfl,Z7 (WD.e<|za (i:=1) rfl) (WD.e<|za (i:=0) rfl)<|OX sl⟩;rw[show((zz n).map λv=>bK<|Yn S v)=((zz n).map<|Yn S).map bK from(zyB (f:=Yn S) (g:=bK)).symm]at wk;have hN:=VY (toK:=bK) (λ_=>rfl) uX true ((zz n).map<|Yn S) (by simp only[zzB,zyU];omega);rw[zyB (f:=Yn S) (g:=λa=>((pos (xM []<|(zz n).map<|Yn S) a:Nat):Int))]at hN;have N0:Nb n S (st.map (·.2)) 0 ((zz n).map λa=>((pos (xM []<|(zz n).map<|Yn S) (Yn S a):Nat):Int)):=Nb.mk' (g:=Yn S) λi _ j _=>(PP.Ek.zero (H:=Yn S) (f:=zD) (P:=λr=>r ∈ st.map (·.2))).symm;rw[show((λa=>((pos (xM []<|(zz n).map<|Yn S) a:Nat):Int))∘Yn S)=λa=>((pos (xM []<|(zz n).map<|Yn S) (Yn S a):Nat):Int)from rfl]at hN;generalize ((zz n).map λa=>((pos (xM []<|(zz n).map<|Yn S) (Yn S a):Nat):Int))=r0 at hN N0;have wy:=xX wk hN;have wz:=qS wy;have w2:=ze wz zG;have w3:=xp w2<|wd rfl;have s2:=yr (i:=2) w3<|zk rfl;obtain⟨as',hf,Ls,r,e3,e4,e5,e6,rfl,hl,hr⟩:=yG (g:=gN 3) (f:=pN)
  (λi as=>∃(Ls:TZ) (r:List Int) (e3 e4 e5 e6:Option O),as=L7 (zi n m J e Ds S) st (Ls++[r]) e3 e4 e5 e6/\Ls.length=i/\Nb n S (st.map (·.2)) i r)
  (xb 0 n) 0 (L7 (zi n m J e Ds S) st ([]++[r0]) none none none none) (λi x as hx' hI=>by
   obtain⟨Ls,r,e3,e4,e5,e6,rfl,hl,hr⟩:=hI;obtain⟨rfl,hi⟩:=xm hx';rw[zyY]at hl hr ⊢;obtain⟨r',e4',e5',e6',hr',hb⟩:=EL (S:=S) (Ls:=Ls) (e3:=sI<|0+i) (e4:=e4) (e5:=e5) (e6:=e6) A stl hst (by omega) hr;exact⟨_,rfl,_,hb,Ls++[r],r',_,_,_,_,rfl,by rw[zzJ,hl];rfl,hr'⟩)
  ⟨[],_,none,none,none,none,rfl,rfl,N0⟩
 rw[yH,zyY]at hl hr;exact⟨st,Ls,r,hfm,hl,hr,yx rfl<|zd s1<|zd s2<|zd (yQ (yR (zj (zq (za (i:=0) rfl) zb (z:=.int n) rfl rfl) zw) (by omega)<|by omega)<|by rw[zyI];exact hf)<|Ows.retB (i:=2) (toD:=zc) (Q:=λ_=>True) rfl ⟨Ri _,VO _,λ_ _=>trivial,by rw[zzB,zzB]⟩⟩
def Cr{c:Nat}{r:List Int}{Rs:TZ}{k:Nat}(A:Alg n m J e Ds)(sl:S.length<=10)(C:Cg n m J Ds S r Rs k):∃Ls:TZ,RE (w_ [(true,zi n m J e Ds S)]) (zm<|Ls++[r]):=by
 obtain⟨st,Ls,r',hfm,hl,hr,hE⟩:=Bh (S:=S) A sl;have hP:(λq=>q ∈ st.map (·.2))=λq=>q ∈ Rs:=funext λq=>propext<|(hfm q).trans ⟨λh=>by
  rcases h with⟨x,hx,rfl|rfl⟩|⟨p,mp,c,hc,rfl⟩
  . exact(C.x x hx).1
  . exact(C.x x hx).2
  . exact C.d p mp c hc,C.F q⟩
 have hE':∀i ∈ zz n,∀j ∈ zz n,zD r i=zD r j ↔ Ee S (st.map (·.2)) n i j:=λi mi j mj=>by
  rw[C.nb.eq i j (yu mi)<|yu mj];unfold Ee;rw[hP];have hf:∀(d:List Int) v,d ∈ Rs->zL n v->zL n (zD d v):=λd v hd hv=>(rowAt (C.R d hd) hv).2;exact⟨λh=>(PP.St.more (P:=λq=>q ∈ Rs) hf C.st n i j (yu mi) (yu mj) h).mono<|Nat.le_add_left _ _,λh=>PP.AZ (P:=λq=>q ∈ Rs) hf A.n1 (yu mi) (yu mj) h k⟩
 have e1:=hr.cn (zD r) hE';have e2:=C.nb.cn (zD r) λi mi j mj=>C.nb.eq i j (yu mi)<|yu mj;rw[e1,<-e2]at hE;exact⟨Ls,hE⟩
end
def tP{fr:DF}{as as1:AS}{os:List O}(h:fr as=some (os,as1))(hl:os.length<=sizeLine)(hn:os.all O.isLf=true):zX fr as=some (.ow<|.lf (O.strs os)<|.tup<|O.toDs os,as1):=by
 unfold zX;rw[h];show(if os.length<=sizeLine then some (RV.ow<|Zb os,as1)else none)=_;rw[if_pos hl];unfold Zb;rw[hn];rfl
theorem ints_map:∀r:List Int,vZ (r.map D.int)=some r
 | []=>rfl
 |x::r=>by show(vZ<|r.map D.int).bind _=_;rw[ints_map r];rfl
theorem Nq{M:Int}:∀(l:List Int) (x:Int),x<=M->(∀y ∈ l,y<=M)->(x=M\/M ∈ l)->l.foldl (λa b=>if a<b then b else a) x=M
 | [],x,_,_,h=>h.elim id λz=>nomatch z
 |y::l,x,hx,hl,h=>by
  have hy:=hl y<|zzF ..;show l.foldl _ (if x<y then y else x)=M;refine Nq l _ ?_ (λz m=>hl z<|zzD _ m) ?_
  . split<;>assumption
  . rcases h with h|h
    . left;rw[if_neg<|by omega];exact h
    . rcases zzC.mp h with h|h
      . left;split<;>omega
      . exact .inr h
def uo{r:List Int}{c:Nat}(h1:∀x ∈ r,zL c x)(h2:((c:Int)-1) ∈ r):OS r=(c:Int)-1:=by
 cases r with
 |nil=>exact nomatch h2
 |cons x r=>
  refine Nq r x (by have:=(h1 x<|zzF ..).2;omega) (λy m=>by have:=(h1 y<|zzD _ m).2;omega) ?_
  rcases zzC.mp h2 with h|h
  . exact .inl h.symm
  . exact .inr h
section
variable{n m c:Nat}{J:TZ}{e:Int}{Ds:DZ}{S:SS}{r:List Int}
def Ct.mem(K:Ct n m c J e Ds S r){x:Int}(hx:zL c x):x ∈ r:=by
 obtain⟨hv,ev⟩:=K.ix x hx;have hk:(ZN r x).toNat<r.length:=by have:=hv.1;have:=hv.2;have:=K.ln;omega
 have e1:zD r (ZN r x)=r[(ZN r x).toNat]:=by unfold zD;rw[zzE hk];rfl
 rw[<-ev,e1];exact zxA hk
def Ct.inn(K:Ct n m c J e Ds S r):∀x ∈ r,zL c x:=λx mx=>by
 obtain⟨i,hi⟩:=List.mem_iff_getElem?.mp mx;have hk:=(zzG.mp hi).1;have:=K.i1 (i:Int) ⟨by omega,by have:=K.ln;omega⟩;unfold zD at this;rw[zyI,hi]at this;exact this
def cH_at'{x:Int}(hx:zL c x):zg (zc<|cH r c) (.int x)=some (.im<|.int<|ZN r x):=by
 have h:=Zr (r:=cH r c) (n:=c) (v:=x) (by rw[zzB,zzB,zyU]) hx
 rwa [show zD (cH r c) x=ZN r x from Y2 (g:=ZN r) hx]at h
abbrev K3(A:D)(n m:Nat)(J:TZ)(e:Int)(Ds:DZ)(S:SS)(r ch:List Int)(lj:TZ)(e10 e11 e12 e13 e14:Option O):AS:=[sT A,sI n,sI m,sT<|zm J,sI e,sT<|.lst<|Ds.map zO,sT<|.lst<|S.map ye,sT<|zc r,sT<|zc ch,sT<|zm lj,e10,e11,e12,e13,e14]
abbrev ph:EF:=zX<|dC yW<|dC (zt (yA<|fV 12) [none,some 7,some 8] zH zK<|zt (yA zo) [none,some 1,some 0] zH zK<|f2 zh (f2 zo zf zg) zg) dN
abbrev pH:EF:=zX<|dC yW<|dC (zt (z_ (aC (fP (aC (fV 8) aN) xN) aN) ya) [none,some 14,some 8] zH (fT<|f2 (f2 zo zf zg) zh<|zB .In) zf) dN
def Dq{D0:D}{lj:TZ}{e10 e13 e14:Option O}{p:Str×TZ}(A:Alg n m J e Ds)(K:Ct n m c J e Ds S r)(mp:p ∈ Ds):WE ph (K3 D0 n m J e Ds S r (cH r c) lj e10 (sT<|.str p.1) (sT<|zm p.2) e13 e14) (zO (p.1,lT p.2 r c)):=by
 have n8:=A.n8;have m6:=A.m6;have hT:=A.ds p mp;have cl:(cH r c).length=c:=by rw[zzB,zzB,zyU]
 have cn:=K.cn;have ci:∀a ∈ cH r c,zL n a:=λa ma=>by
  obtain⟨x,mx,rfl⟩:=zxE.mp ma;exact(K.ix x<|yu mx).1
 have wi:=xB (as:=K3 D0 n m J e Ds S r (cH r c) lj e10 (sT<|.str p.1) (sT<|zm p.2) e13 e14) (h:=λq=>zc<|(cH r c).map λa=>zD r<|zD q a) (it:=λq:List Int=>(true,zc q)) (cap:=[none,some 7,some 8]) (gg:=gN 0) (fe:=zt (yA zo) [none,some 1,some 0] zH zK<|f2 zh (f2 zo zf zg) zg) p.2 (wI (g:=zc) (f:=fV 12)<|WD.e<|za (i:=12) rfl) (by rw[hT.1];omega) λq mq=>by
  have wj:=xB (as:=[sT<|zc q,sT<|zc r,sT<|zc<|cH r c]) (h:=λa=>D.int<|zD r<|zD q a) (it:=λx:Int=>(true,D.int x)) (cap:=[none,some 1,some 0]) (gg:=gN 0) (fe:=f2 zh (f2 zo zf zg) zg) (cH r c) (wI (g:=D.int) (f:=fV 2)<|WD.e<|za (i:=2) rfl) (by rw[cl];omega) λa ma=>
   ⟨[sI a,sT<|zc r,sT<|zc q],rfl,WD.e<|zq (za (i:=1) rfl) (zq (za (i:=2) rfl) (za (i:=0) rfl) (rowAt (hT.2 q mq)<|ci a ma).1 rfl) (Zr K.ln (rowAt (hT.2 q mq)<|ci a ma).2) rfl⟩
  rw[show((cH r c).map λa=>D.int<|zD r<|zD q a)=((cH r c).map λa=>zD r<|zD q a).map D.int from(zyB (f:=λa=>zD r<|zD q a) (g:=D.int)).symm]at wj;exact⟨[sT<|zc q,sT<|zc r,sT<|zc<|cH r c],rfl,wj⟩
 rw[show(p.2.map λq=>zc<|(cH r c).map λa=>zD r<|zD q a)=(lT p.2 r c).map zc from(zyB (f:=λq=>(cH r c).map λa=>zD r<|zD q a) (g:=zc)).symm]at wi;exact ZP (WD.e<|za (i:=11) rfl) wi
def JQ{D0:D}{lj:TZ}{e10 e12 e13:Option O}{p:Str×List Int}(A:Alg n m J e Ds)(K:Ct n m c J e Ds S r):WE pH (K3 D0 n m J e Ds S r (cH r c) lj e10 (sT<|.str p.1) e12 e13<|sT<|zc p.2) (ye (p.1,lV p.2 r c)):=by
 have n8:=A.n8;have cn:=K.cn;have wl:WD (fP (aC (fV 8) aN) xN) (K3 D0 n m J e Ds S r (cH r c) lj e10 (sT<|.str p.1) e12 e13<|sT<|zc p.2) true (.int (c:Nat)):=by
  have:=y_ (g:=xN) (x:=.int (((cH r c).map D.int).length:Nat)) (zj (za (as:=K3 D0 n m J e Ds S r (cH r c) lj e10 (sT<|.str p.1) e12 e13<|sT<|zc p.2) (i:=8) rfl) zw) rfl rfl;rw[zzB,zzB,zzB,zyU]at this;exact this
 have wj:=A_ (as:=K3 D0 n m J e Ds S r (cH r c) lj e10 (sT<|.str p.1) e12 e13<|sT<|zc p.2) (h:=λa=>D.int a) (p:=λa=>decide (ZN r a ∈ p.2)) (it:=λx:Int=>(true,D.int x)) (cap:=[none,some 14,some 8]) (gg:=gN 0) (tt:=fT<|f2 (f2 zo zf zg) zh<|zB .In) (fe:=zf) (fi:=z_ (aC (fP (aC (fV 8) aN) xN) aN) ya) (zz c) (Xu (zj wl zw)<|by omega) (by rw[zzB,zyU];omega) λa ma=>
  ⟨[sI a,sT<|zc p.2,sT<|zc<|cH r c],rfl,zE (Fb (zq (za (i:=2) rfl) (za (i:=0) rfl) (cH_at'<|yu ma) rfl)<|za (i:=1) rfl) rfl,λ_=>WD.e<|za (i:=0) rfl⟩
 rw[<-IB K p.2]at wj;exact ZP (WD.e<|za (i:=11) rfl) wj
def DK{Ls:TZ}(A:Alg n m J e Ds)(hS:Sg n S)(K:Ct n m c J e Ds S r)(hlv:RE (w_ [(true,zi n m J e Ds S)]) (zm<|Ls++[r])):RE (QL [(true,zi n m J e Ds S)]) (.tup [zi c m (lJ J r c) (zD r e) (lD Ds r c)<|lS S r c,zc r]):=by
 have n8:=A.n8;have dl:=A.dl;have sl:=hS.1;have cn:=K.cn;have c1:=K.al.n1;have hl:=K.ln;have he:zL n e:=⟨A.e0,A.en⟩;have cl:(cH r c).length=c:=by rw[zzB,zzB,zyU]
 have ci:∀a ∈ cH r c,zL n a:=λa ma=>by
  obtain⟨x,mx,rfl⟩:=zxE.mp ma;exact(K.ix x<|yu mx).1
 have s0:XY zf (gT 6<|yC (gN 1)<|yC (gN 2)<|yC (gN 3)<|yC Zs<|yC (gN 5)<|yC (gN 6) vI) [sT<|zi n m J e Ds S,none,none,none,none,none,none,none,none,none,none,none,none,none,none]=some (.nx [sT<|zi n m J e Ds S,sI n,sI m,sT<|zm J,sI e,sT<|.lst<|Ds.map zO,sT<|.lst<|S.map ye,none,none,none,none,none,none,none,none]):=NM (WD.e<|za (i:=0) rfl) rfl;have s1:=xx (p:=7) (IP (as:=[sT<|zi n m J e Ds S,sI n,sI m,sT<|zm J,sI e,sT<|.lst<|Ds.map zO,sT<|.lst<|S.map ye,none,none,none,none,none,none,none,none]) (b:=f1 zF NI) (g:=zg) (z:=zc r) (xX (WD.e<|za (i:=0) rfl) hlv) (WD.e<|SJ<|zb (x:=.int 1)) (by show B5 (L2.atI ((Ls++[r]).map zc) (-1))=_;rw[FJ];rfl))<|zk rfl;have wm:WD (f2 (fP CO MP) zF zr) [sT<|zi n m J e Ds S,sI n,sI m,sT<|zm J,sI e,sT<|.lst<|Ds.map zO,sT<|.lst<|S.map ye,sT<|zc r,none,none,none,none,none,none,none] true (.int (c:Nat)):=by
  have w:=y_ (g:=MP) (x:=.int<|(c:Int)-1) (zj (za (as:=[sT<|zi n m J e Ds S,sI n,sI m,sT<|zm J,sI e,sT<|.lst<|Ds.map zO,sT<|.lst<|S.map ye,sT<|zc r,none,none,none,none,none,none,none]) (i:=7) rfl) zw) (by
   show(vZ<|r.map D.int).bind _=_;rw[ints_map];show(if 0<r.length then some (R0.im<|.int<|OS r)else none)=_;rw[if_pos (by have:=A.n1;omega),uo K.inn<|K.mem ⟨by omega,by omega⟩]) rfl
  have:=yJ w<|zb (x:=.int 1)
  rwa [show(c:Int)-1+1=(c:Nat) by omega]at this
 have w2:=xB (as:=[sT<|zi n m J e Ds S,sI n,sI m,sT<|zm J,sI e,sT<|.lst<|Ds.map zO,sT<|.lst<|S.map ye,sT<|zc r,none,none,none,none,none,none,none]) (h:=λx=>D.int<|ZN r x) (it:=λx:Int=>(true,D.int x)) (cap:=[none,some 7]) (gg:=gN 0) (fe:=wN .lst zh y8 wF) (fi:=z_ (aC (f2 (fP CO MP) zF zr) aN) ya) (zz c) (Xu (zj wm zw)<|by omega) (by rw[zzB,zyU];omega) λx mx=>by
  obtain⟨a1,a2,a3⟩:=Q7 hl<|K.mem<|yu mx;refine⟨[sI x,sT<|zc r],rfl,WD.e<|Wf (za (i:=1) rfl) rfl (zj (za (i:=0) rfl) zw) ?_ rfl⟩;show(Vl _<|r.map D.int).bind _=_;rw[a3];show(if(r.map D.int).length<=1000 then some (R0.im<|.int ((ZN r x).toNat:Nat))else none)=_;rw[if_pos (by rw[zzB];omega),show(((ZN r x).toNat:Nat):Int)=ZN r x by have:=a1.1;omega]
 rw[show((zz c).map λx=>D.int<|ZN r x)=(cH r c).map D.int from(zyB (f:=ZN r) (g:=D.int)).symm]at w2;have s2:=xx (p:=8) w2<|zk rfl;have w3:=xB (as:=[sT<|zi n m J e Ds S,sI n,sI m,sT<|zm J,sI e,sT<|.lst<|Ds.map zO,sT<|.lst<|S.map ye,sT<|zc r,sT<|zc<|cH r c,none,none,none,none,none,none]) (h:=λa=>zc<|(cH r c).map λb=>zD r<|yw J a b) (it:=λx:Int=>(true,D.int x)) (cap:=[none,some 7,some 8,some 3]) (gg:=gN 0) (fe:=zt (yA zo) [none,some 1,some 3,some 0] zH zK<|f2 zh (f2 (f2 zo zA zg) zf zg) zg) (cH r c) (wI (g:=D.int) (f:=fV 8)<|WD.e<|za (i:=8) rfl) (by rw[cl];omega) λa ma=>by
  have wi:=xB (as:=[sI a,sT<|zc r,sT<|zc<|cH r c,sT<|zm J]) (h:=λb=>D.int<|zD r<|yw J a b) (it:=λx:Int=>(true,D.int x)) (cap:=[none,some 1,some 3,some 0]) (gg:=gN 0) (fe:=f2 zh (f2 (f2 zo zA zg) zf zg) zg) (cH r c) (wI (g:=D.int) (f:=fV 2)<|WD.e<|za (i:=2) rfl) (by rw[cl];omega) λb mb=>
   ⟨[sI b,sT<|zc r,sT<|zm J,sI a],rfl,WD.e<|zq (za (i:=1) rfl) (wD A.j (ci a ma) (ci b mb) (za (i:=2) rfl) (za (i:=3) rfl)<|za (i:=0) rfl) (Zr hl<|ZA A.j (ci a ma)<|ci b mb) rfl⟩
  rw[show((cH r c).map λb=>D.int<|zD r<|yw J a b)=((cH r c).map λb=>zD r<|yw J a b).map D.int from(zyB (f:=λb=>zD r<|yw J a b) (g:=D.int)).symm]at wi;exact⟨[sI a,sT<|zc r,sT<|zc<|cH r c,sT<|zm J],rfl,wi⟩
 rw[show((cH r c).map λa=>zc<|(cH r c).map λb=>zD r<|yw J a b)=(lJ J r c).map zc from(zyB (f:=λa=>(cH r c).map λb=>zD r<|yw J a b) (g:=zc)).symm]at w3;have s3:=xx (p:=9) w3<|zk rfl;have s4:=yr (i:=10) (as:=K3 (zi n m J e Ds S) n m J e Ds S r (cH r c) (lJ J r c) none none none none none) (xp zG<|wd rfl)<|zk rfl;obtain⟨as',f5,os,e11,e12,rfl,ho⟩:=yG (g:=gT 2<|yC (gN 11)<|yC (gN 12) vI) (f:=ym<|yN 10 (dC ph dN) yT)
  (λi as=>∃(os:List O) (e11 e12:Option O),as=K3 (zi n m J e Ds S) n m J e Ds S r (cH r c) (lJ J r c) (sN os) e11 e12 none none/\OwsX zO (λ_ _=>True) os ((lD Ds r c).take i))
  ((Ds.map zO).map λd=>(true,d)) 0 (K3 (zi n m J e Ds S) n m J e Ds S r (cH r c) (lJ J r c) (sN []) none none none none) (λi x as hx' hI=>by
    obtain⟨os,e11,e12,rfl,ho⟩:=hI;rw[zyB,zzI]at hx';obtain⟨p,hp,rfl⟩:=zzX.mp hx';have hi:i<Ds.length:=(zzG.mp hp).1;rw[zyY]at ho ⊢;obtain⟨os',ho',hs⟩:=Hy (i:=10) (as:=K3 (zi n m J e Ds S) n m J e Ds S r (cH r c) (lJ J r c) (sN os) (sT<|.str p.1) (sT<|zm p.2) none none) rfl ho (by rw[zzS];omega) (Dq A K<|zyA hp) trivial;refine⟨_,rfl,_,hs,os',_,_,rfl, ?_⟩;rw[List.take_succ,zzI,hp];exact ho')
  ⟨[],none,none,rfl,OwsX.nil⟩
 rw[zzB,zzB,zyY,List.take_of_length_le<|by rw[zzB];exact zzN _]at ho;have s6:=yr (i:=13) (as:=K3 (zi n m J e Ds S) n m J e Ds S r (cH r c) (lJ J r c) (sN os) e11 e12 none none) (xp zG<|wd rfl)<|zk rfl;obtain⟨as',f7,ps,e11,e14,rfl,hq⟩:=yG (g:=gT 2<|yC (gN 11)<|yC (gN 14) vI) (f:=ym<|yN 13 (dC pH dN) yT)
  (λi as=>∃(ps:List O) (e11 e14:Option O),as=K3 (zi n m J e Ds S) n m J e Ds S r (cH r c) (lJ J r c) (sN os) e11 e12 (sN ps) e14/\OwsX ye (λ_ _=>True) ps ((lS S r c).take i))
  ((S.map ye).map λd=>(true,d)) 0 (K3 (zi n m J e Ds S) n m J e Ds S r (cH r c) (lJ J r c) (sN os) e11 e12 (sN []) none) (λi x as hx' hI=>by
    obtain⟨ps,e11,e14,rfl,hq⟩:=hI;rw[zyB,zzI]at hx';obtain⟨p,hp,rfl⟩:=zzX.mp hx';have hi:i<S.length:=(zzG.mp hp).1;rw[zyY]at hq ⊢;obtain⟨ps',hq',hs⟩:=Hy (i:=13) (as:=K3 (zi n m J e Ds S) n m J e Ds S r (cH r c) (lJ J r c) (sN os) (sT<|.str p.1) e12 (sN ps)<|sT<|zc p.2) rfl hq (by rw[zzS];omega) (JQ A K) trivial;refine⟨_,rfl,_,hs,ps',_,_,rfl, ?_⟩;rw[List.take_succ,zzI,hp];exact hq')
  ⟨[],_,none,rfl,OwsX.nil⟩
 rw[zzB,zzB,zyY,List.take_of_length_le<|by rw[zzB];exact zzN _]at hq;have fo:=ho.ows.frz;have fq:=hq.ows.frz;have wl:WD (fP (aC (fV 8) aN) xN) (K3 (zi n m J e Ds S) n m J e Ds S r (cH r c) (lJ J r c) (sN os) e11 e12 (sN ps) e14) true (.int (c:Nat)):=by
  have:=y_ (g:=xN) (x:=.int (((cH r c).map D.int).length:Nat)) (zj (za (as:=K3 (zi n m J e Ds S) n m J e Ds S r (cH r c) (lJ J r c) (sN os) e11 e12 (sN ps) e14) (i:=8) rfl) zw) rfl rfl;rw[zzB,cl]at this;exact this
 have t1:zX (dC (fP (aC (fV 8) aN) xN)<|dC zo<|dC (fV 9)<|dC (f2 xD yc zg)<|dC (fV 10)<|dC (fV 13) dN) (K3 (zi n m J e Ds S) n m J e Ds S r (cH r c) (lJ J r c) (sN os) e11 e12 (sN ps) e14)=some (.ow<|.lf true<|zi c m (lJ J r c) (zD r e) (lD Ds r c)<|lS S r c,K3 (zi n m J e Ds S) n m J e Ds S r (cH r c) (lJ J r c) (some<|.lf true<|.lst<|(lD Ds r c).map zO) e11 e12 (some<|.lf true<|.lst<|(lS S r c).map ye) e14):=by
  have q:=zP wl<|zP (a:=fV 2) (za (i:=2) rfl)<|zP (a:=fV 9) (za (i:=9) rfl)<|zP (a:=f2 xD yc zg) (zq (za (i:=7) rfl) (za (i:=4) rfl) (Zr hl he) rfl)<|Xz (j:=10) (fr:=dC (fV 13) dN) rfl<|Xz (j:=13) (fr:=dN) rfl Kj;rw[fo,fq]at q;exact tP q (wd rfl) rfl
 have t2:=zP t1<|zP (a:=fV 7) (za (i:=7) rfl) Kj;refine yx rfl<|zd s0<|zd s1<|zd s2<|zd s3<|zd s4<|zd (yQ (TU<|za (i:=5) rfl) f5)<|zd s6<|zd (yQ (TU<|za (i:=6) rfl) f7) ⟨_,Jx (o:=.lf true<|.tup [zi c m (lJ J r c) (zD r e) (lD Ds r c)<|lS S r c,zc r]) (as1:=K3 (zi n m J e Ds S) n m J e Ds S r (cH r c) (lJ J r c) (some<|.lf true<|.lst<|(lD Ds r c).map zO) e11 e12 (some<|.lf true<|.lst<|(lS S r c).map ye) e14) ?_ rfl,rfl,rfl⟩;exact tP t2 (wd rfl) rfl
end
def Ak{n m:Nat}{J:TZ}{e:Int}{Ds:DZ}{S:SS}{k:Int}(A:Alg n m J e Ds)(sl:Sg n S):∃S':SS,Sg n S'/\RE (QM [(true,zi n m J e Ds S),(true,.int k)]) (zi n m J e Ds S'):=by
 have n1:=A.n1;have n8:=A.n8;have s0:XY zf (gT 6<|yC (gN 2)<|yC (gN 3)<|yC Zs<|yC (gN 5)<|yC (gN 6)<|yC (gN 7) vI) [sT<|zi n m J e Ds S,sI k,none,none,none,none,none,none,none,none]=some (.nx [sT<|zi n m J e Ds S,sI k,sI n,sI m,sT<|zm J,sI e,sT<|.lst<|Ds.map zO,sT<|.lst<|S.map ye,none,none]):=NM (WD.e<|za (i:=0) rfl) rfl;have t1:WT (fT<|f2 (f2 zh yh zx) zN<|zB .Eq) [sT<|zi n m J e Ds S,sI k,sI n,sI m,sT<|zm J,sI e,sT<|.lst<|Ds.map zO,sT<|.lst<|S.map ye,none,none] (k%2==0):=zE (yq (yj (za (i:=1) rfl) zb<|by decide) zb rfl) rfl;have t2:WT (fT<|f2 xD (yK dN)<|zB .Eq) [sT<|zi n m J e Ds S,sI k,sI n,sI m,sT<|zm J,sI e,sT<|.lst<|Ds.map zO,sT<|.lst<|S.map ye,none,none] S.isEmpty:=zE (OB (WD.e<|za (i:=7) rfl) (xy (os:=[]) zG (wd rfl) rfl rfl) (q:=S.isEmpty)<|by cases S<;>rfl) rfl
 by_cases h:(k%2==0)=true
 . exact⟨S,sl,yx rfl<|zd s0<|xG<|wC (Qt (l:=true) t1 (λz=>by rw[h]at z;cases z) λ_=>rfl)<|yy<|WD.e<|za (i:=0) rfl⟩
 cases S with
 |nil=>exact⟨[],sl,yx rfl<|zd s0<|xG<|wC (Qt (l:=true) t1 (λ_=>t2) λ_=>rfl)<|yy<|WD.e<|za (i:=0) rfl⟩
 |cons p S=>
  have tf:WT (YZ (fT<|f2 (f2 zh yh zx) zN<|zB .Eq)<|fT<|f2 xD (yK dN)<|zB .Eq) [sT<|zi n m J e Ds (p::S),sI k,sI n,sI m,sT<|zm J,sI e,sT<|.lst<|Ds.map zO,sT<|.lst<|(p::S).map ye,none,none] false:=Qt (l:=false) t1 (λ_=>t2) λz=>absurd z h;obtain⟨ys,hl,hy,ws⟩:=Jk (as:=[sT<|zi n m J e Ds (p::S),sI k,sI n,sI m,sT<|zm J,sI e,sT<|.lst<|Ds.map zO,sT<|.lst<|(p::S).map ye,none,none]) (a:=fV 1) (b:=fC<|.int 1) (c:=k) (m:=1) (by omega) (WD.e<|za rfl)<|WD.e zb;obtain⟨y,a0,_⟩:=at2 hy (k:=0) (by omega) (by omega);have s8:=xx (p:=8) (IP ws (WD.e<|zb (x:=.int 0)) a0)<|zk rfl;have yn:zL n (y%n):=⟨zyN _ (by omega),zyH _<|by omega⟩;obtain⟨r,hr,ri⟩:=Ui (g:=gN 0) (as0:=[none,sI n,sT<|zm J,sI y]) (tt:=fT<|f2 (f2 (f2 zo zf zg) (f2 zA zh zx) zg) (f2 (f2 zA Yd zQ) zh zx)<|zB .Eq) (fe:=fV 0) (xs:=zz n) λx mx=>by
   have hx:=yu mx;exact⟨[sI x,sI n,sT<|zm J,sI y],_,rfl,zE (yq (wD A.j hx yn (za (i:=2) rfl) (za (i:=0) rfl)<|yj (za (i:=3) rfl) (za (i:=1) rfl)<|by omega) (yj (vK (za (i:=3) rfl) zb (by decide)<|zU (by decide)<|by decide) (za (i:=1) rfl)<|by omega) rfl) rfl,za (i:=0) rfl⟩
  rw[<-Iz]at hr;have hc:=YT (as:=[sT<|zi n m J e Ds (p::S),sI k,sI n,sI m,sT<|zm J,sI e,sT<|.lst<|Ds.map zO,sT<|.lst<|(p::S).map ye,sI y,none]) (cap:=[none,some 2,some 4,some 8]) (fi:=z_ ZC ya) (yR (zj (za (i:=2) rfl) zw) (by omega)<|by omega) (by rw[yH];exact Gk<|by omega) hr;have s9:=xx (p:=9) (⟨_,hc,(Vf r).1,(Vf r).2⟩:WE _ _ (zc r))<|zk rfl;obtain⟨o1,h1,h2,h3⟩:=ZP (as:=[sT<|zi n m J e Ds (p::S),sI k,sI n,sI m,sT<|zm J,sI e,sT<|.lst<|Ds.map zO,sT<|.lst<|(p::S).map ye,sI y,sT<|zc r]) (a:=f2 (f2 xD zN zg) zN zg) (b:=fV 9) (x:=.str p.1) (y:=zc r) (WD.e<|zq (zW (g:=zg) (z:=ye p) (za (i:=7) rfl) (zb (x:=.int 0))<|QZ (l:=p::S) (f:=ye) (i:=0) rfl) (zb (x:=.int 0)) rfl rfl)<|WD.e<|za (i:=9) rfl;obtain⟨o2,g1,g2,g3⟩:=xy (x:=.lst [ye (p.1,r)]) (os:=[o1]) (v7 h1 zG) (wd rfl) (by show(o1.str&&true)=true;rw[h2];rfl) (by show D.lst [o1.toD]=_;rw[h3]);refine⟨[(p.1,r)],⟨by show 1<=10;decide,sl.2.1.sublist<|(List.nil_sublist _).cons_cons p.1,λq mq=>by rw[zzR.mp mq];exact ri⟩,yx rfl<|zd s0<|zd (zZ tf rfl)<|zd s8<|zd s9<|yy<|Q4 (os:=[yt n,yt m,.lf true<|zm J,yt e,.lf true<|.lst<|Ds.map zO,o2]) (ze (za (i:=2) rfl)<|ze (za (i:=3) rfl)<|ze (za (i:=4) rfl)<|ze (za (i:=5) rfl)<|ze (za (i:=6) rfl)<|v7 g1 zG) (wd rfl) (by show(true&&(true&&(true&&(true&&(true&&(o2.str&&true))))))=true;rw[g2];rfl) (by show D.tup [.int n,.int m,zm J,.int e,.lst<|Ds.map zO,o2.toD]=_;rw[g3];rfl)⟩
def Ss{ns:List Int}:∃n m J e Ds S,Alg n m J e Ds/\LawA n m J e Ds/\Sg n S/\RE (xS [(true,.lst<|ns.map .int)]) (zi n m J e Ds S):=by
 obtain⟨n,m,J,e,Ds,S,A,L,hS,hA⟩:=Il (ns:=ns);obtain⟨c,hc⟩:=ZU (ns:=ns) (k:=4) (s:=true) (t:=true) (by omega);obtain⟨S',hS',hf⟩:=Ak (k:=c) A hS;exact⟨n,m,J,e,Ds,S',A,L,hS',yx rfl<|yy<|Z7 (xX (WD.e<|za (i:=0) rfl) hA) (WD.e<|Ze (zj (za rfl)<|zj zb zw) hc) hf⟩
def Sh(k l:Nat)(d:D):Prop:=∃p,Gm d=some p/\p.showable=true/\p.hasDict=false/\p.depth<=k/\p.shown.length<=l
def Wo(k l:Nat)(ds:List D):Prop:=∃ps,L4 ds=some ps/\PyData.showableAll ps=true/\PyData.hasDictAll ps=false/\PyData.depthAll ps<=k/\((PyData.shownAll ps).map (·.length)).sum<=l/\ps.length=ds.length
def Wo.nil{k:Nat}:Wo k 0 []:=⟨[],by simp[L4],by simp[PyData.showableAll],by simp[PyData.hasDictAll],by simp[PyData.depthAll],by simp[PyData.shownAll],rfl⟩
def Wo.cons{k l m:Nat}{d:D}{r:List D}(h:Sh k l d)(g:Wo k m r):Wo k (l+m) (d::r):=by
 obtain⟨p,h1,h2,h3,h4,h5⟩:=h;obtain⟨ps,g1,g2,g3,g4,g5,g6⟩:=g;exact⟨p::ps,by simp[L4,h1,g1],by simp[PyData.showableAll,h2,g2],by simp[PyData.hasDictAll,h3,g3],by simp only[PyData.depthAll];omega,by simp only[PyData.shownAll,zyS,List.sum_cons];omega,congrArg (· + 1) g6⟩
theorem Wo.map{α:Type}{k l:Nat}{f:α->D}:∀{xs:List α},(∀x ∈ xs,Sh k l<|f x)->Wo k (xs.length*l) (xs.map f)
 | [],_=>by rw[List.length_nil,Nat.zero_mul];exact Wo.nil
 |x::r,h=>by
  have:=Wo.cons (h x<|by simp)<|Wo.map (xs:=r) λy m=>h y<|zzD _ m;rw[zzT,Nat.succ_mul,Nat.add_comm];exact this
theorem Wo.lst{k l c:Nat}{ds:List D}(h:Wo k l ds)(hc:ds.length<=c):Sh (k+1) (l+2*c+3) (.lst ds):=by
 obtain⟨ps,g1,g2,g3,g4,g5,g6⟩:=h;have z:=listText_len_le<|PyData.shownAll ps;rw[PyData.shownAll_length]at z;refine⟨.list ps,by simp[Gm,g1],by simp[PyData.showable,g2],by simp[PyData.hasDict,g3],by simp only[PyData.depth];omega, ?_⟩;simp only[PyData.shown];omega
theorem Wo.tup{k l c:Nat}{ds:List D}(h:Wo k l ds)(hc:ds.length<=c):Sh (k+1) (l+2*c+3) (.tup ds):=by
 obtain⟨ps,g1,g2,g3,g4,g5,g6⟩:=h;have z:=tupleText_len_le<|PyData.shownAll ps;rw[PyData.shownAll_length]at z;refine⟨.tuple ps,by simp[Gm,g1],by simp[PyData.showable,g2],by simp[PyData.hasDict,g3],by simp only[PyData.depth];omega, ?_⟩;simp only[PyData.shown];omega
def Sh.mono{k l k' l':Nat}{d:D}(h:Sh k l d)(hk:k<=k')(hl:l<=l'):Sh k' l' d:=by
 obtain⟨p,h1,h2,h3,h4,h5⟩:=h;exact⟨p,h1,h2,h3,by omega,by omega⟩
def LO{v:Int}(h0:0<=v)(h1:v<9):Sh 0 60 (.int v):=by
 have:v=0\/v=1\/v=2\/v=3\/v=4\/v=5\/v=6\/v=7\/v=8:=by omega
 refine⟨.int v,by simp[Gm], ?_,by simp[PyData.hasDict],by simp[PyData.depth], ?_⟩
 . rcases this with rfl|rfl|rfl|rfl|rfl|rfl|rfl|rfl|rfl<;>decide +kernel
 . rcases this with rfl|rfl|rfl|rfl|rfl|rfl|rfl|rfl|rfl<;>decide +kernel
def SE{x:Str}(h:x.length<=40/\Lt x):Sh 0 500 (.str x):=⟨.str x,by simp[Gm],by simp[PyData.showable],by simp[PyData.hasDict],by simp[PyData.depth],by
 simp only[PyData.shown];have:=StrLaws.reprText_len x (λc mc=>Nat.lt_trans (h.2 c mc)<|by decide);have:=h.1;omega⟩
def MZ{r:List Int}{c:Nat}(hl:r.length<=8)(hc:c<=8)(h:∀x ∈ r,zL c x):Sh 1 600 (zc r):=by
 have:=(Wo.map (k:=0) (l:=60) (f:=D.int) λv m=>LO (h v m).1<|by have:=(h v m).2;omega).lst (c:=8) (by rw[zzB];exact hl);exact Sh.mono ‹Sh _ _ _› (zzN _) (by omega)
def Ox{T:TZ}{m n:Nat}(hm:m<=8)(hn:n<=8)(h:Tab m n T):Sh 2 5000 (zm T):=by
 have z:=(Wo.map (k:=1) (l:=600) (f:=zc) λr mr=>MZ (by rw[(h.2 r mr).1];exact hn) hn (h.2 r mr).2).lst (c:=8) (by rw[zzB,h.1];exact hm);have:=h.1;exact z.mono (zzN _) (by omega)
section
variable{n m c:Nat}{J:TZ}{e:Int}{Ds:DZ}{S:SS}{r:List Int}
abbrev zT(c m:Nat)(J:TZ)(e:Int)(Ds:DZ)(S:SS)(r:List Int):D:=.tup [zi c m J e Ds S,zc r]
def A9(h:Alg c m J e Ds)(hs:S.length<=10)(hn:∀s ∈ S.map (·.1),s.length<=40/\Lt s)(hv:∀p ∈ S,p.2.length<=8/\∀x ∈ p.2,zL c x):Sh 5 100000 (zi c m J e Ds S):=by
 have n1:=h.n1;have n8:=h.n8;have m6:=h.m6;have e0:=h.e0;have e1:=h.en;have d6:=h.dl;have hD:Sh 4 40000 (.lst<|Ds.map zO):=by
  have z:=(Wo.map (k:=3) (l:=5600) (f:=zO) λp mp=>((Wo.cons ((SE<|h.nd.2 p.1<|List.mem_map_of_mem mp).mono (Nat.zero_le _)<|zzN _)<|Wo.cons (Ox (by omega) n8<|h.ds p mp) Wo.nil).tup (c:=2)<|zzN 2).mono (zzN _)<|by omega).lst (c:=6) (by rw[zzB];exact d6);exact z.mono (zzN _) (by omega)
 have hS:Sh 3 20000 (.lst<|S.map ye):=by
  have z:=(Wo.map (k:=2) (l:=1200) (f:=ye) λp mp=>((Wo.cons ((SE<|hn p.1<|List.mem_map_of_mem mp).mono (Nat.zero_le _)<|zzN _)<|Wo.cons (MZ (hv p mp).1 n8 (hv p mp).2) Wo.nil).tup (c:=2)<|zzN 2).mono (zzN _)<|by omega).lst (c:=10) (by rw[zzB];exact hs);exact z.mono (zzN _) (by omega)
 have z:=(Wo.cons ((LO (v:=(c:Int)) (by omega)<|by omega).mono (Nat.zero_le 4)<|zzN _)<|Wo.cons ((LO (v:=(m:Int)) (by omega)<|by omega).mono (Nat.zero_le 4)<|zzN _)<|Wo.cons ((Ox n8 n8 h.j).mono (by decide:2<=4)<|zzN _)<|Wo.cons ((LO (v:=e) e0<|by omega).mono (Nat.zero_le 4)<|zzN _)<|Wo.cons hD<|Wo.cons (hS.mono (by decide:3<=4)<|zzN _) Wo.nil).tup (c:=6)<|zzN 6;exact z.mono (zzN _) (by omega)
def Ei(A:Alg n m J e Ds)(hS:Sg n S)(K:Ct n m c J e Ds S r):∃s,Nd [zT c m (lJ J r c) (zD r e) (lD Ds r c) (lS S r c) r]=some (.im<|.str s):=by
 have n8:=A.n8;have c8:=K.al.n8;have h1:=A9 (S:=lS S r c) K.al (by rw[zzB];exact hS.1) (by rw[zyB];exact hS.2.1.2) λp mp=>by
  obtain⟨q,mq,rfl⟩:=zxE.mp mp;show(lV q.2 r c).length<=8/\∀x ∈ lV q.2 r c,zL c x;rw[IB K q.2];exact⟨zzO (List.length_filter_le _ _) (by rw[zzB,zyU];exact c8),λx mx=>yu (List.mem_filter.mp mx).1⟩
 have h2:=MZ (r:=r) (c:=c) (by rw[K.ln];exact n8) c8 K.inn;obtain⟨p,g1,g2,g3,g4,g5⟩:=(Wo.cons h1<|Wo.cons (h2.mono (by decide:1<=5)<|zzN _) Wo.nil).tup (c:=2)<|zzN 2;refine⟨p.shown, ?_⟩;show(Gm _).bind _=_;rw[g1];show(if _ then some (R0.im<|.str p.shown)else none)=_;rw[if_pos ⟨g2,g3,by omega,Gk<|by omega⟩]
def rg:xq 60 (zT c m J e Ds S r) (zT c m J e Ds S r)=some true:=by
 show GR (xq 59) [zi c m J e Ds S,zc r] [zi c m J e Ds S,zc r]=_;refine wg λx m=>?_
 rcases zzC.mp m with rfl|m
 . exact qe
 rcases zzC.mp m with rfl|m
 . exact qN
 . exact nomatch m
def ME(A:Alg n m J e Ds)(hS:Sg n S)(K:Ct n m c J e Ds S r):xI [(true,zT c m (lJ J r c) (zD r e) (lD Ds r c) (lS S r c) r),(true,zT c m (lJ J r c) (zD r e) (lD Ds r c) (lS S r c) r)]=some (.lf true<|.bl true):=by
 obtain⟨s,hs⟩:=Ei A hS K;exact Yj rfl<|XD<|M6 (k:=true) (JM (za (i:=0) rfl) rfl) (λ_=>M6 (k:=true) (yq (c:=true) (za (i:=0) rfl) (za (i:=1) rfl) rg) (λ_=>yq (c:=true) (y_ (zj (za (i:=0) rfl) zw) hs rfl) (y_ (zj (za (i:=1) rfl) zw) hs rfl) D4) (λz=>nomatch z)) (λz=>nomatch z)
end
theorem K6{α:Type}{f:α->O}{g:α->D}(h:∀x,(f x).toD=g x):∀l:List α,O.toDs (l.map f)=l.map g
 | []=>rfl
 |x::l=>by show(f x).toD::O.toDs (l.map f)=_;rw[h x,K6 h l];rfl
def TR(T:TZ):(xW T).toD=zm T:=congrArg D.lst<|K6 vD T
def BM(p:Str×TZ):(yB p).toD=zO p:=by show D.tup [.str p.1,(xW p.2).toD]=_;rw[TR]
def BG(p:Str×List Int):(wQ p).toD=ye p:=by show D.tup [.str p.1,(yf p.2).toD]=_;rw[vD]
section
variable{n m c:Nat}{J:TZ}{e:Int}{Ds:DZ}{S:SS}{r:List Int}
def Hi:(yF c m J e Ds S r).frz = .lf true (zT c m J e Ds S r):=by
 show O.lf (yF c m J e Ds S r).str (.tup [.tup [.int c,.int m,(xW J).toD,.int e,.lst<|O.toDs<|Ds.map yB,.lst<|O.toDs<|S.map wQ],(yf r).toD])=_;rw[Mx,TR,K6 BM,K6 BG,vD]
def RT{t:TF}{as:AS}{b:Bool}(h:WT t (E8 as) b):WT (Zq t) as b:=by
 unfold WT at *;unfold Zq;rw[h];rfl
def FB{f:EF}{as:AS}{s:Bool}{d:D}(h:WD f (E8 as) s d)(hf:zR d=true):WD (XR f) as true d:=by
 unfold WD at *;unfold XR;rw[h];show(if zR d=true then some d else none:Option D).bind _=_;rw[if_pos hf];rfl
abbrev T7(N A X:D)(o:O)(e4 e5:Option O):AS:=[sT N,sT A,sT X,some o,e4,e5,none]
def Dp{N A X:D}{e4 e5:Option O}:E8 (T7 N A X (yF c m J e Ds S r) e4 e5)=[sT N,sT A,sT X,sT<|zT c m J e Ds S r,e4.map O.frz,e5.map O.frz,none]:=by
 show[sT N,sT A,sT X,some (yF c m J e Ds S r).frz,_,_,_]=_;rw[Hi];rfl
def map_set'{α β:Type}{f:α->β}{l:List α}{k:Nat}{x:α}:(l.map f).set k (f x)=(l.set k x).map f:=(List.map_set (f:=f)).symm
def sJ{as:AS}(h3:as[3]? = some (some<|yF c m J e Ds S r)):Rn Yk as 3=some [.nd .tp [yt c,yt m,xW J,yt e,Zm yB Ds,Zm wQ S],yf r]:=by unfold Rn;rw[h3];rfl
def IK{as:AS}{i:Nat}{k:Int}(h:as[i]? = some (sI k)):xV i as=some k:=by unfold xV Rn;rw[h];rfl
def J5{as:AS}{k:Int}{q:List Int}(h3:as[3]? = some (some<|yF c m J e Ds S r))(h4:as[4]? = some (sI k))(k0:0<=k)(hq:J[k.toNat]? = some q)(hl:q.length<=100):O7 3 0 2 (xV 4) 9 as=some (.nx<|as.set 3<|some<|yF c m (J.set k.toNat<|q++[9]) e Ds S r):=by
 unfold O7;rw[IK h4];show(Rn Yk as 3).bind _=_;rw[sJ h3];show(YR vF (J.map yf) k.toNat).bind _=_;rw[show YR vF (J.map yf) k.toNat=some (q.map yt) by unfold YR;rw[zzI,hq];rfl];show(if 0<=k/\(q.map yt).length<sizeLine then some (Out.nx<|as.set 3<|some<|.nd .tp [.nd .tp [yt c,yt m,.nd .ls<|(J.map yf).set k.toNat<|.nd .ls<|q.map yt++[yt 9],yt e,Zm yB Ds,Zm wQ S],yf r])else none)=_;rw[if_pos ⟨k0,by rw[zzB];exact Nat.lt_of_le_of_lt hl<|by decide⟩,show O.nd .ls (q.map yt++[yt 9])=yf (q++[9]) by rw[show yf (q++[9]) = .nd .ls ((q++[9]).map yt)from rfl,zyM];rfl,map_set']
def AH{as:AS}(h3:as[3]? = some (some<|yF c m J e Ds S r)):OW 3 1 as=some (.nx<|as.set 3<|some<|yF c m J e Ds S []):=by
 unfold OW;rw[sJ h3];rfl
def Ap{as:AS}(h3:as[3]? = some (some<|yF c m J e Ds S r)):Cc 3 0 5 as=some (.nx<|as.set 3 none):=by
 unfold Cc;rw[sJ h3];rfl
def Qg{as:AS}:oN as=some (none,as):=rfl
def IU{α:Type}{f:α->D}{xs:List α}{k:Nat}(h:k<=xs.length):ZO (.lst<|xs.map f) none (some (k:Int))=some (.fl<|(xs.take k).map f):=by
 have:=Ep (xs:=(xs.take k).map f) (ys:=(xs.drop k).map f)
 rwa [<-zyM,List.take_append_drop,zzB,zzS,Nat.min_eq_left h]at this
def Wg{α:Type}{f:α->D}{xs:List α}{k:Nat}(h:k<=xs.length):ZO (.lst<|xs.map f) (some (k:Int)) none=some (.fl<|(xs.drop k).map f):=by
 have:=NK (xs:=(xs.take k).map f) (ys:=(xs.drop k).map f)
 rwa [<-zyM,List.take_append_drop,zzB,zzS,Nat.min_eq_left h]at this
abbrev D7:TF:=(YZ (fT<|f2 (v_ x9 (oS zF) oN ZO) (v_ (f2 (f2 (f2 (f2 zo zN zg) y9 zg) yY zg) zF zg) (oS zF) oN ZO)<|zB .NotEq)<|fT<|f2 (v_ (f2 (f2 zA zN zg) y9 zg) (oS<|f2 yY zF zr) oN ZO) (v_ (f2 (f2 zo zN zg) y9 zg) (oS<|f2 yY zF zr) oN ZO)<|zB .NotEq)
def DG{y i n1 n2 n3:Nat}{f:RS}{cc:Int}{tt:TF}{as as':AS}{os ps ds dp rows inner:List O}{k:Int}(h0:f as=some k)(h1:Rn Yk as i=some os)(h2:YR Yk os n1=some ps)(h3:YR vF ps n2=some ds)(h4:YR Yk ds k.toNat=some dp)(h5:YR vF dp n3=some rows)(h6:YR vF rows 0=some inner)
 (hc:0<=k/\inner.length<sizeLine/\Ag as y=true) (ht:tt ((E8<|as.set i<|some<|tF os ps ds dp n1 n2 k.toNat n3<|rows.set 0<|.nd .ls<|inner++[.lf true<|.int cc]).set y<|some (O.nd .ls<|rows.set 0<|.nd .ls<|inner++[.lf true<|.int cc]).frz)=some (false,as')):
 JF y i n1 n2 f n3 cc tt as=some (.nx<|as.set i<|some<|tF os ps ds dp n1 n2 k.toNat n3 []):=by
 unfold JF;simp only[h0,h1,h2,h3,h4,h5,h6,zyL,if_pos hc,ht];rfl
def rL(T:TZ):(xW T).frz = .lf true (zm T):=by
 show O.lf (xW T).str (xW T).toD=_;rw[tabS,TR]
def Sv{k:Nat}{p:Str×TZ}{R:TZ}:tF [.nd .tp [yt c,yt m,xW J,yt e,Zm yB Ds,Zm wQ S],yf r] [yt c,yt m,xW J,yt e,Zm yB Ds,Zm wQ S] (Ds.map yB) [.lf true<|.str p.1,xW p.2] 0 4 k 1 (R.map yf)=yF c m J e (Ds.set k (p.1,R)) S r:=by
 show O.nd .tp [.nd .tp [yt c,yt m,xW J,yt e,.nd .ls<|(Ds.map yB).set k<|yB (p.1,R),Zm wQ S],yf r]=_;rw[map_set']
def tV{N A:D}{c' m':Nat}{J':TZ}{e':Int}{D':DZ}{S':SS}{r':List Int}{e4:Option O}{k:Nat}{p:Str×TZ}{q:List Int}{T:TZ}(hp:Ds[k]? = some p)(hp':D'[k]? = some p)(hT:p.2=q::T)(hl:q.length<=100)(hd:D'.drop (k+1)=Ds.drop (k+1)):
 JF 6 3 0 4 (xV 5) 1 9 D7 (T7 N A (zT c m J e Ds S r) (yF c' m' J' e' D' S' r') e4<|sI (k:Int))=some (.nx<|T7 N A (zT c m J e Ds S r) (yF c' m' J' e' (D'.set k (p.1,[])) S' r') e4<|sI (k:Int)):=by
 have hk:=(zzG.mp hp).1;have hk':=(zzG.mp hp').1;have er:((q::T).map yf).set 0 (.nd .ls<|q.map yt++[yt 9])=((q++[9])::T).map yf:=by
  show O.nd .ls (q.map yt++[yt 9])::T.map yf=O.nd .ls ((q++[9]).map yt)::T.map yf;rw[zyM];rfl
 have ht:WT D7 [sT N,sT A,sT<|zT c m J e Ds S r,sT<|zT c' m' J' e' (D'.set k (p.1,(q++[9])::T)) S' r',e4.map O.frz,sI (k:Int),sT<|zm ((q++[9])::T)] false:=by
  generalize e4.map O.frz=f4;have w1:=zW (as:=[sT N,sT A,sT<|zT c m J e Ds S r,sT<|zT c' m' J' e' (D'.set k (p.1,(q++[9])::T)) S' r',f4,sI (k:Int),sT<|zm ((q++[9])::T)]) (zW (za (i:=2) rfl) (zb (x:=.int 0)) (g:=zg) (z:=zi c m J e Ds S) rfl) (zb (x:=.int 4)) (g:=zg) (z:=.lst<|Ds.map zO) rfl;have w2:=zW (as:=[sT N,sT A,sT<|zT c m J e Ds S r,sT<|zT c' m' J' e' (D'.set k (p.1,(q++[9])::T)) S' r',f4,sI (k:Int),sT<|zm ((q++[9])::T)]) (zW (za (i:=3) rfl) (zb (x:=.int 0)) (g:=zg) (z:=zi c' m' J' e' (D'.set k (p.1,(q++[9])::T)) S') rfl) (zb (x:=.int 4)) (g:=zg) (z:=.lst<|(D'.set k (p.1,(q++[9])::T)).map zO) rfl;have w3:=zW (zW w1 (za (i:=5) (x:=.int (k:Int)) rfl) (g:=zg) (z:=zO p)<|QZ (f:=zO) hp) (zb (x:=.int 1)) (g:=zg) (z:=zm p.2) rfl;rw[hT]at w3;have o1:oS zF [sT N,sT A,sT<|zT c m J e Ds S r,sT<|zT c' m' J' e' (D'.set k (p.1,(q++[9])::T)) S' r',f4,sI (k:Int),sT<|zm ((q++[9])::T)]=some (some 1,_):=Z4<|zb (x:=.int 1);have o2:oS (f2 yY zF zr) [sT N,sT A,sT<|zT c m J e Ds S r,sT<|zT c' m' J' e' (D'.set k (p.1,(q++[9])::T)) S' r',f4,sI (k:Int),sT<|zm ((q++[9])::T)]=some (some<|(k:Int)+1,_):=Z4<|yJ (za (i:=5) rfl)<|zb (x:=.int 1);have t1:=zE (QR (q:=true) (wA (lo:=some 1) (hi:=none) (WD.e<|za (i:=6) rfl) o1 Qg<|Wg (f:=zc) (xs:=(q++[9])::T) (k:=1)<|Nat.succ_le_succ<|Nat.zero_le _) (wA (lo:=some 1) (hi:=none) (WD.e w3) o1 Qg<|Wg (f:=zc) (xs:=q::T) (k:=1)<|Nat.succ_le_succ<|Nat.zero_le _)<|eqT (T:=T)) rfl;have c1:=Wg (f:=zO) (xs:=D'.set k (p.1,(q++[9])::T)) (k:=k+1) (by rw[zzU];exact hk');have c2:=Wg (f:=zO) (xs:=Ds) (k:=k+1) hk;rw[List.drop_set_of_lt<|Nat.lt_succ_self k,hd]at c1;have t2:=zE (QR (q:=true) (wA (lo:=some<|(k:Int)+1) (hi:=none) (WD.e w2) o2 Qg c1) (wA (lo:=some<|(k:Int)+1) (hi:=none) (WD.e w1) o2 Qg c2) Jy) rfl;exact Qt (k:=false) t1 (λ_=>t2) (λz=>nomatch z)
 have:=DG (y:=6) (i:=3) (n1:=0) (n2:=4) (n3:=1) (f:=xV 5) (cc:=9) (tt:=D7) (as:=T7 N A (zT c m J e Ds S r) (yF c' m' J' e' D' S' r') e4<|sI (k:Int)) (rows:=(q::T).map yf) (inner:=q.map yt) (k:=(k:Int)) (ds:=D'.map yB) (dp:=[.lf true<|.str p.1,xW p.2]) (IK rfl) (sJ rfl) rfl rfl (by rw[zyI];unfold YR;rw[zzI,hp'];rfl) (by rw[hT];rfl) rfl ⟨by omega,by rw[zzB];exact Nat.lt_of_le_of_lt hl (by decide),rfl⟩ (as':=_) (by
  rw[er,zyI,Sv,show O.frz (.nd .ls<|((q++[9])::T).map yf) = .lf true (zm ((q++[9])::T))from rL _];show D7 ((E8<|T7 N A (zT c m J e Ds S r) (yF c' m' J' e' (D'.set k (p.1,(q++[9])::T)) S' r') e4<|sI (k:Int)).set 6 _)=_;rw[Dp];exact ht)
 rw[zyI]at this;exact this.trans<|congrArg (λo=>some<|Out.nx<|T7 N A (zT c m J e Ds S r) o e4<|sI (k:Int))<|Sv (R:=[])
end
section
variable{n m c:Nat}{J:TZ}{e:Int}{Ds:DZ}{S:SS}{r:List Int}
def Hw{N A:D}{J':TZ}{e4:Option O}{m6:Ds.length<=6}(hT:∀p ∈ Ds,∃q T,p.2=q::T/\q.length<=100):
 ∃D' e5,yS (z_ (aC (XR<|fP (aC (f2 (f2 zA zN zg) y9 zg) aN) xN) aN) ya) (gN 5) (JF 6 3 0 4 (xV 5) 1 9 D7) (T7 N A (zT c m J e Ds S r) (yF c m J' e Ds S r) e4 none)=some (.nx<|T7 N A (zT c m J e Ds S r) (yF c m J' e D' S r) e4 e5):=by
 have wl:WD (XR<|fP (aC (f2 (f2 zA zN zg) y9 zg) aN) xN) (T7 N A (zT c m J e Ds S r) (yF c m J' e Ds S r) e4 none) true (.int (Ds.length:Nat)):=by
  refine FB (s:=true) ?_ rfl;rw[Dp];have:=M_ (g:=xN) (z:=.int ((Ds.map zO).length:Nat)) (WD.e<|zW (as:=[sT N,sT A,sT<|zT c m J e Ds S r,sT<|zT c m J' e Ds S r,e4.map O.frz,none,none]) (zW (za (i:=3) rfl) (zb (x:=.int 0)) (g:=zg) (z:=zi c m J' e Ds S) rfl) (zb (x:=.int 4)) (g:=zg) (z:=.lst<|Ds.map zO) rfl) rfl;rw[zzB]at this;exact this
 obtain⟨as',hf,D',e5,rfl,_⟩:=yG (g:=gN 5) (f:=JF 6 3 0 4 (xV 5) 1 9 D7)
  (λi as=>∃(D':DZ) (e5:Option O),as=T7 N A (zT c m J e Ds S r) (yF c m J' e D' S r) e4 e5/\D'.drop i=Ds.drop i)
  (xb 0 Ds.length) 0 (T7 N A (zT c m J e Ds S r) (yF c m J' e Ds S r) e4 none) (λi x as hx' hI=>by
   obtain⟨D',e5,rfl,hd⟩:=hI;obtain⟨rfl,hi⟩:=xm hx';rw[zyY]at hd ⊢;have hp:=zzE hi;have hp':D'[i]? = some Ds[i]:=by
    have h1:(D'.drop i)[0]? = D'[i+0]? := List.getElem?_drop;have h2:(Ds.drop i)[0]? = Ds[i+0]? := List.getElem?_drop;rw[hd,h2]at h1;exact h1.symm.trans hp
   have hd':D'.drop (i+1)=Ds.drop (i+1):=by
    rw[<-List.drop_drop (i:=1) (j:=i),<-List.drop_drop (i:=1) (j:=i),hd]
   obtain⟨q,T,eT,ql⟩:=hT _<|zxA hi;have hb:=tV (N:=N) (A:=A) (c:=c) (m:=m) (J:=J) (e:=e) (S:=S) (r:=r) (c':=c) (m':=m) (J':=J') (e':=e) (S':=S) (r':=r) (e4:=e4) hp hp' eT ql hd';refine⟨T7 N A (zT c m J e Ds S r) (yF c m J' e D' S r) e4<|sI (i:Int), ?_,_,hb,_,_,rfl, ?_⟩
   . rw[Int.zero_add];rfl
   . rw[List.drop_set_of_lt<|Nat.lt_succ_self i];exact hd')
  ⟨Ds,none,rfl,rfl⟩
 exact⟨D',e5,yQ (yR (zj wl zw) (by omega)<|by omega)<|by rw[zyI];exact hf⟩
def tJ{as:AS}{i:Nat}{J':TZ}{a:EF}(h:WD a as true (zT c m J' e Ds S r)):WD (v_ (f2 a zN zg) (oS y9) oN ZO) as true (.tup [.lst<|Ds.map zO,.lst<|S.map ye]):=Q3 (zW h (zb (x:=.int 0)) (g:=zg) (z:=zi c m J' e Ds S) rfl) (Z4<|zb (x:=.int 4)) Qg rfl
def Hu{ns:List Int}:Kp [(true,.lst<|ns.map .int)]=some (.lf true<|.bl true):=by
 obtain⟨n,m,J,e,Ds,S,A,L,hS,hA⟩:=Ss (ns:=ns);obtain⟨c,r,Rs,k,K,C,hL⟩:=Sy A L hS;obtain⟨Ls,hlv⟩:=Cr (c:=c) A hS.1 C;have hdue:=DK A hS K hlv;have hts:=ME A hS K;have LL:=Bi A L K;have c1:=K.al.n1;have c8:=K.al.n8;have m1:=A.m1;obtain⟨x,hx⟩:=ZU (ns:=ns) (k:=3) (s:=true) (t:=true) (by omega);have hK:=K.al;generalize lJ J r c=J1 at hL hdue hts LL hK;generalize lD Ds r c=D1 at hL hdue hts LL hK;generalize lS S r c=S1 at hL hdue hts;generalize zD r e=e1 at hL hdue hts LL hK;have s1:=xx (p:=1) (as:=[sT<|.lst<|ns.map .int,none,none,none,none,none,none]) (xX (WD.e<|za (i:=0) rfl) hA)<|zk rfl;have s2:=xx (p:=2) (as:=[sT<|.lst<|ns.map .int,sT<|zi n m J e Ds S,none,none,none,none,none]) (xX (xX (WD.e<|za (i:=0) rfl) hA) hdue)<|zk rfl;have s3:=yr (i:=3) (as:=[sT<|.lst<|ns.map .int,sT<|zi n m J e Ds S,sT<|zT c m J1 e1 D1 S1 r,none,none,none,none]) (TM (WD.e<|za (i:=1) rfl) hL)<|zk rfl;have t1:WT (Zq<|YZ (Mf<|fT<|zv (aC zA<|aC zo aN) xI)<|fT<|f2 zh (zv y8 xS)<|zB .NotEq) (T7 (.lst<|ns.map .int) (zi n m J e Ds S) (zT c m J1 e1 D1 S1 r) (yF c m J1 e1 D1 S1 r) none none) false:=by
  refine RT ?_;rw[Dp];exact Qt (k:=false) (Am (k:=true)<|zE (HN (WD.e<|za (i:=3) rfl) (WD.e<|za (i:=2) rfl) hts) rfl) (λ_=>zE (QR (q:=true) (WD.e<|za (i:=1) rfl) (xX (WD.e<|za (i:=0) rfl) hA) qe) rfl) (λz=>nomatch z)
 have t2:WT (Zq<|YZ (fT<|f2 (zv (aC (f2 zA zN zg) aN) wH) (fC .non)<|zB .IsNot)<|fT<|f2 (zv (aC (f2 zA zN zg) aN) wY) (fC .non)<|zB .IsNot) (T7 (.lst<|ns.map .int) (zi n m J e Ds S) (zT c m J1 e1 D1 S1 r) (yF c m J1 e1 D1 S1 r) none none) false:=by
  refine RT ?_;rw[Dp];have f1:=Qq (S:=S1) hK;have f2:=Ft (S:=S1) hK;rw[Np hK LL]at f1 f2;have w0:=zW (as:=[sT<|.lst<|ns.map .int,sT<|zi n m J e Ds S,sT<|zT c m J1 e1 D1 S1 r,sT<|zT c m J1 e1 D1 S1 r,(none:Option O).map O.frz,(none:Option O).map O.frz,none]) (za (i:=3) rfl) (zb (x:=.int 0)) (g:=zg) (z:=zi c m J1 e1 D1 S1) rfl;exact Qt (k:=false) (zE (Ey (xX (WD.e w0) f1) (WD.e<|zb (x:=.non)) rfl) rfl) (λ_=>zE (Ey (xX (WD.e w0) f2) (WD.e<|zb (x:=.non)) rfl) rfl) (λz=>nomatch z)
 have hc0:(0:Int)<(c:Int):=by omega
 have a0:=zyN x (show(c:Int)≠0 by omega);have a1:=zyH x hc0;have jl:=hK.j.1;have wl:WD (XR<|fP (aC (f2 (f2 zA zN zg) yh zg) aN) xN) (T7 (.lst<|ns.map .int) (zi n m J e Ds S) (zT c m J1 e1 D1 S1 r) (yF c m J1 e1 D1 S1 r) none none) true (.int (c:Nat)):=by
  refine FB (s:=true) ?_ rfl;rw[Dp];have:=M_ (g:=xN) (z:=.int ((J1.map zc).length:Nat)) (WD.e<|zW (as:=[sT<|.lst<|ns.map .int,sT<|zi n m J e Ds S,sT<|zT c m J1 e1 D1 S1 r,sT<|zT c m J1 e1 D1 S1 r,(none:Option O).map O.frz,(none:Option O).map O.frz,none]) (zW (za (i:=3) rfl) (zb (x:=.int 0)) (g:=zg) (z:=zi c m J1 e1 D1 S1) rfl) (zb (x:=.int 2)) (g:=zg) (z:=zm J1) rfl) rfl;rw[zzB,jl]at this;exact this
 have s6:=yz (st:=true) (i:=4) (yj (Ze (zj (za (i:=0) rfl)<|zj (zb (x:=.int 3)) zw) hx) wl hc0)<|zk rfl;generalize x%(c:Int)=at_ at a0 a1 s6
 have ha:at_.toNat<J1.length:=by rw[jl];omega
 have hq:=zzE ha;have ea:((at_.toNat:Nat):Int)=at_:=by omega
 have s7:=J5 (as:=T7 (.lst<|ns.map .int) (zi n m J e Ds S) (zT c m J1 e1 D1 S1 r) (yF c m J1 e1 D1 S1 r) (sI at_) none) (k:=at_) rfl rfl a0 hq (by rw[(hK.j.2 _<|zxA ha).1];omega);generalize hJ2:J1.set at_.toNat (J1[at_.toNat]++[9])=J2 at s7
 have t3:WT (Zq<|YZ (fT<|f2 (v_ (f2 (f2 zA zN zg) yh zg) oN (oS yc) ZO) (v_ (f2 (f2 zo zN zg) yh zg) oN (oS yc) ZO)<|zB .NotEq)<|fT<|f2 (v_ (f2 (f2 zA zN zg) yh zg) (oS<|f2 yc zF zr) oN ZO) (v_ (f2 (f2 zo zN zg) yh zg) (oS<|f2 yc zF zr) oN ZO)<|zB .NotEq) (T7 (.lst<|ns.map .int) (zi n m J e Ds S) (zT c m J1 e1 D1 S1 r) (yF c m J2 e1 D1 S1 r) (sI at_) none) false:=by
  refine RT ?_;rw[Dp];have w1:=zW (as:=[sT<|.lst<|ns.map .int,sT<|zi n m J e Ds S,sT<|zT c m J1 e1 D1 S1 r,sT<|zT c m J2 e1 D1 S1 r,sI at_,(none:Option O).map O.frz,none]) (zW (za (i:=3) rfl) (zb (x:=.int 0)) (g:=zg) (z:=zi c m J2 e1 D1 S1) rfl) (zb (x:=.int 2)) (g:=zg) (z:=zm J2) rfl;have w2:=zW (as:=[sT<|.lst<|ns.map .int,sT<|zi n m J e Ds S,sT<|zT c m J1 e1 D1 S1 r,sT<|zT c m J2 e1 D1 S1 r,sI at_,(none:Option O).map O.frz,none]) (zW (za (i:=2) rfl) (zb (x:=.int 0)) (g:=zg) (z:=zi c m J1 e1 D1 S1) rfl) (zb (x:=.int 2)) (g:=zg) (z:=zm J1) rfl;have o1:oS yc [sT<|.lst<|ns.map .int,sT<|zi n m J e Ds S,sT<|zT c m J1 e1 D1 S1 r,sT<|zT c m J2 e1 D1 S1 r,sI at_,(none:Option O).map O.frz,none]=some (some at_,_):=Z4<|za (i:=4) rfl;have o2:oS (f2 yc zF zr) [sT<|.lst<|ns.map .int,sT<|zi n m J e Ds S,sT<|zT c m J1 e1 D1 S1 r,sT<|zT c m J2 e1 D1 S1 r,sI at_,(none:Option O).map O.frz,none]=some (some<|at_+1,_):=Z4<|yJ (za (i:=4) rfl)<|zb (x:=.int 1);have l2:J2.length=J1.length:=by rw[<-hJ2,zzU]
  have p1:=IU (f:=zc) (xs:=J2) (k:=at_.toNat) (by omega);have p2:=IU (f:=zc) (xs:=J1) (k:=at_.toNat) (by omega);have q1:=Wg (f:=zc) (xs:=J2) (k:=at_.toNat+1) (by omega);have q2:=Wg (f:=zc) (xs:=J1) (k:=at_.toNat+1) (by omega);rw[ea]at p1 p2;rw[Int.natCast_add,ea]at q1 q2;have k1:J2.take at_.toNat=J1.take at_.toNat:=by rw[<-hJ2,List.take_set_of_le<|zzN _]
  have k2:J2.drop (at_.toNat+1)=J1.drop (at_.toNat+1):=by rw[<-hJ2,List.drop_set_of_lt<|Nat.lt_succ_self _]
  rw[k1]at p1;rw[k2]at q1;exact Qt (k:=false) (zE (QR (q:=true) (wA (lo:=none) (hi:=some at_) (WD.e w1) Qg o1 p1) (wA (lo:=none) (hi:=some at_) (WD.e w2) Qg o1 p2) eqT) rfl) (λ_=>zE (QR (q:=true) (wA (lo:=some<|at_+1) (hi:=none) (WD.e w1) o2 Qg q1) (wA (lo:=some<|at_+1) (hi:=none) (WD.e w2) o2 Qg q2) eqT) rfl) (λz=>nomatch z)
 have t4:WT (Zq<|fT<|f2 (v_ (f2 zA zN zg) (oS y9) oN ZO) (v_ (f2 zo zN zg) (oS y9) oN ZO)<|zB .NotEq) (T7 (.lst<|ns.map .int) (zi n m J e Ds S) (zT c m J1 e1 D1 S1 r) (yF c m J2 e1 D1 S1 r) (sI at_) none) false:=by
  refine RT ?_;rw[Dp];exact zE (QR (q:=true) (WD.e<|tJ (i:=0)<|za (i:=3) rfl) (WD.e<|tJ (i:=0)<|za (i:=2) rfl) (by
   show GR (xq 59) [.lst<|D1.map zO,.lst<|S1.map ye] [.lst<|D1.map zO,.lst<|S1.map ye]=_;refine wg λx m=>?_
   rcases zzC.mp m with rfl|m
   . exact Jy
   rcases zzC.mp m with rfl|m
   . exact uv
   . exact nomatch m)) rfl
 obtain⟨D',e5,s9⟩:=Hw (c:=c) (m:=m) (J:=J1) (e:=e1) (Ds:=D1) (S:=S1) (r:=r) (N:=.lst<|ns.map .int) (A:=zi n m J e Ds S) (J':=J2) (e4:=sI at_) (m6:=hK.dl) (λp mp=>by
  have hT:=hK.ds p mp;cases z:p.2 with
  |nil=>have:=hT.1;rw[z]at this;simp at this;omega
  |cons q T=>exact⟨q,T,rfl,by have:=(hT.2 q<|by rw[z];exact zzF ..).1;omega⟩)
 have s10:=AH (as:=T7 (.lst<|ns.map .int) (zi n m J e Ds S) (zT c m J1 e1 D1 S1 r) (yF c m J2 e1 D' S1 r) (sI at_) e5) rfl;have s11:=Ap (as:=T7 (.lst<|ns.map .int) (zi n m J e Ds S) (zT c m J1 e1 D1 S1 r) (yF c m J2 e1 D' S1 []) (sI at_) e5) rfl;have w12:WD (zv (aC (zv (aC zh aN) xh)<|aC zo aN) xI) [sT<|.lst<|ns.map .int,sT<|zi n m J e Ds S,sT<|zT c m J1 e1 D1 S1 r,none,sI at_,e5,none] true (.bl true):=by
  refine HN (x:=zT c m J1 e1 D1 S1 r) ⟨_,TM (WD.e<|za (i:=1) rfl) hL,Mx, ?_⟩ (WD.e<|za (i:=2) rfl) hts;exact(O.lf.inj<|Hi (c:=c) (m:=m) (J:=J1) (e:=e1) (Ds:=D1) (S:=S1) (r:=r)).2
 exact Yj rfl<|zV s1<|zV s2<|zV s3<|zV (zZ t1 rfl)<|zV (zZ t2 rfl)<|zV s6<|zV s7<|zV (zZ t3 rfl)<|zV (zZ t4 rfl)<|zV s9<|zV s10<|zV s11<|XD<|M6 (k:=true) (OB (q:=true) (WD.e<|za (i:=1) rfl) (xX (WD.e<|za (i:=0) rfl) hA) qe) (λ_=>w12) (λz=>nomatch z)
end
end G53
end
end
open PySem PySem.W PyProof.Rows
set_option maxRecDepth 100000 in
set_option maxHeartbeats 0 in
theorem PySem.Challenge.cw_stretchdeeds_k53_least_algebras_holds : PySem.Challenge.rw_stretchdeeds_k53_least_algebras.Holds := by
 w_on;refine holds_law G53.ws λsaid=>?_
 refine holds_open (q:=G53.qv) (loose:=[]) (Xt:=G53.Xt) (XP:=XL G53.qv []) (Yf:=Hook.obs<|kHook G53.K G53.kA G53.kAe) (Ya:=Hook.val<|kHook G53.K G53.kA G53.kAe) (YP:=Hook.says<|kHook G53.K G53.kA G53.kAe) (N:=6000) G53.hl (Hook.of<|kHook G53.K G53.kA G53.kAe) (Hook.keeps<|kHook G53.K G53.kA G53.kAe) (λs e=>xl_of s (Bool.and_eq_true_iff.mp e).1) XL.keeps (by rfl) (by rfl) (by rfl) (λs e=>recFacts_of (Bool.and_eq_true_iff.mp e).2) (by rfl) (by first|assumption|decide +kernel) (by decide +kernel) ⟨rfl,rfl,rfl,rfl,rfl,by decide +kernel⟩ ?hw ?hc
 (case hw=>w_witness2)
 k_fill
 refine G53.walk (l:=PySem.Challenge.rw_stretchdeeds_k53_least_algebras) rfl rfl (λw h Y=>W.kIn_of Y) (λ_ _=>G53.Hu) ?F
 case F=>
  intro w mg fa h KX G hmg;refine' G53.Dk KX G hmg ?_ ?_ ?_ ?_ ?_ ?_ ?_ ?_ ?_ ?_ ?_ ?_ ?_ ?_ ?_ ?_ ?_ ?_ ?_ ?_ ?_ ?_ ?_ ?_ ?_ ?_ ?_ ?_ ?_ ?_ ?_ ?_ ?_ ?_ ?_ ?_ ?_ ?_ ?_ ?_ ?_ ?_ ?_ ?_ ?_ ?_ ?_ ?_ ?_ ?_ ?_ ?_ ?_ ?_ ?_ ?_ ?_ ?_ ?_
  all_goals try first|k_is|(change _=_;k_is)|exact⟨_,⟨_,_,_,_,_,_,_,_,_,rfl,by k_is,by k_is⟩,by k_is⟩|(refine⟨?_, ?_⟩;(change _=_;k_is);exact⟨_,⟨_,_,_,_,_,_,_,_,_,rfl,by k_is,by k_is⟩,by k_is⟩)|rfl
#print axioms PySem.Challenge.cw_stretchdeeds_k53_least_algebras_holds
