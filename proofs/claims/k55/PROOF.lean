import PyProof.Rows.All
import Wide.All
import OpenK.AllK
import PySem.Challenge.RW_stretchdeeds_k55_pictures
set_option Elab.async false
set_option linter.all false
set_option maxRecDepth 100000
set_option genSizeOf false
set_option compiler.extract_closed false
set_option bootstrap.genMatcherCode false
noncomputable section
abbrev zzA:=PySem.W.Frag
abbrev zzB:=@List.length_map
abbrev zzC:=@List.mem_cons
abbrev zzD:=@List.mem_cons_of_mem
abbrev zzE:=@List.getElem?_eq_getElem
abbrev zzF:=@List.mem_cons_self
abbrev zzG:=@List.getElem?_eq_some_iff
abbrev zzH:=@List.size_toArray
abbrev zzI:=@List.getElem?_map
abbrev zzJ:=@List.length_append
abbrev zzK:=@Nat.lt_of_lt_of_le
abbrev zzL:=@List.mem_append_right
abbrev zzM:=@List.mem_append
abbrev zzN:=@Nat.le_refl
abbrev zzO:=@Nat.le_trans
abbrev zzP:=@List.mem_append_left
abbrev zzQ:=@Nat.ne_of_lt
abbrev zzR:=@List.mem_singleton
abbrev zzS:=@List.length_take
abbrev zzT:=@List.length_cons
abbrev zzU:=@List.length_set
abbrev zzV:=@Int.natCast_mul
abbrev zzW:=@List.nodup_cons
abbrev zzX:=@Option.map_eq_some_iff
abbrev zzY:=@List.getElem?_set_ne
abbrev zzZ:=@Option.some.inj
abbrev zyA:=@List.mem_of_getElem?
abbrev zyB:=@List.map_map
abbrev zyC:=@Bool.and_eq_true
abbrev zyD:=@Bool.or_true
abbrev zyE:=@List.append_nil
abbrev zyF:=@List.getD_eq_getElem?_getD
abbrev zyG:=@decide_eq_false
abbrev zyH:=@Int.emod_lt_of_pos
abbrev zyI:=@Int.toNat_natCast
abbrev zyJ:=@List.nodup_nil
abbrev zyK:=@List.getElem?_set_self
abbrev zyL:=@Option.bind_some
abbrev zyM:=@List.map_append
abbrev zyN:=@Int.emod_nonneg
abbrev zyO:=@decide_eq_true
abbrev zyP:=@List.getElem?_append_left
abbrev zyQ:=@List.drop_eq_getElem_cons
abbrev zyR:=@List.getElem?_append_right
abbrev zyS:=@List.map_cons
abbrev zyT:=@Array.length_toList
abbrev zyU:=@List.length_range
abbrev zyV:=@List.getElem?_of_mem
abbrev zyW:=@Bool.false_ne_true
abbrev zyX:=@Nat.le_succ
abbrev zyY:=@Nat.zero_add
abbrev zyZ:=@Int.toNat_of_nonneg
abbrev zxA:=@List.getElem_mem
abbrev zxB:=@Nat.lt_succ_of_lt
abbrev zxC:=@List.not_mem_nil
abbrev zxD:=@List.append_assoc
abbrev zxE:=@List.mem_map
abbrev zxF:=@List.nodup_append
abbrev zxG:=@PySem.wpAny_bind
abbrev zxH:=@PySem.wpAny_pure
abbrev zxI:=@PySem.Heap.get?_push_of_some
abbrev zxJ:=@PySem.Heap.lt_size
abbrev zxK:=@PySem.Heap.get?_push_size
abbrev zxL:=@PySem.wpAny_newObj_type
abbrev zxM:=@PySem.wpAny_holding
abbrev zxN:=@PySem.Heap.size_push
abbrev zxO:=@PySem.Heap.get?_update_self
abbrev zxP:=@PySem.wpAny_mono
abbrev zxQ:=@PySem.wpAny_call_entry
section
namespace L2
open PySem PySem.Spec PyProof.Rows
abbrev Key:=Sum Int Str
def Ug:Key->Value->Bool
 | .inl k,.bool b=>(if b then 1 else 0)==k
 | .inl k,v=>Value.isInt k v
 | .inr x,v=>Value.isStrOf x v
def rH(w:World):Key->Int
 | .inl k=>hashInt k
 | .inr x=>hashStr w x
def yN:∀{k:Key}{v:Value},Ug k v=true->(∃i t,k=Sum.inl i/\v=Value.int i t)\/(∃x t,k=Sum.inr x/\v=Value.str x t)\/(∃b,k=Sum.inl (if b=true then 1 else 0)/\v=Value.bool b)
 | .inl i,v,h=>by
  by_cases hb:∃b,v=Value.bool b
  . obtain⟨b,rfl⟩:=hb;have h:((if b=true then 1 else 0)==i)=true:=h;exact .inr<|.inr ⟨b,by rw[eq_of_beq h],rfl⟩
  . have h':Value.isInt i v=true:=by
     cases v<;>first|exact h|exact(hb ⟨_,rfl⟩).elim
    obtain⟨t,e⟩:=Value.isInt_shape (k:=i) (v:=v) h';exact .inl ⟨i,t,rfl,e⟩
 | .inr x,v,h=>by
  obtain⟨t,e⟩:=Value.isStrOf_shape (x:=x) (v:=v) h;exact .inr<|.inl ⟨x,t,rfl,e⟩
def SD(b:Bool):Ug (.inl (if b=true then 1 else 0)) (.bool b)=true:=by simp[Ug]
def B8(i:Int)(t:Tok):Ug (.inl i) (.int i t)=true:=by simp[Ug,Value.isInt]
def Sd(x:Str)(t:Tok):Ug (.inr x) (.str x t)=true:=by simp[Ug,Value.isStrOf]
def Ls(a b:Int):decide ((Sum.inl a:Key)=Sum.inl b)=(a==b):=by
 by_cases e:a=b
 . subst e;simp
 . have h:¬(Sum.inl a:Key)=Sum.inl b:=λq=>e<|Sum.inl.inj q;rw[zyG h];exact(beq_eq_false_iff_ne.mpr e).symm
def Ar(a b):decide ((Sum.inr a:Key)=Sum.inr b)=decide (a=b):=by
 by_cases e:a=b
 . subst e;simp
 . have h:¬(Sum.inr a:Key)=Sum.inr b:=λq=>e<|Sum.inr.inj q;rw[zyG h,zyG e]
def O5(a)(b):decide ((Sum.inl a:Key)=Sum.inr b)=false:=zyG (λq=>nomatch q)
def Hz(a)(b):decide ((Sum.inr a:Key)=Sum.inl b)=false:=zyG (λq=>nomatch q)
def C3{prog:Program}{w:World}{A:Around}{E:Value->Shared->Prop}{s:Shared}{b:Bool}{Q:Int->Shared->Prop}(h:Q (hashInt (if b=true then 1 else 0)) {s with toks:=s.toks+1}):wpAny (model prog w) A (PySem.pyHash<|.bool b) Q E s:=by
 refine W.pyHash_slot (B:=_) (v:=.bool b) rfl PySem.F.slot_bool_hash entry_int_hash (args_int_hash _) (beq_builtin_none _) (.inl rfl) ?_;have one:∀n:Int,Q (PySem.reduceHash n) {s with toks:=s.toks+1}->wpAny (model prog w) A.in1 (do ret (<-mkInt n)) (λfin s'=>∃n t,fin = .done (.ret<|.int n t)/\Q (PySem.reduceHash n) s') E s:=λn z=>zxG<|wpAny_mkInt<|zxH ⟨_,_,rfl,z⟩;cases b with
 |false=>exact one 0 h
 |true=>exact one 1 h
def xf(prog:Program)(w:World):PySem.KeyKind prog w Key where
 is:=Ug
 hash:=rH w
 inj:=λv a b ha hb=>by
  rcases yN ha with⟨i,t,rfl,rfl⟩|⟨x,t,rfl,rfl⟩|⟨c,rfl,rfl⟩
  . rcases yN hb with⟨j,u,rfl,e⟩|⟨y,u,rfl,e⟩|⟨d,rfl,e⟩
    . injection e with e1 _;rw[e1]
    . exact nomatch e
    . exact nomatch e
  . rcases yN hb with⟨j,u,rfl,e⟩|⟨y,u,rfl,e⟩|⟨d,rfl,e⟩
    . exact nomatch e
    . injection e with e1 _;rw[e1]
    . exact nomatch e
  . rcases yN hb with⟨j,u,rfl,e⟩|⟨y,u,rfl,e⟩|⟨d,rfl,e⟩
    . exact nomatch e
    . exact nomatch e
    . injection e with e1;rw[e1]
 byValue:=λk v h=>by
  rcases yN h with⟨i,t,rfl,rfl⟩|⟨x,t,rfl,rfl⟩|⟨c,rfl,rfl⟩<;>rfl
 pyHash:=λhv h=>by
  rcases yN hv with⟨i,t,rfl,rfl⟩|⟨x,t,rfl,rfl⟩|⟨c,rfl,rfl⟩
  . exact wpAny_pyHash_int h
  . exact wpAny_pyHash_str h
  . exact C3 h
 eqBool:=λhu hv h=>by
  rcases yN hu with⟨i,t,rfl,rfl⟩|⟨x,t,rfl,rfl⟩|⟨c,rfl,rfl⟩
  . rcases yN hv with⟨j,u,rfl,rfl⟩|⟨y,u,rfl,rfl⟩|⟨d,rfl,rfl⟩
    . rw[Ls]at h;exact wpAny_eqBool_int h
    . rw[O5]at h;exact SeqAt.EqAt.int_str i t y u _ _ _ _ h
    . rw[Ls]at h;exact SeqAt.EqAt.int_bool i t d _ _ _ _ h
  . rcases yN hv with⟨j,u,rfl,rfl⟩|⟨y,u,rfl,rfl⟩|⟨d,rfl,rfl⟩
    . rw[Hz]at h;exact SeqAt.EqAt.str_int x t j u _ _ _ _ h
    . rw[Ar]at h;exact wpAny_eqBool_str h
    . rw[Hz]at h;exact SeqAt.EqAt.str_bool x t d _ _ _ _ h
  . rcases yN hv with⟨j,u,rfl,rfl⟩|⟨y,u,rfl,rfl⟩|⟨d,rfl,rfl⟩
    . rw[Ls]at h;exact SeqAt.EqAt.bool_int c j u _ _ _ _ h
    . rw[O5]at h;exact SeqAt.EqAt.bool_str c y u _ _ _ _ h
    . rw[Ls]at h;exact SeqAt.EqAt.bool_bool c d _ _ _ _ (by
       have e:(((if c=true then 1 else 0:Int))==(if d=true then 1 else 0))=(c==d):=by cases c<;>cases d<;>rfl
       rw[e]at h;exact h)
 «strs» := λk x t v h=>by
  rcases yN h with⟨i,u,rfl,e⟩|⟨y,u,rfl,e⟩|⟨d,rfl,e⟩
  . exact nomatch e
  . injection e with e1 _
    subst e1;cases v<;>rfl
  . exact nomatch e
def Mb(prog)(w)(i)(t):(xf prog w).is (.inl i) (.int i t)=true:=B8 i t
def XJ(prog)(w)(x)(t):(xf prog w).is (.inr x) (.str x t)=true:=Sd x t
end L2
namespace L2
open PySem PySem.Spec PyProof.Rows
inductive V where
 |non|bl (b:Bool)|int (i:Int)|str (x:Str)|byt (b:Array UInt8)|flt (b:UInt64)|ref (a:Addr)|ty (n:String)
 deriving DecidableEq
def RelV:V->Value->Prop
 | .non,u=>u=Value.none
 | .bl b,u=>u=Value.bool b
 | .int i,u=>∃t,u=Value.int i t
 | .str x,u=>∃t,u=Value.str x t
 | .byt b,u=>∃t,u=Value.bytes b t
 | .flt b,u=>∃t,u=Value.float b t
 | .ref a,u=>u=Value.ref a
 | .ty n,u=>u=Value.type n
abbrev ya:List V->List Value->Prop:=Paired RelV
theorem ya.length(r:ya xs us):xs.length=us.length:=Paired.length r
theorem ya.get:∀{xs:List V}{us:List Value}{i:Nat}{x:V},ya xs us->xs[i]? = some x->∃u,us[i]? = some u/\RelV x u
 |_,_,_,_,.nil,e=>by simp at e
 |_,_,0,_,.cons r _,e=>by simp at e;subst e;exact⟨_,rfl,r⟩
 |_,_,i+1,x,.cons _ t,e=>by
  obtain⟨u,h1,h2⟩:=ya.get t (by simpa using e);exact⟨u,by simpa using h1,h2⟩
theorem ya.set(r:RelV x u):∀{xs:List V}{us:List Value}(i:Nat),ya xs us->ya (xs.set i x) (us.set i u)
 |_,_,_,.nil=>.nil
 |_,_,0,.cons _ t=>.cons r t
 |_,_,i+1,.cons q t=>.cons q<|ya.set r i t
theorem ya.append:∀{xs ys:List V}{us ws:List Value},ya xs us->ya ys ws->ya (xs++ys) (us++ws)
 |_,_,_,_,.nil,s=>s
 |_,_,_,_,.cons r t,s=>.cons r<|ya.append t s
theorem ya.take:∀{xs:List V}{us:List Value}(n:Nat),ya xs us->ya (xs.take n) (us.take n)
 |_,_,0,_=>.nil
 |_,_,_+1,.nil=>.nil
 |_,_,n+1,.cons r t=>.cons r<|ya.take n t
theorem ya.drop:∀{xs:List V}{us:List Value}(n:Nat),ya xs us->ya (xs.drop n) (us.drop n)
 |_,_,0,r=>r
 |_,_,_+1,.nil=>.nil
 |_,_,n+1,.cons _ t=>ya.drop n t
def T7:Option V->Option Value->Prop
 |some v,some u=>RelV v u
 |none,none=>True
 |_,_=>False
def KV{κ:Type}:List (κ×V)->List (κ×Value)->Prop:=Paired λ(p:κ×V) (q:κ×Value)=>p.1=q.1/\RelV p.2 q.2
def kV:Key->V
 | .inl i=>.int i
 | .inr x=>.str x
inductive HO where
 |lst (xs:List V)
 |tup (xs:List V)
 |dK (kvs:List (Key×V))|dT (kvs:List (List Key×V))
 |set (S:Int->Bool) (n:Nat)
 |ins (C dx:Addr) (fs:List (Str×V))
 |own (x:Addr)
 |xd (fs:List (Str×V))
 |met (f x:Addr)
 |rng (lo hi:Int)
 |frz (o:Obj) (u:HO)
 |tbl (ps:Array Value)
 |ext (φ:Heap->Prop)
abbrev Hp:=Addr->Option HO
def upd(H:Hp)(a:Addr)(o:HO):Hp:=λb=>if b=a then some o else H b
def yy:upd H a o a=some o:=by unfold upd;rw[if_pos rfl]
def zX(h:b≠a):upd H a o b=H b:=by unfold upd;rw[if_neg h]
def u0{H:Hp}{a b o u}(h:H a=some o)(h':H b=some u)(d:o≠u):a≠b:=by
 intro e;subst e;rw[h]at h';exact d<|zzZ h'
def yC{H:Hp}{a b o}(h:H a=some o)(h':H b=none):a≠b:=by
 intro e;subst e;rw[h]at h';cases h'
def kO:V->Option Key
 | .int i=>some (.inl i) | .str x=>some (.inr x) | .bl b=>some (.inl (if b=true then 1 else 0))|_=>none
def KC(H:Hp)(b:Addr)(k:List Key):Prop:=∃vs,H b=some (.tup vs)/\vs.map kO=k.map some
def KC.mono{H H':Hp}{b:Addr}{k:List Key}(h:KC H b k)(ht:∀ys,H b=some (.tup ys)->H' b=some (.tup ys)):KC H' b k:=let⟨vs,h1,h2⟩:=h;⟨vs,ht _ h1,h2⟩
section
variable(P:Program)(w:World)
def xW(H:Hp)(h:Heap)(a:Addr):HO->Prop
 | .lst xs=>xs.length<=sizeLine/\∃(its:List Value) (n:Nat),ya xs its/\h.get? a=some {cls:=.type "list",data:=.seq its.toArray n}
 | .tup xs=>xs.length<=sizeLine/\∃its:List Value,ya xs its/\IsTup h a its.toArray
 | .dK kvs=>kvs.length<=sizeLine/\(a==sysModules)=false/\∃vs,KV kvs vs/\h.DictOf (xf P w) a vs
 | .dT kvs=>kvs.length<=sizeLine/\(a==sysModules)=false/\∃xs:List (List Key×Addr×Value),
  Paired (λ(p:List Key×V) (q:List Key×Addr×Value)=>p.1=q.1/\KC H q.2.1 p.1/\RelV p.2 q.2.2) kvs xs/\
  ∃o es ep,h.get? a=some o/\o.ExactDict/\o.data = .dict es ep/\es.toList=xs.map (entryOfKey<|tupleKind<|xf P w)/\(xs.map (·.1)).Nodup
 | .set S n=>h.SetOf (intKind P w) a S n
 | .ins C dx fs=>H dx=some (.own a)/\fs.length<=1000/\dx≠a/\h.get? a=some (W.instObj C dx)/\
  ∃mA,h.Ns1 dx mA/\(∀f,T7 (fs.lookup f)<|mA f)/\PySem.Within mA (fs.map (·.1))
 | .own _=>∃o,h.get? a=some o
 | .xd fs=>∃mA,h.Ns1 a mA/\∀f,T7 (fs.lookup f)<|mA f
 | .rng lo hi=>∃t u v,h.get? a=some {cls:=.type "range",data:=.fields #[.int lo t,.int hi u,.int 1 v]}
 | .frz o u=>h.get? a=some o/\xW H h a u
 | .tbl ps=>h.get? a=some {cls:=.none,data:=.fields ps}
 | .met f x=>h.get? a=some (W.methodObj (.ref f)<|.ref x)
 | .ext φ=>φ h/\(∃o,h.get? a=some o)/\∀h1 h2:Heap,φ h1->(∀o,h1.get? a=some o->h2.get? a=some o)->φ h2
def Qz(H:Hp)(h:Heap):Prop:=∀a o,H a=some o->xW P w H h a o
end
section
variable{P:Program}{w:World}{H H':Hp}{h h':Heap}{a:Addr}{o:HO}
theorem xW.lt(x:xW P w H h a o):a<h.objs.size:=by
 cases o with
 |lst xs=>obtain⟨_,_,_,_,e⟩:=x;exact zxJ e
 |tup xs=>obtain⟨_,_,_,p⟩:=x;exact p.lt
 |dK kvs=>obtain⟨_,_,_,_,o,_,_,e,_⟩:=x;exact zxJ e
 |dT kvs=>obtain⟨_,_,_,_,o,_,_,e,_⟩:=x;exact zxJ e
 |set S n=>obtain⟨o,_,_,_,e,_⟩:=x;exact zxJ e
 |ins C dx fs=>obtain⟨_,_,_,e,_⟩:=x;exact zxJ e
 |own y=>obtain⟨_,e⟩:=x;exact zxJ e
 |xd fs=>obtain⟨_,⟨_,_,_,e,_⟩,_⟩:=x;exact zxJ e
 |rng lo hi=>obtain⟨_,_,_,e⟩:=x;exact zxJ e
 |frz ob u=>obtain⟨e,_⟩:=x;exact zxJ e
 |tbl ps=>exact zxJ (x)
 |met f y=>exact zxJ (x)
 |ext φ=>obtain⟨_,⟨_,e⟩,_⟩:=x;exact zxJ e
theorem Paired.mapP:∀{l₁:List α}{l₂:List β},Paired F l₁ l₂->(∀a b,F a b->G a b)->Paired G l₁ l₂
 |_,_,.nil,_=>.nil
 |_,_,.cons r t,f=>.cons (f _ _ r)<|Paired.mapP t f
def xW.stay(x:xW P w H h a o)(k:∀b u,(b=a\/H b=some (.own a))->h.get? b=some u->h'.get? b=some u)
 (ho:∀b,H b=some (.own a)->H' b=some (.own a)) (ht:∀b xs,H b=some (.tup xs)->H' b=some (.tup xs)):xW P w H' h' a o:=by
 induction o with
 |lst xs=>obtain⟨z,its,n,r,e⟩:=x;exact⟨z,its,n,r,k _ _ (.inl rfl) e⟩
 |tup xs=>obtain⟨z,its,r,ob,e,c⟩:=x;exact⟨z,its,r,ob,k _ _ (.inl rfl) e,c⟩
 |dK kvs=>obtain⟨z,y,vs,r,ob,es,ep,e,c⟩:=x;exact⟨z,y,vs,r,ob,es,ep,k _ _ (.inl rfl) e,c⟩
 |dT kvs=>
  obtain⟨z,y,xs,r,ob,es,ep,e,c⟩:=x;exact⟨z,y,xs,Paired.mapP r λp q z=>⟨z.1,z.2.1.mono λys=>ht _ ys,z.2.2⟩,ob,es,ep,k _ _ (.inl rfl) e,c⟩
 |set S n=>obtain⟨ob,es,ep,t,e,c⟩:=x;exact⟨ob,es,ep,t,k _ _ (.inl rfl) e,c⟩
 |ins C dx fs=>
  obtain⟨d,z,ne,e,mA,⟨od,es,ep,e2,c⟩,r⟩:=x;exact⟨ho _ d,z,ne,k _ _ (.inl rfl) e,mA,⟨od,es,ep,k _ _ (.inr d) e2,c⟩,r⟩
 |own y=>obtain⟨ob,e⟩:=x;exact⟨ob,k _ _ (.inl rfl) e⟩
 |xd fs=>obtain⟨mA,⟨od,es,ep,e,c⟩,r⟩:=x;exact⟨mA,⟨od,es,ep,k _ _ (.inl rfl) e,c⟩,r⟩
 |rng lo hi=>obtain⟨t,u,v,e⟩:=x;exact⟨t,u,v,k _ _ (.inl rfl) e⟩
 |frz ob u ih=>obtain⟨e,q⟩:=x;exact⟨k _ _ (.inl rfl) e,ih q⟩
 |tbl ps=>
  have e:=x;exact k a _ (.inl rfl) e
 |met f y=>
  have e:=x;exact k a _ (.inl rfl) e
 |ext φ=>obtain⟨p,⟨o,e⟩,st⟩:=x;exact⟨st _ _ p λo q=>k _ _ (.inl rfl) q,⟨o,k _ _ (.inl rfl) e⟩,st⟩
theorem Qz.lt(x:Qz P w H h)(e:H a=some o):a<h.objs.size:=(x a o e).lt
def Qz.fresh(x:Qz P w H h)(e:h.objs.size<=a):H a=none:=by
 cases q:H a with
 |none=>rfl
 |some u=>exact absurd (zzK (x.lt q) e) (Nat.lt_irrefl _)
def Qz.kept(x:Qz P w H h)(k:∀b u,h.get? b=some u->h'.get? b=some u):Qz P w H h':=λa o e=>
 (x a o e).stay (λb u _ q=>k b u q) (λ_ q=>q) λ_ _ q=>q
def Qz.laid(x:Qz P w H h)(k:∀b u,h.get? b=some u->h'.get? b=some u)(hp:h.objs.size<=a)(new:xW P w (upd H a o) h' a o):Qz P w (upd H a o) h':=λb u e=>by
 have hn:=x.fresh hp
 by_cases hb:b=a
 . subst hb;rw[yy]at e;cases e;exact new
 . rw[zX hb]at e;exact(x b u e).stay (λc v _ q=>k c v q) (λc q=>by rw[zX<|yC q hn];exact q) λc xs q=>by rw[zX<|yC q hn];exact q
end
def Rd(H:Hp)(a:Addr)(u:HO):Prop:=H a=some u\/∃o,H a=some (.frz o u)
def Rd.ok(r:Rd H a u)(x:Qz P w H h):xW P w H h a u:=by
 rcases r with r|⟨o,r⟩
 . exact x a u r
 . obtain⟨_,q⟩:=x a _ r;exact q
def uS:Option HO->Prop
 |some (.lst _)=>True
 |some (.dK _)=>True
 |some (.dT _)=>True
 |some (.set _ _)=>True
 |some (.ins _ _ _)=>True
 |some (.ext _)=>True
 |_=>False
section
variable{P:Program}{w:World}{H:Hp}{h h':Heap}{x e:Addr}{o':HO}
def Qz.write(ok:Qz P w H h)(mu:uS (H x))(he:e=x\/H e=some (.own x))(k:∀b u,b≠e->h.get? b=some u->h'.get? b=some u)(heo:∃u,h'.get? e=some u)
 (new:xW P w (upd H x o') h' x o'):Qz P w (upd H x o') h':=λb u q=>by
 have nown:∀c y,H c=some (.own y)->c≠x:=λc y r z=>by subst z;rw[r]at mu;exact mu
 have ntup:∀c xs,H c=some (.tup xs)->c≠x:=λc xs r z=>by subst z;rw[r]at mu;exact mu
 by_cases hb:b=x
 . subst hb;rw[yy]at q;cases q;exact new
 . rw[zX hb]at q
   by_cases hbe:b=e
   . have q':H b=some (.own x):=by
      rcases he with z|z
      . exact absurd (hbe.trans z) hb
      . rw[hbe];exact z
     rw[q]at q';cases q';obtain⟨v,hv⟩:=heo;exact⟨v,by rw[hbe];exact hv⟩
   . refine(ok b u q).stay (λc v hc r=>k c v ?_ r) (λc r=>by rw[zX<|nown c b r];exact r) λc xs r=>by rw[zX<|ntup c xs r];exact r
     rcases hc with rfl|hc
     . exact hbe
     . rintro rfl
       rcases he with z|z
       . exact nown c b hc z
       . rw[hc]at z;cases z;exact hb rfl
end
structure Un(fs ex:List Addr)(H H':Hp)(h h':Heap):Prop where
 keep:∀b o,h.get? b=some o->H b=none->b ∉ fs->b ∉ ex->h'.get? b=some o
 slot:∀b o,h.get? b=some o->H b=none->b ∈ fs->b ∉ ex->∃sl,h'.get? b=some {o with slots:=sl}
 free:∀b o,h.get? b=some o->H b=none->b ∉ ex->H' b=none
 there:∀b o,h.get? b=some o->b ∉ ex->∃o',h'.get? b=some o'
 tups:∀b xs,H b=some (.tup xs)->H' b=some (.tup xs)
 frzs:∀b o u,H b=some (.frz o u)->H' b=some (.frz o u)
 tbls:∀b ps,H b=some (.tbl ps)->∃more,H' b=some (.tbl<|ps++more)
section
variable{fs fs' ex ex':List Addr}{H H1 H2:Hp}{h h1 h2 h':Heap}{a x e:Addr}{o:HO}
def Un.any(u:Un fs ex H H1 h h1)(q:h.get? b=some ob)(n:H b=none)(hx:b ∉ ex):∃sl,h1.get? b=some {ob with slots:=sl}:=by
 by_cases hb:b ∈ fs
 . exact u.slot b ob q n hb hx
 . exact⟨ob.slots,u.keep b ob q n hb hx⟩
def Un.kept(k:∀b u,h.get? b=some u->h'.get? b=some u):Un fs ex H H h h':=
 ⟨λb ob q _ _ _=>k b ob q,λb ob q _ _ _=>⟨ob.slots,k b ob q⟩,λ_ _ _ n _=>n,λb ob q _=>⟨ob,k b ob q⟩,λ_ _ q=>q,λ_ _ _ q=>q,λ_ ps q=>⟨#[],by rw[q];simp⟩⟩
def Un.refl:Un fs ex H H h h:=Un.kept λ_ _ q=>q
def Un.laid(k:∀b u,h.get? b=some u->h'.get? b=some u)(hp:h.objs.size<=a)(hn:H a=none):Un fs ex H (upd H a o) h h' where
 keep:=λb u q _ _ _=>k b u q
 slot:=λb u q _ _ _=>⟨u.slots,k b u q⟩
 free:=λb u q n _=>by rw[zX<|zzQ<|zzK (zxJ q) hp];exact n
 there:=λb u q _=>⟨u,k b u q⟩
 tups:=λb xs q=>by rw[zX<|yC q hn];exact q
 frzs:=λb u xs q=>by rw[zX<|yC q hn];exact q
 tbls:=λb ps q=>⟨#[],by rw[zX<|yC q hn,q];simp⟩
def Un.write(mu:uS (H x))(he:e=x\/H e=some (.own x))(k:∀b u,b≠e->h.get? b=some u->h'.get? b=some u)(heo:∃u,h'.get? e=some u):Un fs ex H (upd H x o) h h':=by
 have hx:∀b,H b=none->b≠x:=λb n z=>by subst z;rw[n]at mu;exact mu
 have hb:∀b,H b=none->b≠e:=λb n z=>by
  subst z
  rcases he with r|r
  . exact hx b n r
  . rw[n]at r;cases r
 have hm:∀b u,H b=some u->¬uS (some u)->b≠x:=λb u q nm z=>by subst z;rw[q]at mu;exact nm mu
 refine⟨λb u q n _ _=>k b u (hb b n) q,λb u q n _ _=>⟨u.slots,k b u (hb b n) q⟩,λb u q n _=>by rw[zX<|hx b n];exact n,λb u q _=>?_,
  λb xs q=>by rw[zX<|hm b _ q λz=>z];exact q,λb u xs q=>by rw[zX<|hm b _ q λz=>z];exact q,λb ps q=>⟨#[],by rw[zX<|hm b _ q λz=>z,q];simp⟩⟩
 by_cases hbe:b=e
 . subst hbe;exact heo
 . exact⟨u,k b u hbe q⟩
end
def trk(h:Heap)(H:Hp):List Addr:=(List.range h.objs.size).filter λa=>(H a).isSome
def Bw(h:Heap)(H:Hp):Heap:=W.hideAll h<|trk h H
def BZ(h)(H):(Bw h H).objs.size=h.objs.size:=W.hideAll_size _ _
def Of(e:h.get? b=some o)(n:H b=none):(Bw h H).get? b=some o:=
 W.hideAll_get _ e λhm=>by
  have q:=(List.mem_filter.mp hm).2;rw[n]at q;simp at q
def Jb(e:(Bw h H).get? b=some o):h.get? b=some o/\H b=none:=by
 have e':h.get? b=some o:=W.of_hideAll _ e;refine⟨e', ?_⟩;cases q:H b with
 |none=>rfl
 |some x=>
  have hm:b ∈ trk h H:=List.mem_filter.mpr ⟨List.mem_range.mpr<|zxJ e',by simp[q]⟩;have z:(Bw h H).get? b=none:=W.hideAll_none _ hm;rw[z]at e;cases e
end L2
namespace L2
open PySem PySem.Spec PyProof.Rows
structure Mod(K:zzA)(mg:Str->Option Value)(base:Heap):Prop where
 kin:K.In base
 glob:base.Ns mainGlobals mg
 blt:∃mb,base.Ns builtinsNs mb/\∀x:Str,x≠"__name__"->mb x=bootBuiltins x
 nolimit:base.NoLimit
structure Cx where
 prog:Program
 w:World
 K:zzA
 mg:Str->Option Value
 base:Heap
 A:Around
 N:List Str
 s₀:Shared
 H₀:Hp
 env:Env
 outer:List Env
 stack:List Env
 ex:List Addr
 fn:Str->Bool
 calm:Bool
 pn:List (Addr×Obj)
 xe:Value->Shared->Prop
def Sq(l:List Env):List Addr:=l.filterMap (·.frame)
abbrev Cx.fs(X:Cx):List Addr:=Sq X.outer
def sX(sc:Scope)(x:Str):Prop:=sc.names.lookup x=some .local\/sc.names.lookup x=some .cell\/sc.names.lookup x=some .free
def Loc(sc:Scope)(x:Str):Prop:=sc.names.lookup x=some .local\/sc.names.lookup x=some .cell
def Look(env:Env)(h:Heap)(m:Str->Option Value)(x:Str)(u:Value):Prop:=
 (env.kindOf x=some .local/\m x=some u)\/((env.kindOf x=some .cell\/env.kindOf x=some .free)/\∃c,env.cells.lookup x=some c/\h.IsCell c (some u))
structure Cx.Ok(X:Cx):Prop where
 mod:Mod X.K X.mg X.base
 kind:X.env.scope.kind = .function
 glob:X.env.globals=mainGlobals
 blt:X.env.builtins=builtinsNs
 above:X.s₀.heap.objs.size<=X.env.locals
 inj:∀x y c,X.env.cells.lookup x=some c->X.env.cells.lookup y=some c->x=y
 has:∀x,(X.env.kindOf x=some .cell\/X.env.kindOf x=some .free)->∃c,X.env.cells.lookup x=some c
 cab:∀x c,X.fn x=true->X.env.cells.lookup x=some c->X.s₀.heap.objs.size<=c
 hd:X.calm=true->X.A.handled=none
 frames:X.A.frames=some X.stack
 stk:X.stack=X.outer\/(X.stack=X.env::X.outer/\X.env.frame=some X.env.locals)
 exf:∀b ∈ X.ex,b≠X.env.locals/\∀x c,X.env.cells.lookup x=some c->c≠b
 bs:∀b o,X.base.get? b=some o->X.s₀.heap.get? b=some o/\X.H₀ b=none
 bsz:X.base.objs.size<=X.s₀.heap.objs.size
 noex:∀b o,X.base.get? b=some o->b ∉ X.ex
 exfs:∀b ∈ X.ex,b ∉ X.fs
 funs:X.s₀.heap.FunFrames X.base X.outer
 frf:∀b ∈ X.fs,X.H₀ b=none
structure Inv(X:Cx)(pins:List (Addr×Obj))(σ:List (Option V))(H:Hp)(s:Shared):Prop where
 ok:X.Ok
 os:s.os=X.s₀.os
 bare:AllBare s.gens
 base:Un X.fs X.ex X.H₀ H X.s₀.heap s.heap
 loc:∃m,s.heap.Ns X.env.locals m/\∀(i:Nat) (x:Str) (v:V),X.N[i]? = some x->σ[i]? = some (some v)->sX X.env.scope x->∃u,RelV v u/\Look X.env s.heap m x u
 cell:∀x c,X.env.cells.lookup x=some c->∃v,s.heap.IsCell c v
 free:H X.env.locals=none
 freeC:∀x c,X.env.cells.lookup x=some c->H c=none
 pin:∀p ∈ X.pn++pins,s.heap.get? p.1=some p.2/\H p.1=none/\p.1≠X.env.locals/\p.1 ∉ X.fs/\∀v,p.2.data ≠ .cell v
 hok:Qz X.prog X.w H s.heap
 len:σ.length=X.N.length
section
variable{X:Cx}{pins:List (Addr×Obj)}{σ:List (Option V)}{H H':Hp}{s:Shared}{h':Heap}
def Cx.Ok.nofr(ok:X.Ok)(e:X.base.get? b=some o):b ∉ X.fs:=λhb=>by
 have:=(ok.funs.mem hb).1;rw[e]at this;cases this
theorem Inv.bs(I:Inv X pins σ H s):∀b o,X.base.get? b=some o->s.heap.get? b=some o/\H b=none:=λb o e=>
 ⟨I.base.keep b o (I.ok.bs b o e).1 (I.ok.bs b o e).2 (I.ok.nofr e)<|I.ok.noex b o e,I.base.free b o (I.ok.bs b o e).1 (I.ok.bs b o e).2<|I.ok.noex b o e⟩
def Inv.bk(I:Inv X pins σ H s):∀b o,X.base.get? b=some o->s.heap.get? b=some o:=λb o e=>(I.bs b o e).1
theorem Inv.mod(I:Inv X pins σ H s):Mod X.K X.mg X.base:=I.ok.mod
def Inv.kIn(I:Inv X pins σ H s):X.K.In s.heap:=I.ok.mod.kin.keeps I.bk
theorem Inv.lt(I:Inv X pins σ H s):X.env.locals<s.heap.objs.size:=let⟨_,hn,_⟩:=I.loc;hn.lt
def Inv.sz(I:Inv X pins σ H s):X.s₀.heap.objs.size<=s.heap.objs.size:=zzO I.ok.above<|Nat.le_of_lt I.lt
def Inv.nofs(I:Inv X pins σ H s)(h:s.heap.objs.size<=a):a ∉ X.fs:=λhb=>by
 obtain⟨_,o,ho,_⟩:=I.ok.funs.mem hb;exact absurd (zzK (zxJ ho)<|zzO I.sz h)<|Nat.lt_irrefl _
def Inv.cne(I:Inv X pins σ H s):∀x c,X.env.cells.lookup x=some c->c≠X.env.locals:=λx c e z=>by
 obtain⟨v,o,ho,hd⟩:=I.cell x c e;obtain⟨m,⟨o',es,ep,ho',hd',_⟩,_⟩:=I.loc;rw[z,ho']at ho;cases ho;rw[hd']at hd;cases hd
theorem Inv.funs(I:Inv X pins σ H s):s.heap.FunFrames X.base X.outer:=by
 have all:∀(l:List Env),(∀b ∈ Sq l,b ∈ X.fs)->X.s₀.heap.FunFrames X.base l->s.heap.FunFrames X.base l:=by
  intro l
  induction l with
  |nil=>intro _ _;trivial
  |cons env r ih=>
   intro hs hl;obtain⟨hk,⟨L,o,hf,hn,ho,hd⟩,hr⟩:=hl;have hL:=hs L (by unfold Sq;rw[List.filterMap_cons,hf];exact zzF);obtain⟨sl,e⟩:=I.base.slot L o ho (I.ok.frf L hL) hL λz=>I.ok.exfs L z hL;exact⟨hk,⟨L,_,hf,hn,e,hd⟩,ih (λb hb=>hs b<|by unfold Sq;rw[List.filterMap_cons,hf];exact zzD _ hb) hr⟩
 exact all X.outer (λ_ hb=>hb) I.ok.funs
theorem Inv.stack(I:Inv X pins σ H s):s.heap.FunFrames X.base X.stack:=by
 rcases I.ok.stk with e|⟨e,hf⟩
 . rw[e];exact I.funs
 . rw[e];obtain⟨m,hn,_⟩:=I.loc;refine .cons (by rw[I.ok.kind];decide) hf hn ?_ I.funs;exact Heap.get?_none_of_le<|zzO I.ok.bsz I.ok.above
def Inv.stkSub(I:Inv X pins σ H s):∀b ∈ Sq X.stack,b ∈ X.env.locals::X.fs:=λb hb=>by
 rcases I.ok.stk with e|⟨e,hf⟩
 . rw[e]at hb;exact zzD _ hb
 . rw[e]at hb;unfold Sq at hb;rw[List.filterMap_cons,hf]at hb;exact hb
def Inv.stkFree(I:Inv X pins σ H s):∀b ∈ Sq X.stack,H b=none:=λb hb=>by
 rcases zzC.mp (I.stkSub b hb)with e|hb
 . rw[e];exact I.free
 . obtain⟨_,o,ho,_⟩:=I.ok.funs.mem hb;exact I.base.free b o ho (I.ok.frf b hb) λz=>I.ok.exfs b z hb
def Inv.step{g'}{t':Nat}{d'}{ch:List Addr}(I:Inv X pins σ H s)
 (hch:∀b ∈ ch,(b ∈ X.ex\/X.s₀.heap.objs.size<=b)/\b≠X.env.locals/\(∀x c,X.env.cells.lookup x=some c->c≠b)/\∀p ∈ X.pn++pins,p.1≠b)
 (keep:∀b o,b≠X.env.locals->b ∉ X.fs->b ∉ ch->s.heap.get? b=some o->H b=none->h'.get? b=some o)
 (slot:∀b o,b≠X.env.locals->b ∈ X.fs->b ∉ ch->s.heap.get? b=some o->H b=none->∃sl,h'.get? b=some {o with slots:=sl}) (free:∀b o,b ∉ ch->s.heap.get? b=some o->H b=none->H' b=none)
 (there:∀b o,b ∉ ch->s.heap.get? b=some o->∃o',h'.get? b=some o')
 (tups:∀b xs,H b=some (.tup xs)->H' b=some (.tup xs)) (frzs:∀b o u,H b=some (.frz o u)->H' b=some (.frz o u)) (tbls:∀b ps,H b=some (.tbl ps)->∃more,H' b=some (.tbl<|ps++more))
 (ns:∀m,s.heap.Ns X.env.locals m->h'.Ns X.env.locals m) (hok:Qz X.prog X.w H' h') (hg:AllBare g'):
 Inv X pins σ H' {s with heap:=h',gens:=g',drawn:=d',toks:=t'}:=by
 have neL:∀b o,X.s₀.heap.get? b=some o->b≠X.env.locals:=λb o e=>zzQ<|zzK (zxJ e) I.ok.above;have neC:∀b o,X.s₀.heap.get? b=some o->b ∉ X.ex->b ∉ ch:=λb o e hx hb=>by
  rcases(hch b hb).1 with z|z
  . exact hx z
  . exact absurd (zzK (zxJ e) z)<|Nat.lt_irrefl _
 have cellK:∀x c,X.env.cells.lookup x=some c->∀v,s.heap.IsCell c v->h'.IsCell c v:=λx c e v ⟨o,ho,hd⟩=>by
  have nch:=λz=>(hch c z).2.2.1 x c e rfl
  by_cases hc:c ∈ X.fs
  . obtain⟨sl,q⟩:=slot c o (I.cne x c e) hc nch ho<|I.freeC x c e;exact⟨_,q,hd⟩
  . exact⟨o,keep c o (I.cne x c e) hc nch ho<|I.freeC x c e,hd⟩
 refine⟨I.ok,I.os,hg,⟨λb o e n hb hx=>?_,λb o e n hb hx=>?_,λb o e n hx=>?_,λb o e hx=>?_,λb xs e=>tups b xs<|I.base.tups b xs e,λb o xs e=>frzs b o xs<|I.base.frzs b o xs e,λb ps e=>?_⟩, ?_,λx c e=>?_, ?_,λx c e=>?_,λp hp=>?_,hok,I.len⟩
 . exact keep b o (neL b o e) hb (neC b o e hx) (I.base.keep b o e n hb hx)<|I.base.free b o e n hx
 . obtain⟨sl,e1⟩:=I.base.slot b o e n hb hx;obtain⟨sl',e2⟩:=slot b _ (neL b o e) hb (neC b o e hx) e1<|I.base.free b o e n hx;exact⟨sl',e2⟩
 . obtain⟨o',e1⟩:=I.base.there b o e hx;exact free b o' (neC b o e hx) e1<|I.base.free b o e n hx
 . obtain⟨o',e1⟩:=I.base.there b o e hx;exact there b o' (neC b o e hx) e1
 . obtain⟨m1,e1⟩:=I.base.tbls b ps e;obtain⟨m2,e2⟩:=tbls b _ e1;exact⟨m1++m2,by rw[e2,Array.append_assoc]⟩
 . obtain⟨m,hn,hl⟩:=I.loc;refine⟨m,ns m hn,λi x v e1 e2 e3=>?_⟩;obtain⟨u,r,l⟩:=hl i x v e1 e2 e3;refine⟨u,r, ?_⟩
   rcases l with l|⟨k,c,e,z⟩
   . exact .inl l
   . exact .inr ⟨k,c,e,cellK x c e _ z⟩
 . obtain⟨v,z⟩:=I.cell x c e;exact⟨v,cellK x c e v z⟩
 . obtain⟨m,⟨o,_,_,ho,_⟩,_⟩:=I.loc;exact free _ o (λz=>(hch _ z).2.1 rfl) ho I.free
 . obtain⟨v,o,ho,hd⟩:=I.cell x c e;exact free c o (λz=>(hch c z).2.2.1 x c e rfl) ho<|I.freeC x c e
 . obtain⟨e,n,ne,nf,d⟩:=I.pin p hp;have nch:=λz=>(hch p.1 z).2.2.2 p hp rfl;exact⟨keep p.1 p.2 ne nf nch e n,free p.1 p.2 nch e n,ne,nf,d⟩
def Inv.un{t':Nat}(I:Inv X pins σ H s)(u:Un X.fs [] H H' s.heap h')(hok:Qz X.prog X.w H' h'):Inv X pins σ H' {s with heap:=h',toks:=t'}:=by
 obtain⟨m,⟨o,es,ep,ho,r⟩,_⟩:=id I.loc;obtain⟨sl,hL⟩:=u.any ho I.free (by simp);exact I.step (g':=s.gens) (d':=s.drawn) (ch:=[]) (λ_ z=>nomatch z) (λb o _ hb _ e n=>u.keep b o e n hb<|by simp) (λb o _ hb _ e n=>u.slot b o e n hb<|by simp) (λb o _ e n=>u.free b o e n<|by simp) (λb o _ e=>u.there b o e<|by simp) u.tups u.frzs u.tbls (λm' hm=>by
  obtain⟨o',es',ep',ho',r'⟩:=hm;rw[ho]at ho';cases ho';exact⟨_,es',ep',hL,r'⟩) hok I.bare
def Inv.call{g'}{t':Nat}{d'}{ch:List Addr}(I:Inv X pins σ H s)(u:Un (Sq X.stack) ch H H' s.heap h')(hok:Qz X.prog X.w H' h')(hg:AllBare g')
 (hch:∀b ∈ ch,(b ∈ X.ex\/X.s₀.heap.objs.size<=b)/\b≠X.env.locals/\(∀x c,X.env.cells.lookup x=some c->c≠b)/\∀p ∈ X.pn++pins,p.1≠b):
 Inv X pins σ H' {s with heap:=h',gens:=g',drawn:=d',toks:=t'}:=by
 obtain⟨m,⟨o,es,ep,ho,r⟩,_⟩:=id I.loc;obtain⟨sl,hL⟩:=u.any ho I.free λz=>(hch _ z).2.1 rfl;exact I.step hch (λb o hL hb hc e n=>u.keep b o e n (λz=>(zzC.mp<|I.stkSub b z).elim hL hb) hc) (λb o _ _ hc e n=>u.any e n hc) (λb o hc e n=>u.free b o e n hc) (λb o hc e=>u.there b o e hc) u.tups u.frzs u.tbls (λm' hm=>by
  obtain⟨o',es',ep',ho',r'⟩:=hm;rw[ho]at ho';cases ho';exact⟨_,es',ep',hL,r'⟩) hok hg
def Inv.turned{t':Nat}{it:Addr}(I:Inv X pins σ H s)(k:∀b o,b≠it->s.heap.get? b=some o->h'.get? b=some o)(hn:H it=none)(hL:it≠X.env.locals)
 (h1:it ∈ X.ex\/X.s₀.heap.objs.size<=it) (h2:∀x c,X.env.cells.lookup x=some c->c≠it) (h3:∀p ∈ X.pn++pins,p.1≠it):Inv X pins σ H {s with heap:=h',toks:=t'}:=by
 have nit:∀b u,H b=some u->b≠it:=λb u e z=>by rw[z,hn]at e;cases e
 refine I.step (g':=s.gens) (d':=s.drawn) (ch:=[it]) (λb hb=>?_) (λb o _ _ hc e _=>k b o (λz=>hc<|by simp[z]) e) (λb o _ _ hc e _=>⟨o.slots,k b o (λz=>hc<|by simp[z]) e⟩) (λ_ _ _ _ n=>n)
  (λb o hc e=>⟨o,k b o (λz=>hc<|by simp[z]) e⟩) (λ_ _ e=>e) (λ_ _ _ e=>e) (λb ps e=>⟨#[],by rw[e];simp⟩) (λm hm=>?_) (λb u e=>?_) I.bare
 . have e:b=it:=by simpa using hb
   subst e;exact⟨h1,hL,h2,h3⟩
 . obtain⟨o,es,ep,ho,r⟩:=hm;exact⟨o,es,ep,k _ o (Ne.symm hL) ho,r⟩
 . refine(I.hok b u e).stay (λc v hc q=>k c v ?_ q) (λ_ q=>q) λ_ _ q=>q
   rcases hc with z|z
   . rw[z];exact nit b u e
   . exact nit c _ z
def Inv.tok(I:Inv X pins σ H s)(t:Nat):Inv X pins σ H {s with toks:=t}:=I.un (h':=s.heap) (t':=t) Un.refl I.hok
theorem Inv.kept(I:Inv X pins σ H s)(k:∀b u,s.heap.get? b=some u->h'.get? b=some u):Inv X pins σ H {s with heap:=h',toks:=t'}:=I.un (Un.kept k)<|I.hok.kept k
theorem Inv.laid(I:Inv X pins σ H s)(k:∀b u,s.heap.get? b=some u->h'.get? b=some u)(hp:s.heap.objs.size<=a)(new:xW X.prog X.w (upd H a o) h' a o):
 Inv X pins σ (upd H a o) {s with heap:=h',toks:=t'}:=I.un (Un.laid k hp<|I.hok.fresh hp)<|I.hok.laid k hp new
theorem Inv.write(I:Inv X pins σ H s)(mu:uS (H x))(he:e=x\/H e=some (.own x))(k:∀b u,b≠e->s.heap.get? b=some u->h'.get? b=some u)(heo:∃u,h'.get? e=some u)
 (new:xW X.prog X.w (upd H x o) h' x o):Inv X pins σ (upd H x o) {s with heap:=h',toks:=t'}:=I.un (Un.write mu he k heo)<|I.hok.write mu he k heo new
def Inv.weak(I:Inv X pins σ H s)(hl:σ'.length=σ.length)(w:∀(i:Nat) v,σ'[i]? = some (some v)->σ[i]? = some (some v)):Inv X pins σ' H s:=
 ⟨I.ok,I.os,I.bare,I.base,let⟨m,hn,hl'⟩:=I.loc;⟨m,hn,λi x v e1 e2 e3=>hl' i x v e1 (w i v e2) e3⟩,I.cell,I.free,I.freeC,I.pin,I.hok,hl.trans I.len⟩
def Inv.pins_of(I:Inv X pins σ H s)(h:∀p ∈ pins',s.heap.get? p.1=some p.2/\H p.1=none/\p.1≠X.env.locals/\p.1 ∉ X.fs/\∀v,p.2.data ≠ .cell v):Inv X pins' σ H s:=
 ⟨I.ok,I.os,I.bare,I.base,I.loc,I.cell,I.free,I.freeC,λp hp=>(zzM.mp hp).elim (λz=>I.pin p<|zzP _ z)<|h p,I.hok,I.len⟩
def Mh{N:List Str}(hN:N.Nodup){i j:Nat}{x}(a:N[i]? = some x)(b:N[j]? = some x):i=j:=by
 obtain⟨h1,e1⟩:=zzG.mp a;obtain⟨h2,e2⟩:=zzG.mp b;exact(List.getElem_inj hN).mp<|e1.trans e2.symm
def G2{M A E}{i:Nat}{x v u Q}(I:Inv X pins σ H s)(hN:X.N.Nodup)(hi:X.N[i]? = some x)(hx:Loc X.env.scope x)(r:RelV v u)
 (h:∀s',Inv X pins (σ.set i<|some v) H s'->(∃a,Heap.SameBut a s.heap s'.heap/\(a=X.env.locals\/X.env.cells.lookup x=some a))->Q () s') (hf:X.fn x=true\/X.env.scope.names.lookup x=some .local:=by first|exact .inl rfl|exact .inr rfl|assumption):wpAny M A (storeName X.env x u) Q E s:=by
 obtain⟨m,hn,hl⟩:=id I.loc;have hcls:(X.env.scope.kind == .class||(X.env.scope.kind == .module&&X.env.locals != X.env.globals))=false:=by rw[I.ok.kind];rfl
 have hiσ:i<σ.length:=by rw[I.len];exact(zzG.mp hi).1
 have cne:=I.cne;have tracked:∀{a:Addr}{h':Heap},(∃o,s.heap.get? a=some o/\H a=none)->Heap.SameBut a s.heap h'->Qz X.prog X.w H h':=λ{a h'} ha hs b ob e=>by
  obtain⟨_,_,hfree⟩:=ha;refine(I.hok b ob e).stay (λc w' hc q=>(hs.2 c ?_).trans q) (λ_ q=>q) λ_ _ q=>q
  rintro rfl
  rcases hc with rfl|hc
  . rw[hfree]at e;cases e
  . rw[hfree]at hc;cases hc
 rcases hx with hk|hk
 . refine wpAny_storeName_local hk hn (λh' hn' hs=>?_) hcls;obtain⟨oL,_,_,hoL,_⟩:=id hn;refine h _ ⟨I.ok,I.os,I.bare,⟨λb o e n hb hx=>?_,λb o e n hb hx=>?_,I.base.free,λb o e hx=>?_,I.base.tups,I.base.frzs,I.base.tbls⟩,⟨_,hn',λj y v' e1 e2 e3=>?_⟩,λy c e=>?_,I.free,I.freeC,λp hp=>?_,tracked ⟨oL,hoL,I.free⟩ hs,by simpa using I.len⟩ ⟨_,hs,.inl rfl⟩
   . exact(hs.2 b<|zzQ<|zzK (zxJ e) I.ok.above).trans<|I.base.keep b o e n hb hx
   . obtain⟨sl,e1⟩:=I.base.slot b o e n hb hx;exact⟨sl,(hs.2 b<|zzQ<|zzK (zxJ e) I.ok.above).trans e1⟩
   . obtain⟨o',e1⟩:=I.base.there b o e hx;exact⟨o',(hs.2 b<|zzQ<|zzK (zxJ e) I.ok.above).trans e1⟩
   . by_cases hj:j=i
     . subst hj;rw[hi]at e1;cases e1;rw[zyK hiσ]at e2;cases e2;exact⟨u,r,.inl ⟨hk,by simp⟩⟩
     . rw[zzY<|Ne.symm hj]at e2;obtain⟨u',r',q⟩:=hl j y v' e1 e2 e3;refine⟨u',r', ?_⟩
       rcases q with⟨k,e⟩|⟨k,c,e,z⟩
       . refine .inl ⟨k, ?_⟩;have:y≠x:=λe=>hj<|Mh hN e1<|e ▸ hi;simp[this,e]
       . exact .inr ⟨k,c,e,z.sameBut hs<|cne y c e⟩
   . obtain⟨w',z⟩:=I.cell y c e;exact⟨w',z.sameBut hs<|cne y c e⟩
   . obtain⟨e,n,ne,nf,d⟩:=I.pin p hp;exact⟨(hs.2 p.1 ne).trans e,n,ne,nf,d⟩
 . have hfn:X.fn x=true:=by
    rcases hf with z|z
    . exact z
    . rw[z]at hk;cases hk
   obtain⟨c,hc⟩:=I.ok.has x<|.inl hk;obtain⟨w',z⟩:=I.cell x c hc;refine wpAny_storeName_cell I.ok.kind hk hc z λh' hc' hs=>?_;obtain⟨oc,hoc,hocd⟩:=id z;refine h {s with heap:=h'} ⟨I.ok,I.os,I.bare,⟨λb o e n hb hx=>?_,λb o e n hb hx=>?_,I.base.free,λb o e hx=>?_,I.base.tups,I.base.frzs,I.base.tbls⟩,⟨m,hn.sameBut hs<|Ne.symm<|cne x c hc,λj y v' e1 e2 e3=>?_⟩,λy c' e=>?_,I.free,I.freeC,λp hp=>?_,tracked ⟨oc,hoc,I.freeC x c hc⟩ hs,by simpa using I.len⟩ ⟨c,hs,.inr hc⟩
   . exact(hs.2 b<|zzQ<|zzK (zxJ e)<|I.ok.cab x c hfn hc).trans<|I.base.keep b o e n hb hx
   . obtain⟨sl,e1⟩:=I.base.slot b o e n hb hx;exact⟨sl,(hs.2 b<|zzQ<|zzK (zxJ e)<|I.ok.cab x c hfn hc).trans e1⟩
   . obtain⟨o',e1⟩:=I.base.there b o e hx;exact⟨o',(hs.2 b<|zzQ<|zzK (zxJ e)<|I.ok.cab x c hfn hc).trans e1⟩
   . by_cases hj:j=i
     . subst hj;rw[hi]at e1;cases e1;rw[zyK hiσ]at e2;cases e2;exact⟨u,r,.inr ⟨.inl hk,c,hc,hc'⟩⟩
     . rw[zzY<|Ne.symm hj]at e2;obtain⟨u',r',q⟩:=hl j y v' e1 e2 e3;refine⟨u',r', ?_⟩
       rcases q with q|⟨k,c',e,z'⟩
       . exact .inl q
       . refine .inr ⟨k,c',e,z'.sameBut hs ?_⟩
         rintro rfl
         exact hj<|Mh hN e1<|I.ok.inj _ _ _ e hc ▸ hi
   . by_cases hcc:c'=c
     . subst hcc;exact⟨_,hc'⟩
     . obtain⟨w2,z2⟩:=I.cell y c' e;exact⟨w2,z2.sameBut hs hcc⟩
   . obtain⟨e,n,ne,nf,d⟩:=I.pin p hp;refine⟨(hs.2 p.1 ?_).trans e,n,ne,nf,d⟩;intro q;rw[q,hoc]at e;have q':oc=p.2:=zzZ e;exact d w' (by rw[<-q'];exact hocd)
def Qf(I:Inv X pins σ H s)(hN:X.N.Nodup)(hi:X.N[i]? = some x)(hx:Loc X.env.scope x)(r:RelV v u)
 (h:∀s',Inv X pins (σ.set i<|some v) H s'->Q () s') (hf:X.fn x=true\/X.env.scope.names.lookup x=some .local:=by first|exact .inl rfl|exact .inr rfl|assumption):wpAny M A (storeName X.env x u) Q E s:=
 G2 I hN hi hx r (λs' I' _=>h s' I') hf
def Inv.call'(I:Inv X pins σ H s)(ho:s'.os=s.os)(u:Un (Sq X.stack) ch H H' s.heap s'.heap)(hok:Qz X.prog X.w H' s'.heap)(hg:AllBare s'.gens)
 (hch:∀b ∈ ch,(b ∈ X.ex\/X.s₀.heap.objs.size<=b)/\b≠X.env.locals/\(∀x c,X.env.cells.lookup x=some c->c≠b)/\∀p ∈ X.pn++pins,p.1≠b):Inv X pins σ H' s':=by
 obtain⟨h',g',d',t',o'⟩:=s';have e:=ho;subst e;exact I.call (g':=g') (t':=t') (d':=d') u hok hg hch
end
abbrev XK:=Value->Option Addr->Hp->Prop
abbrev St:=List<|Option V
abbrev VK:=V->Hp->Prop
abbrev TE:=St->Hp->VK->Prop
abbrev TT:=St->Hp->(Bool->Hp->Prop)->Prop
abbrev TA:=St->Hp->(List V->Hp->Prop)->Prop
structure Ends where
 nx:St->Hp->Prop
 rt:VK
 bk:St->Hp->Prop:=λ_ _=>False
 ct:St->Hp->Prop:=λ_ _=>False
abbrev TS:=Ends->St->Hp->Prop
def EP(X:Cx)(pins:List (Addr×Obj))(σ:St)(Q:VK)(u:Value)(s':Shared):Prop:=∃v H',Inv X pins σ H' s'/\RelV v u/\Q v H'
def TP(X:Cx)(pins:List (Addr×Obj))(σ:St)(Q:Bool->Hp->Prop)(b:Bool)(s':Shared):Prop:=∃H',Inv X pins σ H' s'/\Q b H'
def AP(X:Cx)(pins:List (Addr×Obj))(σ:St)(Q:List V->Hp->Prop)(us:List Value)(s':Shared):Prop:=∃vs H',Inv X pins σ H' s'/\ya vs us/\Q vs H'
def SP(X:Cx)(pins:List (Addr×Obj))(D:Ends)(f:Flow)(s':Shared):Prop:=
 match f with
 | .next=>∃σ' H',Inv X pins σ' H' s'/\D.nx σ' H'
 | .brk=>∃σ' H',Inv X pins σ' H' s'/\D.bk σ' H'
 | .cont=>∃σ' H',Inv X pins σ' H' s'/\D.ct σ' H'
 | .ret u=>∃v σ' H',Inv X pins σ' H' s'/\RelV v u/\D.rt v H'
def PE(X:Cx)(e:Expr)(t:TE):Prop:=
 ∀(pins:List (Addr×Obj)) (s:Shared) (σ:St) (H:Hp) (Q:VK),Inv X pins σ H s->t σ H Q->wpAny (model X.prog X.w) X.A (eval e X.env) (EP X pins σ Q) X.xe s
def PT(X:Cx)(e:Expr)(t:TT):Prop:=
 ∀(pins:List (Addr×Obj)) (s:Shared) (σ:St) (H:Hp) (Q:Bool->Hp->Prop),Inv X pins σ H s->t σ H Q->wpAny (model X.prog X.w) X.A (isTrue e X.env<|eval e X.env) (TP X pins σ Q) X.xe s
def PW(X:Cx)(e:Expr)(t:TT):Prop:=
 ∀(whole:Sem Value) (pins:List (Addr×Obj)) (s:Shared) (σ:St) (H:Hp) (Q:Bool->Hp->Prop),Inv X pins σ H s->t σ H Q->wpAny (model X.prog X.w) X.A (isTrue e X.env whole) (TP X pins σ Q) X.xe s
def PW.pt(h:PW X e t):PT X e t:=h _
def PA(X:Cx)(es:List Expr)(t:TA):Prop:=
 ∀(pos:Pos) (pins:List (Addr×Obj)) (s:Shared) (σ:St) (H:Hp) (Q:List V->Hp->Prop),Inv X pins σ H s->t σ H Q->wpAny (model X.prog X.w) X.A (spliced<|backTo pos<|starEach es X.env) (AP X pins σ Q) X.xe s
def PS(X:Cx)(st:Stmt)(t:TS):Prop:=
 ∀(pins:List (Addr×Obj)) (s:Shared) (σ:St) (H:Hp) (D:Ends),Inv X pins σ H s->t D σ H->wpAny (model X.prog X.w) X.A (exec st X.env) (SP X pins D) X.xe s
def MH(X:Cx)(st:List Stmt)(t:TS):Prop:=
 ∀(pins:List (Addr×Obj)) (s:Shared) (σ:St) (H:Hp) (D:Ends),Inv X pins σ H s->t D σ H->wpAny (model X.prog X.w) X.A (execs st X.env) (SP X pins D) X.xe s
def thn(h:wpAny M A t Q E s)(hQ:∀a s,Q a s->Q' a s):wpAny M A t Q' E s:=zxP h hQ λ_ _ x=>x
end L2
namespace L2
open PySem PySem.Spec PyProof.Rows
section
variable{X:Cx}
def QM(i:Nat):TE:=λσ H Q=>∃v,σ[i]? = some (some v)/\Q v H
def tC(v:V):TE:=λ_ H Q=>Q v H
def Og(hN:X.N[i]? = some x)(hv:sX X.env.scope x)(hd:(x==("__debug__":Str))=false:=by decide)(hcd:(x==("__classdict__":Str))=false:=by decide):PE X (.Name x pos) (QM i):=by
 intro pins s σ H Q I h;obtain⟨v,e,h⟩:=h;obtain⟨m,hn,hl⟩:=I.loc;obtain⟨u,r,l⟩:=hl i x v hN e hv;have fin:EP X pins σ Q u s:=⟨v,H,I,r,h⟩
 rcases l with⟨hk,hm⟩|⟨hk,c,hc,hcell⟩
 . exact wpAny_Name (wpAny_loadName_local I.ok.kind hk hn hm fin) hd
 . rcases hk with hk|hk
   . exact wpAny_Name (wpAny_loadName_cell I.ok.kind hk hc hcell fin) hd
   . exact wpAny_Name (wpAny_loadName_free I.ok.kind hk hc hcell fin hcd) hd
def M6:PE X (.Constant (.int i) j pos) (tC<|.int i):=λ_ _ _ H _ I h=>wpAny_Constant_int ⟨.int i,H,I.tok _,⟨_,rfl⟩,h⟩
def sy:PE X (.Constant (.bool b) j pos) (tC<|.bl b):=λ_ _ _ H _ I h=>Constant_bool ⟨.bl b,H,I,rfl,h⟩
def DY:PE X (.Constant .none j pos) (tC .non):=λ_ _ _ H _ I h=>Constant_none ⟨.non,H,I,rfl,h⟩
def Aq:PE X (.Constant (.str x) j pos) (tC<|.str x):=λ_ _ _ H _ I h=>Calls.Constant_str ⟨.str x,H,I.tok _,⟨_,rfl⟩,h⟩
def Gl(X:Cx)(x:Str):Prop:=X.env.kindOf x=some .globalImplicit
def IA(I:Inv X pins σ H s)(hg:Gl X x)(hm:X.mg x=some u)(h:Q u s)
 (hd:(x==("__debug__":Str))=false:=by decide):wpAny (model X.prog X.w) X.A (eval (.Name x pos) X.env) Q E s:=
 Calls.Name_function_global I.ok.kind hg (Calls.loadGlobal_global (by rw[I.ok.glob];exact I.mod.glob.keeps I.bk) hm h) hd
def Ze(I:Inv X pins σ H s)(hg:Gl X x)(hm:X.mg x=none)(hv:bootBuiltins x=some u)(h:Q u s)
 (hn:x≠"__name__":=by decide) (hd:(x==("__debug__":Str))=false:=by decide):wpAny (model X.prog X.w) X.A (eval (.Name x pos) X.env) Q E s:=by
 obtain⟨mb,h1,h2⟩:=I.mod.blt;exact Calls.Name_function_global I.ok.kind hg (Calls.loadGlobal_builtin (by rw[I.ok.glob];exact I.mod.glob.keeps I.bk) hm (by rw[I.ok.blt];exact h1.keeps I.bk) ((h2 x hn).trans hv) h) hd
def Je(hg:Gl X x)(hm:X.mg x=none)(hv:bootBuiltins x=some u)(r:RelV v u)(hn:x≠"__name__":=by decide)(hd:(x==("__debug__":Str))=false:=by decide):PE X (.Name x pos) (tC v):=
 λ_ _ _ H _ I h=>Ze I hg hm hv ⟨v,H,I,r,h⟩ hn hd
variable{a b:Expr}{ta tb:TE}{pos:Pos}
variable{tA tB':TT}{rest:List Expr}
def qM(t u:TT):TT:=λσ H Q=>t σ H λc H1=>if c=true then u σ H1 Q else Q false H1
def o5(t u:TT):TT:=λσ H Q=>t σ H λc H1=>if c=true then Q true H1 else u σ H1 Q
def qI(t:TT):TT:=λσ H Q=>t σ H λc H1=>Q (!c) H1
def CB(ha:PT X a tA):PW X (.BoolOp .And [a] pos) tA:=by
 intro wh pins s σ H Q I h;refine isTrue_and<|thn (ha pins s σ H Q I h) λc s1 e=>?_;cases c with
 |true=>exact isTrue_and_nil e
 |false=>exact e
def D7(ha:PT X a tA):PW X (.BoolOp .Or [a] pos) tA:=by
 intro wh pins s σ H Q I h;refine isTrue_or<|thn (ha pins s σ H Q I h) λc s1 e=>?_;cases c with
 |false=>exact isTrue_or_nil e
 |true=>exact e
def Dg(ha:PT X a tA)(hb:PW X (.BoolOp .And (b::rest) pos) tB'):PW X (.BoolOp .And (a::b::rest) pos) (qM tA tB'):=by
 intro wh pins s σ H Q I h;refine isTrue_and<|thn (ha pins s σ H _ I h) λc s1 ⟨H1,I1,q1⟩=>?_;cases c with
 |true=>exact hb wh pins s1 σ H1 Q I1 q1
 |false=>exact⟨H1,I1,q1⟩
def sA(ha:PT X a tA)(hb:PW X (.BoolOp .Or (b::rest) pos) tB'):PW X (.BoolOp .Or (a::b::rest) pos) (o5 tA tB'):=by
 intro wh pins s σ H Q I h;refine isTrue_or<|thn (ha pins s σ H _ I h) λc s1 ⟨H1,I1,q1⟩=>?_;cases c with
 |true=>exact⟨H1,I1,q1⟩
 |false=>exact hb wh pins s1 σ H1 Q I1 q1
def AY(ha:PT X a tA):PT X (.UnaryOp .Not a pos) (qI tA):=by
 intro pins s σ H Q I h;exact isTrue_not<|ha pins s σ H (λc H1=>Q (!c) H1) I h
def uB(ta tb:TE):TE:=λσ H Q=>ta σ H λx H1=>∃c,x = .bl c/\if c=true then tb σ H1 Q else Q (.bl false) H1
def tY(ta:TE):TE:=λσ H Q=>ta σ H λx H1=>∃c,x = .bl c/\Q (.bl<|!c) H1
def AH(h:PE X a t):PE X (.BoolOp op [a] pos) t:=λpins s σ H Q I hw=>BoolOp_one<|h pins s σ H Q I hw
def AV(ha:PE X a ta)(hb:PE X (.BoolOp .And (b::rest) pos) tb):PE X (.BoolOp .And (a::b::rest) pos) (uB ta tb):=by
 intro pins s σ H Q I h;refine BoolOp_and<|thn (ha pins s σ H _ I h) λv s1 ⟨x,H1,I1,r1,q1⟩=>?_;obtain⟨c,rfl,q1⟩:=q1;cases r1;refine wpAny_truthy_bool ?_;cases c with
 |true=>exact hb pins s1 σ H1 Q I1 q1
 |false=>exact⟨.bl false,H1,I1,rfl,q1⟩
def AR(ha:PE X a ta):PE X (.UnaryOp .Not a pos) (tY ta):=by
 intro pins s σ H Q I h;refine UnaryOp_<|thn (ha pins s σ H _ I h) λv s1 ⟨x,H1,I1,r1,q1⟩=>?_;obtain⟨c,rfl,q1⟩:=q1;cases r1;exact not_of<|wpAny_truthy_bool ⟨.bl<|!c,H1,I1,rfl,q1⟩
end
end L2
namespace L2
open PySem PySem.Spec PyProof.Rows
def YM(K:zzA)(H:Hp)(a:Addr)(xs:List V):Prop:=
 Rd H a (.lst xs) \/
  ∃(o:Obj) (its:Array Value) (n:Nat),K.lookup a=some o/\o.cls = .type "list"/\o.dict=none/\o.data = .seq its n/\its.size<=sizeLine/\ya xs its.toList
def Sw(K:zzA)(H:Hp)(a:Addr)(xs:List V):Prop:=
 Rd H a (.lst xs)\/∃(its:Array Value) (n:Nat),K.lookup a=some {cls:=.type "list",data:=.seq its n}/\its.size<=sizeLine/\ya xs its.toList
def Qy(K:zzA)(H:Hp)(a:Addr)(xs:List V):Prop:=
 Rd H a (.tup xs) \/
  ∃(o:Obj) (its:Array Value) (n:Nat),K.lookup a=some o/\o.cls = .type "tuple"/\o.data = .seq its n/\its.size<=sizeLine/\ya xs its.toList
def qt:Value->Option V
 | .none=>some .non
 | .bool b=>some<|.bl b
 | .int i _=>some<|.int i
 | .str x _=>some<|.str x
 | .bytes b _=>some<|.byt b
 | .float b _=>some<|.flt b
 | .ref a=>some<|.ref a
 | .type n=>some (.ty n)
 |_=>none
def RelV.abs(r:RelV x u):qt u=some x:=by
 cases x with
 |non=>cases r;rfl
 |bl _=>cases r;rfl
 |int _=>obtain⟨t,rfl⟩:=r;rfl
 |str _=>obtain⟨t,rfl⟩:=r;rfl
 |byt _=>obtain⟨t,rfl⟩:=r;rfl
 |flt _=>obtain⟨t,rfl⟩:=r;rfl
 |ref _=>cases r;rfl
 |ty _=>cases r;rfl
def RelV.inj(r:RelV x u)(q:RelV y u):x=y:=zzZ<|r.abs.symm.trans q.abs
theorem ya.inj:∀{xs ys:List V}{us:List Value},ya xs us->ya ys us->xs=ys
 |_,_,_,.nil,.nil=>rfl
 |_,_,_,.cons r t,.cons r' t'=>by rw[r.inj r',ya.inj t t']
section
variable{X:Cx}{pins:List (Addr×Obj)}{σ:St}{H:Hp}{s:Shared}{a:Addr}{xs ys:List V}
def Inv.list(I:Inv X pins σ H s)(h:YM X.K H a xs):∃its:List Value,ya xs its/\PlainL s.heap a its.toArray/\xs.length<=sizeLine:=by
 rcases h with h|⟨o,its,n,hk,hc,hd,hs,hz,r⟩
 . obtain⟨z,its,n,r,e⟩:=h.ok I.hok;exact⟨its,r,⟨_,n,e,rfl,rfl,rfl⟩,z⟩
 . refine⟨its.toList,r,⟨o,n,I.kIn a o hk,hc,hd,by simpa using hs⟩, ?_⟩;have e:=r.length;simp only[zyT]at e;omega
def Inv.tuple(I:Inv X pins σ H s)(h:Qy X.K H a xs):∃its:List Value,ya xs its/\IsTup s.heap a its.toArray/\xs.length<=sizeLine:=by
 rcases h with h|⟨o,its,n,hk,hc,hs,hz,r⟩
 . obtain⟨z,its,r,p⟩:=h.ok I.hok;exact⟨its,r,p,z⟩
 . refine⟨its.toList,r,⟨o,I.kIn a o hk,hc,n,by simpa using hs⟩, ?_⟩;have e:=r.length;simp only[zyT]at e;omega
def Inv.list_inj(I:Inv X pins σ H s)(h:YM X.K H a xs)(h':YM X.K H a ys):xs=ys:=by
 obtain⟨its,r,⟨o,n,e,_,_,d⟩,_⟩:=I.list h;obtain⟨its',r',⟨o',n',e',_,_,d'⟩,_⟩:=I.list h';rw[e]at e';cases e';rw[d]at d';injection d' with d1 _
 have:its=its':=by simpa using congrArg Array.toList d1
 subst this;exact r.inj r'
def Inv.tuple_inj(I:Inv X pins σ H s)(h:Qy X.K H a xs)(h':Qy X.K H a ys):xs=ys:=by
 obtain⟨its,r,⟨o,e,_,n,d⟩,_⟩:=I.tuple h;obtain⟨its',r',⟨o',e',_,n',d'⟩,_⟩:=I.tuple h';rw[e]at e';cases e';rw[d]at d';injection d' with d1 _
 have:its=its':=by simpa using congrArg Array.toList d1
 subst this;exact r.inj r'
end
abbrev Cx.wish(X:Cx)(E:Value->Shared->Prop):Cx:={X with xe:=E}
abbrev Cx.nox(X:Cx):Cx:=X.wish λ_ _=>False
theorem Cx.Ok.wish{X:Cx}(ok:X.Ok)(E):(X.wish E).Ok:=
 ⟨ok.mod,ok.kind,ok.glob,ok.blt,ok.above,ok.inj,ok.has,ok.cab,ok.hd,ok.frames,ok.stk,ok.exf,ok.bs,ok.bsz,ok.noex,ok.exfs,ok.funs,ok.frf⟩
def Cx.Ok.unwish{X:Cx}{E}(ok:(X.wish E).Ok):X.Ok:=
 ⟨ok.mod,ok.kind,ok.glob,ok.blt,ok.above,ok.inj,ok.has,ok.cab,ok.hd,ok.frames,ok.stk,ok.exf,ok.bs,ok.bsz,ok.noex,ok.exfs,ok.funs,ok.frf⟩
section
variable{X:Cx}{pins:List (Addr×Obj)}{σ:St}{H:Hp}{s:Shared}{E:Value->Shared->Prop}
theorem Inv.wish(I:Inv X pins σ H s)(E:Value->Shared->Prop):Inv (X.wish E) pins σ H s:=⟨I.ok.wish E,I.os,I.bare,I.base,I.loc,I.cell,I.free,I.freeC,I.pin,I.hok,I.len⟩
theorem Inv.unwish(I:Inv (X.wish E) pins σ H s):Inv X pins σ H s:=⟨I.ok.unwish,I.os,I.bare,I.base,I.loc,I.cell,I.free,I.freeC,I.pin,I.hok,I.len⟩
theorem SP.unwish(h:SP (X.wish E) pins D f s'):SP X pins D f s':=by
 cases f with
 |next=>obtain⟨σ',H',I,q⟩:=h;exact⟨σ',H',I.unwish,q⟩
 |brk=>obtain⟨σ',H',I,q⟩:=h;exact⟨σ',H',I.unwish,q⟩
 |cont=>obtain⟨σ',H',I,q⟩:=h;exact⟨σ',H',I.unwish,q⟩
 |ret u=>obtain⟨v,σ',H',I,r,q⟩:=h;exact⟨v,σ',H',I.unwish,r,q⟩
theorem MH.nox{st t}(h:MH X.nox st t):MH X st t:=λpins s σ H D I hw=>
 zxP (h pins s σ H D (I.wish _) hw) (λ_ _ q=>q.unwish) λ_ _ z=>False.elim z
end
section
variable{X:Cx}{st:Stmt}{rest:List Stmt}{t u:TS}{e:Expr}{te:TE}{pos:Pos}
def uU:TS:=λD σ H=>D.nx σ H
def qH(t u:TS):TS:=λD σ H=>t {D with nx:=u D} σ H
def CU:MH X [] uU:=λ_ _ σ H _ I h=>wpAny_execs_nil ⟨σ,H,I,h⟩
def MB(h1:PS X st t)(h2:MH X rest u):MH X (st::rest) (qH t u):=by
 intro pins s σ H D I h;refine wpAny_execs_cons<|thn (h1 pins s σ H {D with nx:=u D} I h) λf s1 q=>?_;cases f with
 |next=>
  obtain⟨σ',H',I',q⟩:=q;exact h2 pins s1 σ' H' D I' q
 |ret v=>exact q
 |brk=>exact q
 |cont=>exact q
def FZ(h1:PS X st t):MH X [st] t:=by
 intro pins s σ H D I h;refine wpAny_execs_cons<|thn (h1 pins s σ H D I h) λf s1 q=>?_;cases f with
 |next=>exact wpAny_execs_nil q
 |ret v=>exact q
 |brk=>exact q
 |cont=>exact q
def Inv.quiet(I:Inv X pins σ H s):interactive X.env=false:=by simp[interactive,I.ok.kind]
def uZ(te:TE):TS:=λD σ H=>te σ H λ_ H1=>D.nx σ H1
def E4(he:PE X e te)(hs:swapsWith e none pos.line X.env=pure false:=by rfl):PS X (.Expr e pos) (uZ te):=by
 intro pins s σ H D I h;exact wpAny_Expr_any (thn (he pins s σ H _ I h) λv s1 ⟨x,H1,I1,r1,q1⟩=>⟨σ,H1,I1,q1⟩) I.quiet hs
def rA(te:TE):TS:=λD σ H=>te σ H D.rt
def DE(he:PE X e te):PS X (.Return (some e) pos) (rA te):=by
 intro pins s σ H D I h;exact wpAny_Return_some<|thn (he pins s σ H _ I h) λv s1 ⟨x,H1,I1,r1,q1⟩=>⟨x,σ,H1,I1,r1,q1⟩
def qS(c:TT)(t u:TS):TS:=λD σ H=>c σ H λb H1=>if b=true then t D σ H1 else u D σ H1
def uE(hc:PT X c tc)(ha:MH X a t)(hb:MH X b u):PS X (.If c a b pos) (qS tc t u):=by
 intro pins s σ H D I h;refine wpAny_If<|thn (hc pins s σ H _ I h) λd s1 ⟨H1,I1,q1⟩=>?_;cases d with
 |true=>exact ha pins s1 σ H1 D I1 q1
 |false=>exact hb pins s1 σ H1 D I1 q1
end
abbrev TG:=V->St->Hp->(St->Hp->Prop)->Prop
abbrev Da:=List V->St->Hp->(St->Hp->Prop)->Prop
def PG(X:Cx)(target:Expr)(t:TG):Prop:=
 ∀(pins:List (Addr×Obj)) (s:Shared) (σ:St) (H:Hp) (v:V) (u:Value) (Q:St->Hp->Prop),Inv X pins σ H s->RelV v u->t v σ H Q->
  wpAny (model X.prog X.w) X.A (assign target X.env u) (λ_ s'=>∃σ' H',Inv X pins σ' H' s'/\Q σ' H') X.xe s
def JF(X:Cx)(ts:List Expr)(t:Da):Prop:=
 ∀(pins:List (Addr×Obj)) (s:Shared) (σ:St) (H:Hp) (vs:List V) (us:List Value) (Q:St->Hp->Prop),Inv X pins σ H s->ya vs us->t vs σ H Q->
  wpAny (model X.prog X.w) X.A (assignInOrder ((assignEach ts X.env).map (·.2)) us) (λ_ s'=>∃σ' H',Inv X pins σ' H' s'/\Q σ' H') X.xe s
abbrev uQ:=V->V->V->Hp->(Hp->Prop)->Prop
def tI(X:Cx)(t:uQ):Prop:=
 ∀(pins:List (Addr×Obj)) (s:Shared) (σ:St) (H:Hp) (o i v:V) (ov iv u:Value) (Q:Hp->Prop),Inv X pins σ H s->RelV o ov->RelV i iv->RelV v u->t o i v H Q->
  wpAny (model X.prog X.w) X.A (setItem ov iv u) (λ_ s'=>∃H',Inv X pins σ H' s'/\Q H') X.xe s
section
variable{X:Cx}{pos:Pos}
def FP(i:Nat):TG:=λv σ H Q=>Q (σ.set i<|some v) H
def IW(hN:X.N.Nodup)(hi:X.N[i]? = some x)(hx:Loc X.env.scope x)(hf:X.fn x=true\/X.env.scope.names.lookup x=some .local:=by first|exact .inl rfl|exact .inr rfl|assumption):PG X (.Name x pos) (FP i):=by
 intro pins s σ H v u Q I r h;exact wpAny_assign_Name<|Qf I hN hi hx r (λs' I'=>⟨_,H,I',h⟩) hf
def qZ:Da:=λvs σ H Q=>vs=[]/\Q σ H
def si(t:TG)(u:Da):Da:=λvs σ H Q=>∃v r,vs=v::r/\t v σ H λσ' H'=>u r σ' H' Q
def CZ:JF X [] qZ:=by
 intro pins s σ H vs us Q I r h;obtain⟨e,h⟩:=h;subst e;cases r;exact assignInOrder_nil ⟨σ,H,I,h⟩
def HR(h1:PG X e t)(h2:JF X es u)
 (hs:(assignEach (e::es) X.env).map (·.2)=assign e X.env::(assignEach es X.env).map (·.2):=by rfl):JF X (e::es) (si t u):=by
 intro pins s σ H vs us Q I r h;obtain⟨v,vr,e1,h⟩:=h;subst e1;cases r with
 |cons r rr=>
  rw[hs];refine assignInOrder_cons<|thn (h1 pins s σ H _ _ _ I r h) λ_ s1 ⟨σ1,H1,I1,q1⟩=>?_;exact h2 pins s1 σ1 H1 _ _ Q I1 rr q1
def qF(K:zzA)(n:Nat)(t:Da):TG:=λv σ H Q=>∃a xs,v = .ref a/\Qy K H a xs/\xs.length=n/\t xs σ H Q
def DB(hc:X.calm=true)(h:JF X es t)
 (hn:(assignEach es X.env).length=n:=by rfl) (hst:(assignEach es X.env).findIdx? (·.1)=none:=by rfl):PG X (.Tuple es k pos) (qF X.K n t):=by
 intro pins s σ H v u Q I r hw;obtain⟨a,xs,e1,hq,hl,hw⟩:=hw;subst e1;cases r;obtain⟨its,rv,ht,hz⟩:=I.tuple hq;refine assign_Tuple_tuple (I.ok.hd hc) ht (by simp[hn,<-hl,rv.length]) hst λh' hx=>?_;have I1:=I.kept (t':=s.toks) λb o e=>hx b o (zzQ<|zxJ e) e;exact h pins _ σ H xs _ Q I1 (by simpa using rv) hw
def qJ(to ti:TE)(t:uQ):TG:=λv σ H Q=>to σ H λo H1=>ti σ H1 λi H2=>t o i v H2 λH3=>Q σ H3
def Ez(ho:PE X o to)(hi:PE X i ti)(hs:tI X t)
 (ha:∀v,assign (.Subscript o i pos) X.env v=(do
  let ov <-holding [v] (eval o X.env);let iv <-holding [v,ov] (eval i X.env)
  standAt pos
  holding [v,ov,iv] (setItem ov iv v)
  release [v,ov,iv] []):=by intro _;rfl):PG X (.Subscript o i pos) (qJ to ti t):=by
 intro pins s σ H v u Q I r h;rw[ha];refine zxG<|zxM<|thn (ho pins s σ H _ I h) λov s1 ⟨x,H1,I1,r1,q1⟩=>?_;refine zxG<|zxM<|thn (hi pins s1 σ H1 _ I1 q1) λiv s2 ⟨y,H2,I2,r2,q2⟩=>?_;refine zxG<|wpAny_standAt<|zxG<|zxM<|thn (hs pins s2 σ H2 x y v ov iv u _ I2 r1 r2 r q2) λ_ s3 ⟨H3,I3,q3⟩=>?_;exact wpAny_release ⟨σ,H3,I3,q3⟩
def J9(te:TE)(g:TG):TS:=λD σ H=>te σ H λx H1=>g x σ H1 D.nx
def LM(he:PE X e te)(hg:PG X tg g)(hs:swapsWithSole [tg] e pos.line X.env=pure false:=by rfl)(hw:swappedStores [tg] e X.env=pure none:=by rfl)
 (h1:(assignEach [tg] X.env).map (·.2)=[assign tg X.env]:=by rfl):PS X (.Assign [tg] e pos) (J9 te g):=by
 intro pins s σ H D I h;refine wpAny_Assign_stores (thn (he pins s σ H _ I h) λv s1 ⟨x,H1,I1,r1,q1⟩=>?_) hs hw;rw[h1];exact thn (hg pins s1 σ H1 x v _ I1 r1 q1) λ_ s2 q=>q
def Hi(hN:X.N.Nodup)(hi:X.N[i]? = some x)(hx:Loc X.env.scope x)(he:PE X e te)(hs:swapsWith e (some<|.Name x pos') pos.line X.env=pure false:=by rfl)(hf:X.fn x=true\/X.env.scope.names.lookup x=some .local:=by first|exact .inl rfl|exact .inr rfl|assumption):
 PS X (.Assign [.Name x pos'] e pos) (J9 te<|FP i):=by
 intro pins s σ H D I h;refine wpAny_Assign_Name (thn (he pins s σ H _ I h) λv s1 ⟨y,H1,I1,r1,q1⟩=>?_) hs;exact Qf I1 hN hi hx r1 (λs2 I2=>⟨_,H1,I2,q1⟩) hf
def qu(i j:Nat)(ta:TA):TS:=λD σ H=>ta σ H λvs H1=>∃v w,vs=[v,w]/\D.nx ((σ.set i<|some v).set j<|some w) H1
def DM(hc:X.calm=true)(hN:X.N.Nodup)(hi:X.N[i]? = some x)(hj:X.N[j]? = some y)(hij:i≠j)
 (hx:X.env.scope.names.lookup x=some .local) (hy:X.env.scope.names.lookup y=some .local) (ha:PA X [a,b] ta)
 (hw:swappedStores [.Tuple [.Name x px,.Name y py] kt pt] (.Tuple [a,b] k2 pt2) X.env=pure (some [x,y]))
 (hs:swapsWithSole [.Tuple [.Name x px,.Name y py] kt pt] (.Tuple [a,b] k2 pt2) pos.line X.env=pure false:=by rfl):
 PS X (.Assign [.Tuple [.Name x px,.Name y py] kt pt] (.Tuple [a,b] k2 pt2) pos) (qu i j ta):=by
 intro pins s σ H D I h;rw[exec_Assign_arm];refine zxG<|wpAny_standAt ?_;rw[hs];refine zxG<|zxH ?_;rw[if_neg<|by decide];refine zxG<|Tuple_<|thn (ha _ pins s σ H _ I h) λus s1 ⟨vs,H1,I1,r1,q1⟩=>?_;obtain⟨v,w,e1,q1⟩:=q1;subst e1;obtain⟨u1,u2,rfl,rv,rw'⟩:∃u1 u2,us=[u1,u2]/\RelV v u1/\RelV w u2:=by
  cases r1 with
  |cons p q=>
   cases q with
   |cons p' q'=>
    cases q';exact⟨_,_,rfl,p,p'⟩
 refine zxL ?_ (by show 2<=sizeLine;decide);have I2:Inv X pins σ H1 {s1 with heap:=s1.heap.push {cls:=.type "tuple",data:=.seq [u1,u2].toArray}}:=I1.kept (t':=s1.toks) λb o e=>zxI _ e;rw[hw];refine zxG<|zxH ?_;refine zxG<|wpAny_rule<|zxG<|unpackItems_tuple (items:=#[u1,u2]) (I.ok.hd hc) (IsTup.new s1.heap _) λh' hx'=>?_;have I3:=I2.kept (h':=h') (t':=s1.toks) λb o e=>hx' b o (zzQ<|zxJ e) e;refine zxG<|assignInOrder_cons<|wpAny_bindName<|Qf I3 hN hj (.inl hy) rw' (λs2 I4=>?_)<|.inr hy;refine assignInOrder_cons<|wpAny_bindName<|Qf I4 hN hi (.inl hx) rv (λs3 I5=>assignInOrder_nil<|zxH ?_)<|.inr hx;rw[List.set_comm _ _<|Ne.symm hij]at I5;exact⟨_,H1,I5,q1⟩
end
section
variable{X:Cx}{pos:Pos}
def Dc(c:TT)(tb:TS):TS:=λD σ H=>∃W:Nat->St->Hp->Prop,(∃m,W m σ H)/\∀m σ H,W m σ H->
 c σ H λb H1=>if b=true then ∃N:St->Hp->Prop,(∀σ' H',N σ' H'->∃m',m'<m/\W m' σ' H')/\tb {D with nx:=N,ct:=N,bk:=D.nx} σ H1 else D.nx σ H1
def SZ(hp:PassesOwn (model X.prog X.w) X.A X.env X.xe)(hc:PT X c tc)(hb:MH X body tb):PS X (.While c body [] pos) (Dc tc tb):=by
 intro pins s σ H D I h;obtain⟨W,⟨m0,w0⟩,turn⟩:=h;refine wpAny_While<|codeAny_whileLoop (λn s'=>∃σ' H',Inv X pins σ' H' s'/\W n σ' H') ?_ m0 ⟨σ,H,I,w0⟩
 rintro n s1 ⟨σ1,H1,I1,w1⟩
 refine wpAny_passesOwn hp<|thn (hc pins s1 σ1 H1 _ I1<|turn n σ1 H1 w1) λb s2 ⟨H2,I2,q2⟩=>?_;cases b with
 |true=>
  obtain⟨N,hN,q2⟩:=q2;rw[if_pos rfl];refine wpAny_passesOwn hp<|thn (hb pins s2 σ1 H2 _ I2 q2) λf s3 q3=>?_;cases f with
  |next=>
   obtain⟨σ3,H3,I3,n3⟩:=q3;obtain⟨m',hm,w3⟩:=hN σ3 H3 n3;exact⟨m',hm,σ3,H3,I3,w3⟩
  |cont=>
   obtain⟨σ3,H3,I3,n3⟩:=q3;obtain⟨m',hm,w3⟩:=hN σ3 H3 n3;exact⟨m',hm,σ3,H3,I3,w3⟩
  |brk=>exact q3
  |ret v=>exact q3
 |false=>
  rw[if_neg zyW];exact wpAny_execs_nil ⟨σ1,H2,I2,q2⟩
end
structure It where
 go:Nat->Hp->Prop
 yld:Nat->Hp->V->Hp->Prop
 stop:Nat->Hp->Prop
def Rh(X:Cx)(pins:List (Addr×Obj))(H:Hp)(b:Addr):Prop:=
 H b=none/\b≠X.env.locals/\b ∉ X.fs/\(b ∈ X.ex\/X.s₀.heap.objs.size<=b)/\(∀x c,X.env.cells.lookup x=some c->c≠b)/\∀p ∈ X.pn++pins,p.1≠b
def Inv.fpOk(I:Inv X pins σ H s)(hb:s.heap.objs.size<=b)(hn:H' b=none):Rh X pins H' b:=by
 refine⟨hn,Nat.ne_of_gt<|zzK I.lt hb,I.nofs hb,.inr<|zzO I.sz hb,λx c e z=>?_,λp hp z=>?_⟩
 . obtain⟨v,q⟩:=I.cell x c e;exact absurd (zzK q.lt<|by rw[z];exact hb)<|Nat.lt_irrefl _
 . exact absurd (zzK (zxJ (I.pin p hp).1)<|by rw[z];exact hb)<|Nat.lt_irrefl _
structure Turn(P:Program)(w:World)(K:zzA)(tg:Expr)(J:It)(fp:List Addr)(it:Addr)(tn:Nat->Heap->Prop):Prop where
 mem:it ∈ fp
 obj:∀i h,tn i h->∀b ∈ fp,∃o,h.get? b=some o/\∀v,o.data ≠ .cell v
 keep:∀i h h',tn i h->(∀b ∈ fp,∀o,h.get? b=some o->h'.get? b=some o)->tn i h'
 item:∀(X:Cx),X.prog=P->X.w=w->X.K=K->X.calm=true->∀(i:Nat) (pins:List (Addr×Obj)) (s:Shared) (σ:St) (H:Hp) (E:Value->Shared->Prop),Inv X pins σ H s->(∀b ∈ fp,Rh X pins H b)->tn i s.heap->J.go i H->
  wpAny (model P w) X.A (pyNext<|.ref it) (λr s1=>∃u,r=some u/\
   wpAny (model P w) X.A (letOwnedTupleGo tg (.ref it) u) (λ_ s2=>∃x H',Inv X pins σ H' s2/\RelV x u/\J.yld i H x H'/\tn (i+1) s2.heap/\∀b ∈ fp,H' b=none) E s1) E s
 done:∀(X:Cx),X.prog=P->X.w=w->X.K=K->X.calm=true->∀(i:Nat) (pins:List (Addr×Obj)) (s:Shared) (σ:St) (H:Hp) (E:Value->Shared->Prop),Inv X pins σ H s->(∀b ∈ fp,Rh X pins H b)->tn i s.heap->J.stop i H->
  wpAny (model P w) X.A (pyNext<|.ref it) (λr s1=>r=none/\Inv X pins σ H s1) E s
 self:∀(A:Around) (i:Nat) (s:Shared) (Q:Value->Shared->Prop) (E:Value->Shared->Prop),tn i s.heap->Q (.ref it) s->wpAny (model P w) A (pyIter<|.ref it) Q E s
abbrev TI:=St->Hp->(It->Hp->Prop)->Prop
def pV(X:Cx)(pins:List (Addr×Obj))(σ:St)(tg:Expr)(R:It->Hp->Prop)(itv:Value)(s2:Shared):Prop:=
 ∃(it:Addr) (fp:List Addr) (tn:Nat->Heap->Prop) (J:It) (H':Hp),itv = .ref it/\Inv X pins σ H' s2/\Turn X.prog X.w X.K tg J fp it tn/\tn 0 s2.heap/\(∀b ∈ fp,Rh X pins H' b)/\R J H'
def PI(X:Cx)(tg iter:Expr)(wi:TI):Prop:=
 ∀(pins:List (Addr×Obj)) (s:Shared) (σ:St) (H:Hp) (R:It->Hp->Prop),Inv X pins σ H s->wi σ H R->
  wpAny (model X.prog X.w) X.A (eval iter X.env) (λv s1=>wpAny (model X.prog X.w) X.A (pyIter v) (pV X pins σ tg R) X.xe s1) X.xe s
def Oa(ho:s.heap.get? it=some o)(hc:o.cls = .type n)(hd:o.data = .fields vs)
 (hn : ["enumerate","zip","dict_itemiterator","dict_reverseitemiterator","odict_iterator","itertools.zip_longest","itertools.pairwise"].contains n=false) (hQ:Q () s):wpAny M A (letOwnedTupleGo tg (.ref it) u) Q E s:=by
 unfold letOwnedTupleGo;cases tg<;>first
  |exact zxH hQ
  |(cases u<;>first
   |exact zxH hQ
   | (refine zxG (wpAny_load ho ?_)
      rw[hc,hd];show wpAny M A (if _=true then _ else _) Q E s;rw[if_neg (by intro h;rw[hn,Bool.false_and]at h;cases h)];exact zxH hQ))
def sQ(K:zzA)(a:Addr):It:=
 ⟨λi H=>∃xs x,YM K H a xs/\xs[i]? = some x,λi H x H'=>H'=H/\∀xs,YM K H a xs->xs[i]? = some x,λi H=>∃xs,YM K H a xs/\xs.length<=i⟩
def sZ(K:zzA)(a:Addr):It:=
 ⟨λi H=>∃xs x,Qy K H a xs/\xs[i]? = some x,λi H x H'=>H'=H/\∀xs,Qy K H a xs->xs[i]? = some x,λi H=>∃xs,Qy K H a xs/\xs.length<=i⟩
def sd(lo:Int)(n:Nat):It:=⟨λi _=>i<n,λi H x H'=>H'=H/\x = .int (lo+i),λi _=>n<=i⟩
def BI{P w K tg}(a it):Turn P w K tg (sQ K a) [it] it (λi h=>h.IsListIter it a i)where
 mem:=by simp
 obj:=λi h st b hb=>by
  have e:b=it:=by simpa using hb
  subst e;obtain⟨o,e,c,d⟩:=st;exact⟨o,e,λv z=>by rw[d]at z;cases z⟩
 keep:=λi h h' st k=>st.at λo e=>k it (by simp) o e
 item:=by
  intro X hP hw hK hc i pins s σ H E I hf st hg;subst hP hw hK;obtain⟨xs,x,hq,hx⟩:=hg;obtain⟨its,rv,p,hz⟩:=I.list hq;obtain⟨u,hu,ru⟩:=rv.get hx;obtain⟨f0,f1,f2,f3,f4,f5⟩:=hf it (by simp);refine wpAny_pyNext_list_item st p.isList (by simpa using hu) λh' st' sb=>?_;have I1:=I.turned (t':=s.toks) (λb o hb e=>(sb.2 b hb).trans e) f0 f1 f3 f4 f5;obtain⟨o,e,c,d⟩:=id st';exact⟨u,rfl,Oa e c d (by decide) ⟨x,H,I1,ru,⟨rfl,λys hy=>by rw[I.list_inj hy hq];exact hx⟩,st',λb hb=>(hf b hb).1⟩⟩
 done:=by
  intro X hP hw hK hc i pins s σ H E I hf st hg;subst hP hw hK;obtain⟨xs,hq,hx⟩:=hg;obtain⟨its,rv,p,hz⟩:=I.list hq;obtain⟨f0,f1,f2,f3,f4,f5⟩:=hf it (by simp);have hl:=rv.length;exact wpAny_pyNext_list_end (I.ok.hd hc) st p.isList (by simp;omega) λh' eb=>⟨rfl,I.turned (t':=s.toks) (λb o hb e=>eb b o hb e) f0 f1 f3 f4 f5⟩
 self:=λ_ _ _ _ _ st h=>wpAny_pyIter_listiter st h
def MQ{P w K tg}(a it):Turn P w K tg (sZ K a) [it] it (λi h=>h.IsTupleIter it a i)where
 mem:=by simp
 obj:=λi h st b hb=>by
  have e:b=it:=by simpa using hb
  subst e;obtain⟨o,e,c,d⟩:=st;exact⟨o,e,λv z=>by rw[d]at z;cases z⟩
 keep:=λi h h' st k=>st.at λo e=>k it (by simp) o e
 item:=by
  intro X hP hw hK hc i pins s σ H E I hf st hg;subst hP hw hK;obtain⟨xs,x,hq,hx⟩:=hg;obtain⟨its,rv,p,hz⟩:=I.tuple hq;obtain⟨u,hu,ru⟩:=rv.get hx;obtain⟨f0,f1,f2,f3,f4,f5⟩:=hf it (by simp);refine wpAny_pyNext_tuple_item st (p) (x:=u) (by simpa using hu) λh' st' sb=>?_;have I1:=I.turned (t':=s.toks) (λb o hb e=>(sb.2 b hb).trans e) f0 f1 f3 f4 f5;obtain⟨o,e,c,d⟩:=id st';exact⟨u,rfl,Oa e c d (by decide) ⟨x,H,I1,ru,⟨rfl,λys hy=>by rw[I.tuple_inj hy hq];exact hx⟩,st',λb hb=>(hf b hb).1⟩⟩
 done:=by
  intro X hP hw hK hc i pins s σ H E I hf st hg;subst hP hw hK;obtain⟨xs,hq,hx⟩:=hg;obtain⟨its,rv,p,hz⟩:=I.tuple hq;obtain⟨f0,f1,f2,f3,f4,f5⟩:=hf it (by simp);have hl:=rv.length;exact wpAny_pyNext_tuple_end (I.ok.hd hc) st (p) (by simp;omega) λh' eb=>⟨rfl,I.turned (t':=s.toks) (λb o hb e=>eb b o hb e) f0 f1 f3 f4 f5⟩
 self:=λ_ _ _ _ _ st h=>wpAny_pyIter_tupleiter st h
def Em{P w K tg}(it)(lo)(n:Nat):Turn P w K tg (sd lo n) [it] it (λi h=>IsRangeIter h it (lo+(i:Nat)*1) ((n:Int)-(i:Nat)) 1)where
 mem:=by simp
 obj:=λi h st b hb=>by
  have e:b=it:=by simpa using hb
  subst e;exact⟨_,st,λv z=>by
   have z':Data.fields _=Data.cell v:=z;cases z'⟩
 keep:=λi h h' st k=>k it (by simp) _ st
 item:=by
  intro X hP hw hK hc i pins s σ H E I hf st hg;subst hP hw hK;obtain⟨f0,f1,f2,f3,f4,f5⟩:=hf it (by simp);have W:=Walks.range (prog:=X.prog) (w:=X.w) (I.ok.hd hc) it lo 1 n;refine W.item i s _ _ hg st λv h' tk hv st' kk=>?_;obtain⟨t,rfl⟩:=hv;have I1:Inv X pins σ H {s with heap:=h',toks:=tk}:=I.turned (λb o hb e=>kk b o (by simpa using hb) e) f0 f1 f3 f4 f5;refine⟨_,rfl,Oa st' rfl rfl (by decide) ⟨.int<|lo+i,H,I1,⟨t, ?_⟩,⟨rfl,rfl⟩,st',λb hb=>(hf b hb).1⟩⟩;rw[Int.mul_one]
 done:=by
  intro X hP hw hK hc i pins s σ H E I hf st hg;subst hP hw hK;obtain⟨f0,f1,f2,f3,f4,f5⟩:=hf it (by simp);exact wpAny_pyNext_range_end (I.ok.hd hc) st (by have:n<=i:=hg;omega) λh' eb=>⟨rfl,I.turned (t':=s.toks) (λb o hb e=>eb b o hb e) f0 f1 f3 f4 f5⟩
 self:=λ_ _ _ _ _ st h=>wpAny_pyIter_rangeiter st h
end L2
namespace L2
open PySem PySem.Spec PyProof.Rows
section
variable{X:Cx}{tg:Expr}
def uz(K:zzA)(tl:TE):TI:=λσ H R=>tl σ H λx H1=>∃a,x = .ref a/\(∃xs,YM K H1 a xs)/\R (sQ K a) H1
def qU(K:zzA)(tl:TE):TI:=λσ H R=>tl σ H λx H1=>∃a,x = .ref a/\(∃xs,Qy K H1 a xs)/\R (sZ K a) H1
def K3{l tl}(hl:PE X l tl):PI X tg l (uz X.K tl):=by
 intro pins s σ H R I h;refine thn (hl pins s σ H _ I h) λv s1 ⟨x,H1,I1,r1,q1⟩=>?_;obtain⟨a,e,⟨xs,hq⟩,q⟩:=q1;subst e;cases r1;obtain⟨its,rv,p,hz⟩:=I1.list hq;refine wpAny_pyIter_list p.isList ?_;refine⟨s1.heap.objs.size,[s1.heap.objs.size],_,_,H1,rfl,I1.kept (t':=s1.toks) λb o e=>zxI _ e,BI a _,⟨_,zxK _ rfl,rfl,rfl⟩,λb hb=>?_,q⟩;have e:b=s1.heap.objs.size:=by simpa using hb
 subst e;exact I1.fpOk (zzN _)<|I1.hok.fresh<|zzN _
def Ew{l tl}(hl:PE X l tl):PI X tg l (qU X.K tl):=by
 intro pins s σ H R I h;refine thn (hl pins s σ H _ I h) λv s1 ⟨x,H1,I1,r1,q1⟩=>?_;obtain⟨a,e,⟨xs,hq⟩,q⟩:=q1;subst e;cases r1;obtain⟨its,rv,p,hz⟩:=I1.tuple hq;refine wpAny_pyIter_tuple (p) ?_;refine⟨s1.heap.objs.size,[s1.heap.objs.size],_,_,H1,rfl,I1.kept (t':=s1.toks) λb o e=>zxI _ e,MQ a _,⟨_,zxK _ rfl,rfl,rfl⟩,λb hb=>?_,q⟩;have e:b=s1.heap.objs.size:=by simpa using hb
 subst e;exact I1.fpOk (zzN _)<|I1.hok.fresh<|zzN _
def HU{pins σ H s R E lo hi t u v}{tk:Nat}(I:Inv X pins σ H s)(h1 : -(2 ^ 62)<=lo)(h2:lo<2 ^ 62)(h3 : -(2 ^ 62)<=hi)(h4:hi<2 ^ 62)
 (q:R (sd lo (hi-lo).toNat) H):wpAny (model X.prog X.w) X.A (pyIter<|.ref s.heap.objs.size) (pV X pins σ tg R) E {s with heap:=s.heap.push {cls:=.type "range",data:=.fields #[.int lo t,.int hi u,.int 1 v]},toks:=tk}:=by
 refine wpAny_pyIter_range (IsRange.new ..) (small_one h1 h2 h3 h4) ?_;have I1:Inv X pins σ H {s with heap:=s.heap.push {cls:=.type "range",data:=.fields #[.int lo t,.int hi u,.int 1 v]},toks:=tk}:=I.kept λb o e=>zxI _ e;refine⟨(s.heap.push {cls:=.type "range",data:=.fields #[.int lo t,.int hi u,.int 1 v]}).objs.size,[(s.heap.push {cls:=.type "range",data:=.fields #[.int lo t,.int hi u,.int 1 v]}).objs.size],_,_,H,rfl,
  I1.kept (t':=tk) λb o e=>zxI _ e,Em _ lo (hi-lo).toNat, ?_,λb hb=>?_,q⟩
 . have e1:lo+((0:Nat):Int)*1=lo:=by simp
   have e2:(((hi-lo).toNat:Nat):Int)-((0:Nat):Int)=Builtin.Range.rangeSize lo hi 1:=by rw[rangeSize_one];split<;>omega
   rw[e1,e2];exact zxK _ rfl
 . have e:b=(s.heap.push {cls:=.type "range",data:=.fields #[.int lo t,.int hi u,.int 1 v]}).objs.size:=by simpa using hb
   subst e;exact I1.fpOk (zzN _)<|I1.hok.fresh<|zzN _
def sH(ta:TA):TI:=λσ H R=>ta σ H λvs H1=>∃j:Int,vs=[.int j] /\ -(2 ^ 62)<=j/\j<2 ^ 62/\R (sd 0 j.toNat) H1
def Kr{a ta p pos}(hg:Gl X "range")(hm:X.mg "range"=none)(ha:PA X [a] ta)(hs:starEach [a] X.env=[(false,eval a X.env)]:=by rfl):PI X tg (.Call (.Name "range" p) [a] [] pos) (sH ta):=by
 intro pins s σ H R I h;refine Call_<|Ze I hg hm boot_range<|PyProof.Rows.callWith_type1 (thn (ha pos pins s σ H _ I h) λus s1 ⟨vs,H1,I1,r1,q1⟩=>?_) hs rfl;obtain⟨j,e,q1,q2,q⟩:=q1;subst e;cases r1 with
 |cons r rr=>
  cases rr;obtain⟨t,rfl⟩:=r;exact call_range_1 (HU I1 (by omega) (by omega) q1 q2<|by simpa using q)
def qR(wi:TI)(g:TG)(tb:TS):TS:=λD σ H=>wi σ H λJ H1=>∃W:Nat->Nat->St->Hp->Prop,(∃m,W 0 m σ H1)/\∀i m σ H,W i m σ H->
 (J.stop i H/\D.nx σ H)\/(J.go i H/\∃N:St->Hp->Prop,(∀σ' H',N σ' H'->∃m',m'<m/\W (i+1) m' σ' H')/\∀x H',J.yld i H x H'->g x σ H' λσ2 H2=>tb {D with nx:=N,ct:=N,bk:=D.nx} σ2 H2)
def EB(fp:List Addr)(h:Heap):List (Addr×Obj):=fp.filterMap λb=>(h.get? b).map λo=>(b,o)
def Yh(hb:b ∈ fp)(e:h.get? b=some o):(b,o) ∈ EB fp h:=List.mem_filterMap.mpr ⟨b,hb,by rw[e];rfl⟩
def B5(hp:p ∈ EB fp h):p.1 ∈ fp/\h.get? p.1=some p.2:=by
 obtain⟨b,hb,e⟩:=List.mem_filterMap.mp hp;cases q:h.get? b with
 |none=>rw[q]at e;cases e
 |some o=>
  rw[q]at e;have e':(b,o)=p:=zzZ e;subst e';exact⟨hb,q⟩
def Inv.pinned(I:Inv X pins σ H s)(hf:∀b ∈ fp,Rh X pins H b)(ho:∀b ∈ fp,∃o,s.heap.get? b=some o/\∀v,o.data ≠ .cell v):Inv X (pins++EB fp s.heap) σ H s:=
 I.pins_of λp hp=>(zzM.mp hp).elim (λz=>I.pin p<|zzL _ z) λz=>by
  obtain⟨hb,e⟩:=B5 z;obtain⟨f0,f1,f2,_⟩:=hf p.1 hb;obtain⟨o,e',d⟩:=ho p.1 hb;rw[e]at e';cases e';exact⟨e,f0,f1,f2,d⟩
def Inv.unpinned(I:Inv X (pins++pl) σ H s):Inv X pins σ H s:=I.pins_of λp hp=>I.pin p<|zzL _<|zzP _ hp
def Dy(hp:PassesOwn (model X.prog X.w) X.A X.env X.xe)(hc:X.calm=true)(hi:PI X tg iter wi)(hg:PG X tg g)(hb:MH X body tb)
 (hs:∀x,foldedSetIterable iter X.env x=pure x:=by intro _;rfl):PS X (.For tg iter body [] pos) (qR wi g tb):=by
 intro pins s σ H D I h;refine wpAny_For (thn (hi pins s σ H _ I h) λv s1 h1=>thn h1 λitv s2 h2=>?_) hs;obtain⟨it,fp,tn,J,H2,e,I2,T,st2,f2,W,⟨m0,w0⟩,turn⟩:=h2;subst e;have stat:∀{H':Hp},(∀b ∈ fp,H' b=none)->∀b ∈ fp,Rh X pins H' b:=λhn b hb=>⟨hn b hb,(f2 b hb).2⟩;refine codeAny_forLoop_any (λn s'=>∃i σ' H',Inv X pins σ' H' s'/\tn i s'.heap/\(∀b ∈ fp,H' b=none)/\W i n σ' H') ?_ m0 ⟨0,σ,H2,I2,st2,λb hb=>(f2 b hb).1,w0⟩
 rintro n s3 ⟨i,σ3,H3,I3,st3,fr3,w3⟩
 rcases turn i n σ3 H3 w3 with⟨stop,qn⟩|⟨go,N,hN,step⟩
 . refine wpAny_passesOwn hp<|thn (T.done X rfl rfl rfl hc i pins s3 σ3 H3 X.xe I3 (stat fr3) st3 stop) λr s4 ⟨hr,I4⟩=>?_;subst hr;exact wpAny_execs_nil ⟨σ3,H3,I4,qn⟩
 . refine wpAny_passesOwn hp<|thn (T.item X rfl rfl rfl hc i pins s3 σ3 H3 X.xe I3 (stat fr3) st3 go) λr s4 ⟨u,hr,h4⟩=>?_;subst hr;refine wpAny_passesOwn hp<|thn h4 λ_ s5 ⟨x,H5,I5,r5,y5,st5,fr5⟩=>?_;have I5':=I5.pinned (stat fr5)<|T.obj _ _ st5;refine wpAny_passesOwn hp<|thn (hg _ s5 σ3 H5 x u _ I5' r5<|step x H5 y5) λ_ s6 ⟨σ6,H6,I6,q6⟩=>?_;refine wpAny_passesOwn hp<|thn (hb _ s6 σ6 H6 _ I6 q6) λf s7 q7=>?_;have again:∀{σ7:St}{H7:Hp},Inv X _ σ7 H7 s7->N σ7 H7->∃m,m<n/\∃i σ' H',Inv X pins σ' H' s7/\tn i s7.heap/\(∀b ∈ fp,H' b=none)/\W i m σ' H':=λ{σ7 H7} I7 n7=>by
    obtain⟨m',hm,w7⟩:=hN σ7 H7 n7;refine⟨m',hm,i+1,σ7,H7,I7.unpinned,T.keep _ _ _ st5 λb hb o e=>(I7.pin (b,o)<|zzL _<|zzL _<|Yh hb e).1,λb hb=>?_,w7⟩;obtain⟨o,e,d⟩:=T.obj _ _ st5 b hb;exact(I7.pin (b,o)<|zzL _<|zzL _<|Yh hb e).2.1
   cases f with
   |next=>obtain⟨σ7,H7,I7,n7⟩:=q7;exact again I7 n7
   |cont=>obtain⟨σ7,H7,I7,n7⟩:=q7;exact again I7 n7
   |brk=>obtain⟨σ7,H7,I7,q7⟩:=q7;exact⟨σ7,H7,I7.unpinned,q7⟩
   |ret v=>obtain⟨x7,σ7,H7,I7,r7,q7⟩:=q7;exact⟨x7,σ7,H7,I7.unpinned,r7,q7⟩
end
end L2
namespace L2
open PySem PySem.Spec PyProof.Rows
abbrev R2:=V->V->Hp->VK->Prop
def Qw(X:Cx)(f:Value->Value->Sem Value)(r:R2):Prop:=
 ∀(pins:List (Addr×Obj)) (s:Shared) (σ:St) (H:Hp) (x y:V) (v u:Value) (Q:VK),Inv X pins σ H s->RelV x v->RelV y u->r x y H Q->
  wpAny (model X.prog X.w) X.A (f v u) (EP X pins σ Q) X.xe s
def sP(X:Cx)(f:Value->Sem Value)(r:V->Hp->VK->Prop):Prop:=
 ∀(pins:List (Addr×Obj)) (s:Shared) (σ:St) (H:Hp) (x:V) (v:Value) (Q:VK),Inv X pins σ H s->RelV x v->r x H Q->
  wpAny (model X.prog X.w) X.A (f v) (EP X pins σ Q) X.xe s
def Xv(X:Cx)(f:Value)(r:List V->Hp->VK->Prop):Prop:=
 ∀(pins:List (Addr×Obj)) (s:Shared) (σ:St) (H:Hp) (xs:List V) (us:List Value) (Q:VK),Inv X pins σ H s->ya xs us->r xs H Q->
  wpAny (model X.prog X.w) X.A (call f us) (EP X pins σ Q) X.xe s
def rY(X:Cx)(r:V->Hp->(Bool->Hp->Prop)->Prop):Prop:=
 ∀(pins:List (Addr×Obj)) (s:Shared) (σ:St) (H:Hp) (x:V) (v:Value) (Q:Bool->Hp->Prop),Inv X pins σ H s->RelV x v->r x H Q->
  wpAny (model X.prog X.w) X.A (truthy v) (TP X pins σ Q) X.xe s
def uR(r:R2)(ta tb:TE):TE:=λσ H Q=>ta σ H λx H1=>tb σ H1 λy H2=>r x y H2 Q
def oM(r:V->Hp->VK->Prop)(ta:TE):TE:=λσ H Q=>ta σ H λx H1=>r x H1 Q
def rI(C:Int->Int->Prop)(g:Int->Int->V):R2:=λx y H Q=>∃i j,x = .int i/\y = .int j/\C i j/\Q (g i j) H
def JN(g:Int->Int->V):R2:=λx y H Q=>∃i j,x = .int i/\y = .int j/\Q (g i j) H
def rU(g:Int->V):V->Hp->VK->Prop:=λx H Q=>∃i,x = .int i/\Q (g i) H
section
variable{X:Cx}{a b c:Expr}{ta tb tc:TE}{pos:Pos}
def uc(ha:PE X a ta)(hb:PE X b tb){pins s σ H}{R:V->V->Hp->Prop}(I:Inv X pins σ H s)
 (h:ta σ H λx H1=>tb σ H1 λy H2=>R x y H2) {Q:Value->Shared->Prop}{f:Value->Value->Sem Value}
 (hf:∀v u s2 x y H2,Inv X pins σ H2 s2->RelV x v->RelV y u->R x y H2->wpAny (model X.prog X.w) X.A (f v u) Q X.xe s2):
 wpAny (model X.prog X.w) X.A (eval a X.env) (λv s₁=>wpAny (model X.prog X.w) X.A (eval b X.env) (λu s₂=>wpAny (model X.prog X.w) X.A (f v u) Q X.xe s₂) X.xe s₁) X.xe s:=by
 refine thn (ha pins s σ H _ I h) λv s1 ⟨x,H1,I1,r1,q1⟩=>?_;refine thn (hb pins s1 σ H1 _ I1 q1) λu s2 ⟨y,H2,I2,r2,q2⟩=>?_;exact hf v u s2 x y H2 I2 r1 r2 q2
def Jy{op}{r:R2}(ho:Qw X (binaryOp op) r)(ha:PE X a ta)(hb:PE X b tb):PE X (.BinOp a op b pos) (uR r ta tb):=by
 intro pins s σ H Q I h;exact wpAny_BinOp<|uc ha hb I h λv u s2 x y H2 I2 rx ry q=>ho pins s2 σ H2 x y v u Q I2 rx ry q
def u5(ho:sP X (unaryOp op) r)(ha:PE X a ta):PE X (.UnaryOp op a pos) (oM r ta):=by
 intro pins s σ H Q I h;exact UnaryOp_<|thn (ha pins s σ H _ I h) λv s1 ⟨x,H1,I1,r1,q1⟩=>ho pins s1 σ H1 x v Q I1 r1 q1
def pD{f C}{g:Int->Int->Int}
 (rule:∀(i j:Int) (t u:Tok) (s:Shared) (Q:Value->Shared->Prop) (E:Value->Shared->Prop),C i j->Q (.int (g i j) s.toks) {s with toks:=s.toks+1}->wpAny (model X.prog X.w) X.A (f (.int i t)<|.int j u) Q E s):
 Qw X f (rI C λi j=>.int<|g i j):=by
 intro pins s σ H x y v u Q I rx ry h;obtain⟨i,j,rfl,rfl,hc,q⟩:=h;obtain⟨t,rfl⟩:=rx;obtain⟨t',rfl⟩:=ry;exact rule i j t t' s _ _ hc ⟨.int<|g i j,H,I.tok _,⟨_,rfl⟩,q⟩
def tu{f}{g:Int->Int->Int}
 (rule:∀(i j:Int) (t u:Tok) (s:Shared) (Q:Value->Shared->Prop) (E:Value->Shared->Prop),Q (.int (g i j) s.toks) {s with toks:=s.toks+1}->wpAny (model X.prog X.w) X.A (f (.int i t)<|.int j u) Q E s):
 Qw X f (JN λi j=>.int<|g i j):=by
 intro pins s σ H x y v u Q I rx ry h;obtain⟨i,j,rfl,rfl,q⟩:=h;obtain⟨t,rfl⟩:=rx;obtain⟨t',rfl⟩:=ry;exact rule i j t t' s _ _ ⟨.int<|g i j,H,I.tok _,⟨_,rfl⟩,q⟩
def Cs{f}{g:Int->Int->Bool}
 (rule:∀(i j:Int) (t u:Tok) (s:Shared) (Q:Value->Shared->Prop) (E:Value->Shared->Prop),Q (.bool<|g i j) s->wpAny (model X.prog X.w) X.A (f (.int i t)<|.int j u) Q E s):
 Qw X f (JN λi j=>.bl<|g i j):=by
 intro pins s σ H x y v u Q I rx ry h;obtain⟨i,j,rfl,rfl,q⟩:=h;obtain⟨t,rfl⟩:=rx;obtain⟨t',rfl⟩:=ry;exact rule i j t t' s _ _ ⟨.bl<|g i j,H,I,rfl,q⟩
def qL(i j:Int):Prop:=0<j/\j<1073741824
def q8(i j:Int):Prop:=0<=j/\j<=1000000/\i.natAbs<2 ^ 64
def Df:Qw X (binaryOp .Add) (JN λi j=>.int<|i+j):=tu λ_ _ _ _ _ _ _ q=>add_int q
def DK:Qw X (binaryOp .Sub) (JN λi j=>.int<|i-j):=tu λ_ _ _ _ _ _ _ q=>sub_int q
def Hu:Qw X (binaryOp .Mod) (rI (λ_ j=>0<j) λi j=>.int<|i%j):=pD λi j _ _ _ _ _ hc q=>by
 have h1:=hc;exact mod_int' (by omega) (by rw[Int.fmod_eq_emod_of_nonneg i<|by omega];exact q)
def DC:Qw X (binaryOp .Pow) (rI q8 λi j=>.int<|i ^ j.toNat):=pD λ_ _ _ _ _ _ _ hc q=>pow_int_small hc.1 hc.2.1 hc.2.2 q
def oU{f}{g:Int->Int}
 (rule:∀(i:Int) (t:Tok) (s:Shared) (Q:Value->Shared->Prop) (E:Value->Shared->Prop),Q (.int (g i) s.toks) {s with toks:=s.toks+1}->wpAny (model X.prog X.w) X.A (f<|.int i t) Q E s):
 sP X f (rU λi=>.int<|g i):=by
 intro pins s σ H x v Q I rx h;obtain⟨i,rfl,q⟩:=h;obtain⟨t,rfl⟩:=rx;exact rule i t s _ _ ⟨.int<|g i,H,I.tok _,⟨_,rfl⟩,q⟩
def DV:sP X (unaryOp .USub) (rU λi=>.int (-i)):=oU λ_ _ _ _ _ q=>neg_int q
end
section
variable{X:Cx}{a b c:Expr}{ta tb tc:TE}{pos:Pos}
def xp(I:Inv X pins σ H s)(q:Q (.bl k) H)(e:k=k'):EP X pins σ Q (.bool k') s:=by
 subst e;exact⟨.bl k,H,I,rfl,q⟩
def u4:Qw X (compareOp .Lt) (JN λi j=>.bl<|decide (i<j)):=Cs λ_ _ _ _ _ _ _ q=>lt_int q
def u9:Qw X (compareOp .LtE) (JN λi j=>.bl<|decide (i<=j)):=Cs λ_ _ _ _ _ _ _ q=>le_int q
def tO:Qw X (compareOp .Gt) (JN λi j=>.bl<|decide (j<i)):=Cs λ_ _ _ _ _ _ _ q=>gt_int q
def uY:Qw X (compareOp .GtE) (JN λi j=>.bl<|decide (j<=i)):=Cs λ_ _ _ _ _ _ _ q=>ge_int q
def BS:Qw X (compareOp .In) (λx y H Q=>∃i j,x = .str i/\y = .str j/\Q (.bl<|!(Builtin.Str.occurrences j i 0 j.length 1).isEmpty) H):=by
 intro pins s σ H x y v u Q I rx ry h;obtain⟨i,j,rfl,rfl,q⟩:=h;obtain⟨t,rfl⟩:=rx;obtain⟨t',rfl⟩:=ry;exact in_str<|xp I q rfl
def uq:Qw X (compareOp .Is) (λx y H Q=>y = .non/\Q (.bl<|decide (x = .non)) H):=by
 intro pins s σ H x y v u Q I rx ry h;obtain⟨rfl,q⟩:=h;cases ry;refine is_none_gen<|xp I q ?_;cases x<;>first
  |(cases rx;rfl)
  |(obtain⟨t,rfl⟩:=rx;rfl)
def Iv:Qw X (compareOp .IsNot) (λx y H Q=>y = .non/\Q (.bl<|!decide (x = .non)) H):=by
 intro pins s σ H x y v u Q I rx ry h;obtain⟨rfl,q⟩:=h;cases ry;refine isnot_none_gen<|xp I q ?_;cases x<;>first
  |(cases rx;rfl)
  |(obtain⟨t,rfl⟩:=rx;rfl)
def Le:Qw X (compareOp .NotIn) (λx y H Q=>∃i j,x = .str i/\y = .str j/\Q (.bl<|!(!(Builtin.Str.occurrences j i 0 j.length 1).isEmpty)) H):=by
 intro pins s σ H x y v u Q I rx ry h;obtain⟨i,j,rfl,rfl,q⟩:=h;obtain⟨t,rfl⟩:=rx;obtain⟨t',rfl⟩:=ry;exact notIn_str<|xp I q rfl
def Hm(b)(h:op ≠ .In:=by decide)(h2:op ≠ .NotIn:=by decide):behindInMarks op b=false:=by
 have e1:(op==CmpOp.In)=false:=by cases op<;>first|rfl|exact absurd rfl h
 have e2:(op==CmpOp.NotIn)=false:=by cases op<;>first|rfl|exact absurd rfl h2
 cases b<;>simp[behindInMarks,e1,e2]
def CH{op}{r:R2}(ho:Qw X (compareOp op) r)(ha:PE X a ta)(hb:PE X b tb)(hm:behindInMarks op b=false):PE X (.Compare a [op] [b] pos) (uR r ta tb):=by
 intro pins s σ H Q I h;exact wpAny_Compare1 (uc ha hb I h λv u s2 x y H2 I2 rx ry q=>ho pins s2 σ H2 x y v u Q I2 rx ry q) hm
def JH(t:TE):TT:=λσ H Q=>t σ H λx H'=>∃k,x = .bl k/\Q k H'
def Ik(ho:Qw X (compareOp op) r)(ha:PE X a ta)(hb:PE X b tb)(hm:behindInMarks op b=false):PT X (.Compare a [op] [b] pos) (JH<|uR r ta tb):=by
 intro pins s σ H Q I h;refine wpAny_isTrue_Compare1 (thn (ha pins s σ H _ I h) λv s1 ⟨x,H1,I1,r1,q1⟩=>thn (hb pins s1 σ H1 _ I1 q1) λu s2 ⟨y,H2,I2,r2,q2⟩=>
  thn (ho pins s2 σ H2 x y v u _ I2 r1 r2 q2) λc s3 ⟨z,H3,I3,r3,k,e,q3⟩=>?_) hm
 subst e;cases r3;exact wpAny_truthy_bool ⟨H3,I3,q3⟩
def EC(r r':R2)(ta tb tc:TE):TE:=λσ H Q=>ta σ H λx H1=>tb σ H1 λy H2=>r x y H2 λz H3=>∃k,z = .bl k/\
 (if k=true then tc σ H3 λw' H4=>r' y w' H4 Q else Q (.bl false) H3)
def OM(ho:Qw X (compareOp op) r)(ho':Qw X (compareOp op') r')(ha:PE X a ta)(hb:PE X b tb)(hc:PE X c tc)
 (hm:lastMarks [op,op'] [b,c]=false:=by with_unfolding_all rfl):PE X (.Compare a [op,op'] [b,c] pos) (EC r r' ta tb tc):=by
 intro pins s σ H Q I h;refine Compare_chain (thn (ha pins s σ H _ I h) λv s1 ⟨x,H1,I1,r1,q1⟩=>chain_link<|thn (hb pins s1 σ H1 _ I1 q1) λu s2 ⟨y,H2,I2,r2,q2⟩=>
  thn (ho pins s2 σ H2 x y v u _ I2 r1 r2 q2) λd s3 ⟨z,H3,I3,r3,k,e,q3⟩=>?_) hm
 subst e;cases r3;refine wpAny_truthy_bool ?_;cases k with
 |false=>exact ite_ff ⟨.bl false,H3,I3,rfl,q3⟩
 |true=>exact ite_tt (chain_last<|thn (hc pins s3 σ H3 _ I3 q3) λw' s4 ⟨z',H4,I4,r4,q4⟩=>ho' pins s4 σ H4 y z' u w' Q I4 r2 r4 q4)
def HV(ho:Qw X (compareOp op) r)(ho':Qw X (compareOp op') r')(ha:PE X a ta)(hb:PE X b tb)(hc:PE X c tc)
 (hm:lastMarks [op,op'] [b,c]=false:=by with_unfolding_all rfl):PT X (.Compare a [op,op'] [b,c] pos) (JH<|EC r r' ta tb tc):=by
 intro pins s σ H Q I h;refine isTrue_chain (thn (ha pins s σ H _ I h) λv s1 ⟨x,H1,I1,r1,q1⟩=>test_link<|thn (hb pins s1 σ H1 _ I1 q1) λu s2 ⟨y,H2,I2,r2,q2⟩=>
  thn (ho pins s2 σ H2 x y v u _ I2 r1 r2 q2) λd s3 ⟨z,H3,I3,r3,k,e,q3⟩=>?_) hm
 subst e;cases r3;refine wpAny_truthy_bool ?_;cases k with
 |false=>
  obtain⟨k',e',q'⟩:=q3;cases e';exact ite_ff ⟨H3,I3,q'⟩
 |true=>
  refine ite_tt<|test_last<|thn (hc pins s3 σ H3 _ I3 q3) λw' s4 ⟨z',H4,I4,r4,q4⟩=>thn (ho' pins s4 σ H4 y z' u w' _ I4 r2 r4 q4) λd' s5 ⟨z2,H5,I5,r5,k2,e2,q5⟩=>?_;subst e2;cases r5;exact wpAny_truthy_bool ⟨H5,I5,q5⟩
def DS(K:zzA)(x:V)(H:Hp)(k:Bool):Prop:=
 match x with
 | .non=>k=false
 | .bl b=>k=b
 | .int i=>k=(i != 0)
 | .str y=>y.length<=sizeLine/\k=((y.length:Int) != 0)
 | .byt y=>y.size<=sizeLine/\k=((y.size:Int) != 0)
 | .ref p=>(∃xs,YM K H p xs/\k = !xs.isEmpty)\/(∃xs,Qy K H p xs/\k = !xs.isEmpty)\/∃kvs,H p=some (.dK kvs)/\k = !kvs.isEmpty
 |_=>False
def MP(r:KV kvs vs):(!vs.isEmpty) = !kvs.isEmpty:=by
 cases r<;>rfl
def P3(r:ya xs its):(!its.toArray.isEmpty) = !xs.isEmpty:=by
 cases r<;>simp
def W9:(sizeLine:Nat)<2 ^ 63:=by rw[sizeLine_eq];decide
def D8:rY X (λx H Q=>∃k,DS X.K x H k/\Q k H):=by
 intro pins s σ H x v Q I rx h;obtain⟨k,e,q⟩:=h;have hl:=W9;have hs:=sizeLine_eq;cases x with
 |non=>
  cases rx;have e':k=false:=e;subst e';exact truthy_none ⟨H,I,q⟩
 |bl b=>
  cases rx;have e':k=b:=e;subst e';exact wpAny_truthy_bool ⟨H,I,q⟩
 |int i=>
  obtain⟨t,rfl⟩:=rx;have e':k=(i != 0):=e;subst e';exact PySem.P.truthy_int ⟨H,I,q⟩
 |str y=>
  obtain⟨t,rfl⟩:=rx;obtain⟨hy,e'⟩:y.length<=sizeLine/\k=_:=e;subst e';exact PySem.P.truthy_str (by omega) ⟨H,I.tok _,q⟩
 |byt y=>
  obtain⟨t,rfl⟩:=rx;obtain⟨hy,e'⟩:y.size<=sizeLine/\k=_:=e;subst e';exact W.truthy_bytes (by omega) ⟨H,I.tok _,q⟩
 |ref p=>
  cases rx;have e':_\/_\/∃kvs,H p=some (.dK kvs)/\k = !kvs.isEmpty:=e
  rcases e' with⟨xs,hx,e'⟩|⟨xs,hx,e'⟩|⟨kvs,hx,e'⟩
  . subst e';obtain⟨its,r,pl,hz⟩:=I.list hx;have hlen:=r.length;exact wpAny_truthy_list pl.isList (by simp only[zzH];omega) ⟨H,I.tok _,by rw[P3 r];exact q⟩
  . subst e';obtain⟨its,r,pl,hz⟩:=I.tuple hx;have hlen:=r.length;exact truthy_tuple pl (by simp only[zzH];omega) ⟨H,I.tok _,by rw[P3 r];exact q⟩
  . subst e';obtain⟨hz,hS,vs,r,m⟩:kvs.length<=sizeLine/\_=false/\∃vs,KV kvs vs/\s.heap.DictOf _ p vs:=I.hok p _ hx;have hlen:=Paired.length r;exact wpAny_truthy_dict hS m (by omega) ⟨H,I.tok _,by rw[MP r];exact q⟩
 |_=>exact(e).elim
def SJ(ha:PE X a ta)(he:∀whole,isTrue a X.env whole=(do let v <-whole;standAt a.pos;holding [v] (truthy v))):
 PT X a (λσ H Q=>ta σ H λx H'=>∃k,DS X.K x H' k/\Q k H'):=by
 intro pins s σ H Q I h;exact isTrue_plain (thn (ha pins s σ H _ I h) λv s1 ⟨x,H1,I1,r1,q1⟩=>D8 pins s1 σ H1 x v Q I1 r1 q1)<|he _
def M7:Qw X (binaryOp .Add) (λx y H Q=>∃i j,x = .str i/\y = .str j/\i.length+j.length<=sizeLine/\Q (.str<|i++j) H):=by
 intro pins s σ H x y v u Q I rx ry h;obtain⟨i,j,rfl,rfl,hz,q⟩:=h;obtain⟨t,rfl⟩:=rx;obtain⟨t',rfl⟩:=ry;exact add_str (λt' tk=>⟨.str<|i++j,H,I.tok _,⟨_,rfl⟩,q⟩) hz
def vals1(r:ya [x] us):∃u,us=[u]/\RelV x u:=by
 cases r with
 |cons r1 r2=>cases r2;exact⟨_,rfl,r1⟩
def vals2(r:ya [x,y] us):∃u w',us=[u,w']/\RelV x u/\RelV y w':=by
 cases r with
 |cons r1 r2=>
  cases r2 with
  |cons r3 r4=>cases r4;exact⟨_,_,rfl,r1,r3⟩
def Sk(hc:X.calm=true):Xv X (.builtin "max") (λxs H Q=>∃i j,xs=[.int i,.int j]/\Q (.int (if j > i then j else i)) H):=by
 intro pins s σ H xs us Q I r h;obtain⟨i,j,rfl,q⟩:=h;obtain⟨u,w',rfl,⟨t,rfl⟩,⟨t',rfl⟩⟩:=vals2 r;refine max_two_ints (I.ok.hd hc) λh' tk k=>⟨_,H,I.kept k, ?_,q⟩
 by_cases hj:j > i
 . rw[if_pos hj,if_pos hj];exact⟨_,rfl⟩
 . rw[if_neg hj,if_neg hj];exact⟨_,rfl⟩
def GR:Xv X (.type "int") (λxs H Q=>(∃i,xs=[.int i]/\Q (.int i) H)\/∃k,xs=[.bl k]/\Q (.int (if k then 1 else 0)) H):=by
 intro pins s σ H xs us Q I r h
 rcases h with⟨i,rfl,q⟩|⟨k,rfl,q⟩
 . obtain⟨u,rfl,t,rfl⟩:=vals1 r;exact call_int_int ⟨.int i,H,I,⟨_,rfl⟩,q⟩
 . obtain⟨u,rfl,r1⟩:=vals1 r;cases r1;exact call_int_bool ⟨.int _,H,I.tok _,⟨_,rfl⟩,q⟩
def MF:Xv X (.builtin "divmod") (λxs H Q=>∃i j,xs=[.int i,.int j]/\qL i j/\∀p,H p=none->Q (.ref p) (upd H p<|.tup [.int<|i/j,.int<|i%j])):=by
 intro pins s σ H xs us Q I r h;obtain⟨i,j,rfl,⟨h1,h2⟩,q⟩:=h;obtain⟨u,w',rfl,⟨t,rfl⟩,⟨t',rfl⟩⟩:=vals2 r;refine divmod_int (by omega) ?_ (.inl<|PyProof.noPylong_small<|by omega);rw[Int.fdiv_eq_ediv_of_nonneg i (by omega),Int.fmod_eq_emod_of_nonneg i<|by omega];have hn:=I.hok.fresh<|zzN _;refine⟨.ref s.heap.objs.size,_, ?_,rfl,q _ hn⟩;refine I.laid (λb o e=>zxI _ e) (zzN _) ⟨by simp only[zzT,List.length_nil];rw[sizeLine_eq];decide,[.int (i/j) s.toks,.int (i%j)<|s.toks+1],.cons ⟨_,rfl⟩<|.cons ⟨_,rfl⟩ .nil, ?_⟩;exact⟨_,zxK s.heap rfl,rfl,0,rfl⟩
end
end L2
namespace L2
open PySem PySem.Spec PyProof.Rows
structure ObjM(h:Heap)(x dx C:Addr)(mA:Str->Option Value):Prop where
 obj:h.get? x=some (W.instObj C dx)
 ns:h.Ns1 dx mA
 ne:dx≠x
def T7.some_of(r:T7 (some v) o):∃u,o=some u/\RelV v u:=by
 cases o with
 |none=>exact(r).elim
 |some u=>exact⟨u,rfl,r⟩
structure Cls(K:zzA)(C:Addr):Prop where
 pg:W.plainGet K C Str.empty=true
 hd:W.hasDictIn K C=true
 po:W.plainOver K C=true
 sa:W.findIn K (.ref C) "__setattr__"=some (some<|.builtin "object.__setattr__")
structure Con(K:zzA)(C:Addr)(f:Str)(v:V)(u:Value):Prop where
 at_:W.findIn K (.ref C) f=some (some u)
 rel:RelV v u
 get:W.specialIn K u "__get__"=some none
 cp:W.copiedNames.contains f=false
structure Meth(K:zzA)(C:Addr)(m:Str)(f:Addr):Prop where
 at_:W.findIn K (.ref C) m=some (some<|.ref f)
 fn:W.isFn K (.ref f)=true
 kp:W.keepIn K (.ref f)=true
section
variable{X:Cx}{pins:List (Addr×Obj)}{σ:St}{H:Hp}{s:Shared}{A:Around}{E:Value->Shared->Prop}{Q:Value->Shared->Prop}{c:Value}{b:Bool}
inductive TyOf(K:zzA)(H:Hp):V->Value->Prop where
 |non:TyOf K H .non (.type "NoneType")
 |bl (x:Bool):TyOf K H (.bl x) (.type "bool")
 |int (i:Int):TyOf K H (.int i) (.type "int")
 |str (x:Str):TyOf K H (.str x) (.type "str")
 |flt (x:UInt64):TyOf K H (.flt x) (.type "float")
 |lst {a:Addr}{xs:List V}(e:H a=some (.lst xs)):TyOf K H (.ref a) (.type "list")
 |frz {a:Addr}{o:Obj}{xs:List V}(e:H a=some (.frz o (.lst xs))):TyOf K H (.ref a) (.type "list")
 |tup {a:Addr}{xs:List V}(e:H a=some (.tup xs)):TyOf K H (.ref a) (.type "tuple")
 |dK {a:Addr}{kvs:List (Key×V)}(e:H a=some (.dK kvs)):TyOf K H (.ref a) (.type "dict")
 |dT {a:Addr}{kvs:List (List Key×V)}(e:H a=some (.dT kvs)):TyOf K H (.ref a) (.type "dict")
 |ins {a C dx:Addr}{fs:List (Str×V)}(e:H a=some (.ins C dx fs)) (cl:Cls K C) (ha:W.findIn K (.ref C) "__class__"=some (some (.builtin "object.__class__")))
  (hn:W.specialIn K (.builtin "object.__class__") "__get__"=some (some<|.builtin "getset_descriptor.__get__")) (htk:W.takesIn K (.builtin "object.__class__")=some true)
  (hm:W.mroIn K C (.type "object")=some true):TyOf K H (.ref a) (.ref C)
end
end L2
namespace L2
open PySem PySem.Spec PyProof.Rows
structure Room(k:Nat)(A:Around):Prop where
 hd:A.handled=none
 dp:A.depth+3*k+5<recursionLimit
 un:A.units+16*k+200<cLine
 gd:A.guards=some []
def Room.mono(r:Room k A)(h:j<=k):Room j A:=⟨r.hd,by have:=r.dp;omega,by have:=r.un;omega,r.gd⟩
theorem Room.deeper(r:Room (k+1) A)(env):Room k (A.deeper env):=
 ⟨r.hd,by have:=r.dp;show A.depth+1+3*k+5<_;omega,by have:=r.un;show A.units+3+16*k+200<_;omega,r.gd⟩
theorem Room.depth(r:Room k A):A.depth<recursionLimit:=by have:=r.dp;omega
theorem Room.units(r:Room k A):A.units+64<cLine:=by have:=r.un;omega
def sf:TA:=λ_ H Q=>Q [] H
def JT(ta:TE)(tr:TA):TA:=λσ H Q=>ta σ H λx H1=>tr σ H1 λxs H2=>Q (x::xs) H2
section
variable{X:Cx}{e:Expr}{es:List Expr}{te:TE}{t:TA}{pos:Pos}
def QX:PA X [] sf:=λ_ _ _ _ H Q I h=>Calls.spliced_nil ⟨[],H,I,.nil,h⟩
def Yt(ha:PE X e te)(hr:PA X es t)(hs:starEach (e::es) X.env=(false,eval e X.env)::starEach es X.env:=by rfl):PA X (e::es) (JT te t):=by
 intro pos pins s σ H Q I h;rw[hs];refine Calls.spliced_cons<|thn (ha pins s σ H _ I h) λu s1 ⟨x,H1,I1,r1,q1⟩=>?_;exact thn (hr pos pins s1 σ H1 _ I1 q1) λus s2 ⟨xs,H2,I2,r2,q2⟩=>⟨x::xs,H2,I2,.cons r1 r2,q2⟩
def rE(t:TA):TE:=λσ H Q=>t σ H λxs H1=>xs.length<=sizeLine/\∀p,H1 p=none->Q (.ref p) (upd H1 p<|.tup xs)
def qK(t:TA):TE:=λσ H Q=>t σ H λxs H1=>xs.length<=sizeLine/\∀p,H1 p=none->Q (.ref p) (upd H1 p<|.lst xs)
def DU(h:PA X es t):PE X (.Tuple es x1 pos) (rE t):=by
 intro pins s σ H Q I hq;refine wpAny_Tuple_spliced<|thn (h pos pins s σ H _ I hq) λus s1 ⟨xs,H1,I1,r,z,q⟩=>⟨by rw[<-r.length];exact z, ?_⟩;have hf:=I1.hok.fresh<|zzN _;refine⟨.ref s1.heap.objs.size,upd H1 s1.heap.objs.size _,I1.laid (t':=s1.toks) (λb u e=>zxI _ e) (zzN _) ?_,rfl,q _ hf⟩;exact⟨z,us,r,⟨_,zxK _ rfl,rfl,_,rfl⟩⟩
def Ah(h:PA X es t):PE X (.List es pos) (qK t):=by
 intro pins s σ H Q I hq;refine wpAny_List_spliced<|thn (h pos pins s σ H _ I hq) λus s1 ⟨xs,H1,I1,r,z,q⟩=>⟨by rw[<-r.length];exact z, ?_⟩;have hf:=I1.hok.fresh<|zzN _;refine⟨.ref s1.heap.objs.size,upd H1 s1.heap.objs.size _,I1.laid (t':=s1.toks) (λb u e=>zxI _ e) (zzN _) ?_,rfl,q _ hf⟩;exact⟨z,us,0,r,zxK _ rfl⟩
end
abbrev Sp:=List V->Hp->VK->XK->Prop
abbrev JU:=List Env->Hp->Shared->XK->Value->Shared->Prop
structure Env0(P:Program)(w:World)(K:zzA)(mg:Str->Option Value)(base:Heap)(A:Around)(outer:List Env)(s:Shared)(H:Hp):Prop where
 frames:A.frames=some outer
 mod:Mod K mg base
 bs:∀b o,base.get? b=some o->s.heap.get? b=some o/\H b=none
 bsz:base.objs.size<=s.heap.objs.size
 funs:s.heap.FunFrames base outer
 frf:∀b ∈ Sq outer,H b=none
 hok:Qz P w H s.heap
 bare:AllBare s.gens
def CE(outer:List Env)(P:Program)(w:World)(H:Hp)(s:Shared)(Q:VK)(u:Value)(s':Shared):Prop:=
 ∃v H',s'.os=s.os/\AllBare s'.gens/\Un (Sq outer) [] H H' s.heap s'.heap/\Qz P w H' s'.heap/\RelV v u/\Q v H'
def CR(CX:JU)(outer:List Env)(P:Program)(w:World)(H:Hp)(s:Shared)(Q:VK)(E:XK)(r:Result)(s':Shared):Prop:=
 match r with
 | .ok (.ret u)=>CE outer P w H s Q u s'
 | .ok _=>False
 | .error e=>CX outer H s E e s'
structure FnOk(P:Program)(w:World)(K:zzA)(mg:Str->Option Value)(base:Heap)(CX:JU)(k:Nat)(f:Addr)(fd:FuncData)(ps:List Str)(sp:Sp):Prop where
 len:∀vs H Q E,sp vs H Q E->vs.length=ps.length
 run:∀(A:Around) (outer:List Env) (s:Shared) (H:Hp) (args:Args) (us:List Value) (vs:List V) (Q:VK) (E:XK),Room k A->Env0 P w K mg base A outer s H->BindsTo s fd args (ps.zip us)->ya vs us->sp vs H Q E->
  codeAny (model P w) A (.call (.ref f) args) (CR CX outer P w H s Q E) s
def FnOk.imp{P w K mg base CX}{k:Nat}{f fd ps sp sp'}(F:FnOk P w K mg base CX k f fd ps sp)
 (h:∀vs H Q E,sp' vs H Q E->sp vs H Q E):FnOk P w K mg base CX k f fd ps sp':=
 ⟨λvs H Q E q=>F.len vs H Q E<|h _ _ _ _ q,λA outer s H args us vs Q E hr he hb hv hs=>F.run A outer s H args us vs Q E hr he hb hv<|h _ _ _ _ hs⟩
section
variable{X:Cx}{pins:List (Addr×Obj)}{σ:St}{H:Hp}{s s':Shared}
def Inv.env0(I:Inv X pins σ H s):Env0 X.prog X.w X.K X.mg X.base X.A X.stack s H:=
 ⟨I.ok.frames,I.ok.mod,I.bs,zzO I.ok.bsz I.sz,I.stack,I.stkFree,I.hok,I.bare⟩
def Inv.after(I:Inv X pins σ H s)(h:CE X.stack X.prog X.w H s Q u s'):EP X pins σ Q u s':=by
 obtain⟨v,H',os,bare,un,hok,r,q⟩:=h;obtain⟨hh,g,d,t,os'⟩:=s';obtain rfl:os'=s.os:=os;exact⟨v,H',I.call (h':=hh) (g':=g) (d':=d) (t':=t) un hok bare (λb z=>absurd z<|by simp),r,q⟩
end
def Ji(sp:Sp)(dvs:List V)(E:XK)(t:TA):TE:=λσ H Q=>t σ H λvs H1=>sp (vs++dvs) H1 Q E
def Binds(K:zzA)(fd:FuncData)(ps:List Str)(ds:List Value):Prop:=
 ∀(s:Shared) (us:List Value),K.In s.heap->(us++ds).length=ps.length->BindsTo s fd ⟨us,[]⟩ (ps.zip<|us++ds)
def Binds.all{K fd ps}(h:∀us:List Value,us.length=ps.length->bindArgs fd ⟨us,[]⟩=pure (ps.zip us)):Binds K fd ps []:=λs us _ hl=>by
 rw[zyE]at hl ⊢;exact .of_eq<|h us hl
def LK(CX:JU)(X:Cx)(E:XK):Prop:=∀(pins:List (Addr×Obj)) (σ:St) (H:Hp) (s:Shared) (e:Value) (s':Shared),Inv X pins σ H s->CX X.stack H s E e s'->X.xe e s'
section
variable{X:Cx}{CX:JU}{k:Nat}{f C:Addr}{fd:FuncData}{ps:List Str}{sp:Sp}{dvs:List V}{ds:List Value}{E:XK}{x m:Str}{p pos apos:Pos}{e o:Expr}{es:List Expr}{ta:TE}{t:TA}
def A5(F:FnOk X.prog X.w X.K X.mg X.base CX k f fd ps sp)(hr:Room k X.A)(hb:Binds X.K fd ps ds)(hd:ya dvs ds)(hx:LK CX X E)
 (I:Inv X pins σ H s) (r:ya vs us) (h:sp (vs++dvs) H Q E):wpAny (model X.prog X.w) X.A (call (.ref f) us) (EP X pins σ Q) X.xe s:=by
 have r2:=r.append hd;have hl:(us++ds).length=ps.length:=by rw[<-r2.length];exact F.len _ _ _ _ h
 refine wpAny_call<|codeAny_mono (F.run X.A X.stack s H ⟨us,[]⟩ _ _ Q E hr I.env0 (hb s us I.kIn hl) r2 h) λr s' hq=>?_;cases r with
 |error e=>exact hx pins σ H s e s' I hq
 |ok fl=>
  cases fl with
  |ret u=>exact I.after hq
  |next=>exact False.elim hq
  |brk=>exact False.elim hq
  |cont=>exact False.elim hq
def Cj(F:FnOk X.prog X.w X.K X.mg X.base CX k f fd ps sp)(hr:Room k X.A)(hg:Gl X x)(hm:X.mg x=some (.ref f))(hk:W.keepIn X.K (.ref f)=true)(hb:Binds X.K fd ps ds)(hd:ya dvs ds)(hx:LK CX X E)
 (ha:PA X (e::es) t) (hdb:(x==("__debug__":Str))=false:=by decide) (he:starEach (e::es) X.env=(false,eval e X.env)::starEach es X.env:=by rfl) (hpl:(backTo pos<|starEach es X.env).any (·.1)=false:=by rfl):
 PE X (.Call (.Name x p) (e::es) [] pos) (Ji sp dvs E t):=by
 intro pins s σ H Q I h;refine wpAny_Call_Name_kw<|IA I hg hm ?_ hdb;refine W.callWith_K I.ok.mod.kin hk (thn (ha pos pins s σ H _ I h) λus s1 ⟨vs,H1,I1,r,q⟩=>⟨I1.kIn, ?_⟩) he hpl;exact A5 F hr hb hd hx I1 r q
structure Mk(K:zzA)(C f:Addr):Prop where
 makes:W.makesIn K C=true
 init:W.findIn K (.ref C) "__init__"=some (some<|.ref f)
 fn:W.isFn K (.ref f)=true
 kp:W.keepIn K (.ref C)=true
end
section
variable{X:Cx}{CX:JU}{k:Nat}{f C:Addr}{fd:FuncData}{ps ks:List Str}{sp:Sp}{E:XK}{x m:Str}{p pos apos kpos:Pos}{e o:Expr}{es:List Expr}{kws:List Keyword}{te ta:TE}{t tk:TA}{nm:Option Str}
structure KBinds(K:zzA)(fd:FuncData)(ps ks:List Str)(g:List Value->List Value->List Value)(gV:List V->List V->List V):Prop where
 to:∀(s:Shared) (us ws:List Value),K.In s.heap->(g us ws).length=ps.length->BindsTo s fd ⟨us,ks.zip ws⟩ (ps.zip<|g us ws)
 rel:∀{vs:List V}{us:List Value}{zs:List V}{ws:List Value},ya vs us->ya zs ws->ya (gV vs zs) (g us ws)
variable{g:List Value->List Value->List Value}{gV:List V->List V->List V}
end
structure FnScope(N P:List Str)(sc:Scope):Prop where
 kind:sc.kind = .function
 co:sc.isCoroutine=false
 gen:sc.isGenerator=false
 nd:N.Nodup
 pre:N.take P.length=P
 par:∀x ∈ P,sc.names.lookup x=some .local\/sc.names.lookup x=some .cell
 nofree:∀y ∈ sc.names,y.2 ≠ .free
theorem Kt{kindOf x}:∀{binds:List (Str×Value)}{m:Str->Option Value},(∀v,(x,v) ∉ binds)->bindL kindOf binds m x=m x
 | [],_,_=>rfl
 |(n,v)::r,m,h=>by
  unfold bindL;rw[Kt λw hw=>h w<|zzD _ hw]
  split
  . have:x≠n:=by rintro rfl;exact h v zzF
    simp[this]
  . rfl
theorem Kh{kindOf x}:∀{binds:List (Str×Value)}{m:Str->Option Value},(∀v,(x,v) ∉ binds)->bindC kindOf binds m x=m x
 | [],_,_=>rfl
 |(n,v)::r,m,h=>by
  unfold bindC;rw[Kh λw hw=>h w<|zzD _ hw]
  split
  . rfl
  . have:x≠n:=by rintro rfl;exact h v zzF
    simp[this]
theorem G4{kindOf x v}:∀{P:List Str}{vs:List Value}{i:Nat}{m:Str->Option Value},P.Nodup->P[i]? = some x->vs[i]? = some v->kindOf x=some .local->
 bindL kindOf (P.zip vs) m x=some v
 | [],_,_,_,_,h,_,_=>by simp at h
 |_::_,[],_,_,_,_,h,_=>by simp at h
 |p::P,w::vs,0,m,nd,h1,h2,hk=>by
  simp at h1 h2;subst h1;subst h2;show bindL kindOf (_::P.zip vs) m p=_;unfold bindL;rw[Kt λv hv=>(zzW.mp nd).1 (List.of_mem_zip hv).1,if_pos hk];simp
 |p::P,w::vs,i+1,m,nd,h1,h2,hk=>by
  unfold bindL;exact G4 (zzW.mp nd).2 (by simpa using h1) (by simpa using h2) hk
theorem Kd{kindOf x v}:∀{P:List Str}{vs:List Value}{i:Nat}{m:Str->Option Value},P.Nodup->P[i]? = some x->vs[i]? = some v->kindOf x≠some .local->
 bindC kindOf (P.zip vs) m x=some v
 | [],_,_,_,_,h,_,_=>by simp at h
 |_::_,[],_,_,_,_,h,_=>by simp at h
 |p::P,w::vs,0,m,nd,h1,h2,hk=>by
  simp at h1 h2;subst h1;subst h2;show bindC kindOf (_::P.zip vs) m p=_;unfold bindC;rw[Kh λv hv=>(zzW.mp nd).1 (List.of_mem_zip hv).1,if_neg hk];simp
 |p::P,w::vs,i+1,m,nd,h1,h2,hk=>by
  unfold bindC;exact Kd (zzW.mp nd).2 (by simpa using h1) (by simpa using h2) hk
def start(N:List Str)(vs:List V):St:=vs.map some++List.replicate (N.length-vs.length) none
def Md(CX:JU)(P:Program)(w:World)(K:zzA)(mg:Str->Option Value)(base:Heap)(N:List Str)(qual:Str)(scope:Scope)(f:Addr)(cd:Value)(A:Around)(outer:List Env)(s:Shared)(H:Hp)(E:XK):Cx where
 prog:=P
 w:=w
 K:=K
 mg:=mg
 base:=base
 A:=A.deeper (envOfC qual scope s.heap.objs.size f cd)
 N:=N
 s₀:=s
 H₀:=H
 env:=envOfC qual scope s.heap.objs.size f cd
 outer:=outer
 stack:=envOfC qual scope s.heap.objs.size f cd::outer
 ex:=[]
 calm:=true
 fn:=λ_=>true
 pn:=[]
 xe:=λe s'=>wpAny (model P w) (A.deeper<|envOfC qual scope s.heap.objs.size f cd) (leaving (envOfC qual scope s.heap.objs.size f cd) e) (λ_ s''=>CX outer H s E e s'') (λe' s''=>CX outer H s E e' s'') s'
def Mm{sc:Scope}{n:Nat}{x}(h:sc.names.lookup x=some .cell):∃c,(cellsFrom n sc.names []).lookup x=some c:=by
 have q:=W.cellsFrom_some sc.names n []<|.inl h;exact Option.isSome_iff_exists.mp q
def Bo{CX P w K mg base N ps qual scope f cd A outer s s1 H E us vs}
 (S:FnScope N ps scope) (hd:A.handled=none) (e0:Env0 P w K mg base A outer s H) (hl:vs.length=ps.length) (r:ya vs us)
 (x:InCallC s s.heap.objs.size (bindL (envOfC qual scope s.heap.objs.size f cd).kindOf (ps.zip us) λ_=>none) (cellsFrom (s.heap.objs.size+1) scope.names []) (bindC (envOfC qual scope s.heap.objs.size f cd).kindOf (ps.zip us) λ_=>none) s1):
 Inv (Md CX P w K mg base N qual scope f cd A outer s H E) [] (start N vs) H s1:=by
 have hpl:ps.length<=N.length:=by have:=congrArg List.length S.pre;rw[zzS]at this;omega
 obtain⟨h1,tk,rfl,hk⟩:=x.done;have noA:∀b:Addr,b ∉ (Md CX P w K mg base N qual scope f cd A outer s H E).ex:=λb z=>absurd (show b ∈ ([]:List Addr)from z) (by simp);refine⟨⟨e0.mod,S.kind,rfl,rfl,zzN _,λy z c h1 h2=>?_,λy hy=>?_,λy c _ h=>?_,λ_=>hd,Around.frames_deeper e0.frames,.inr ⟨rfl,rfl⟩,λb z=>absurd z<|noA b,e0.bs,e0.bsz,λb _ _=>noA b,λb z=>absurd z<|noA b,e0.funs,e0.frf⟩,
  rfl,e0.bare,Un.kept hk,⟨_,x.toInCall.ns,λi y v h1 h2 h3=>?_⟩,λy c h=>⟨_,x.cell y c h⟩,e0.hok.fresh<|zzN _,λy c h=>?_,λp hp=>absurd (show p ∈ ([]:List _)from hp) (by simp),e0.hok.kept hk, ?_⟩
 . exact name_of_addr x.apart (PySem.mem_of_lookup h1)<|PySem.mem_of_lookup h2
 . have hy:=hy
   rcases hy with hy|hy
   . exact Mm hy
   . exact absurd rfl<|S.nofree _<|PySem.mem_of_lookup hy
 . exact Nat.le_of_lt<|x.above y c<|PySem.mem_of_lookup h
 . have hi:i<vs.length:=by
    unfold start at h2
    by_cases hi:i<vs.length
    . exact hi
    . rw[zyR<|by simpa using hi]at h2;rw[List.getElem?_replicate]at h2
      split at h2<;>cases h2
   have ha:vs[i]? = some v:=by
    unfold start at h2;rw[zyP (by simpa using hi),zzI]at h2;cases e:vs[i]? with
    |none=>rw[e]at h2;cases h2
    |some a=>rw[e]at h2;cases h2;rfl
   obtain⟨u,hu,rv⟩:=r.get ha;have hp:ps[i]? = some y:=by
    rw[<-S.pre,List.getElem?_take_of_lt<|by omega];exact h1
   have ndP:ps.Nodup:=by rw[<-S.pre];exact S.nd.sublist<|List.take_sublist _ _
   refine⟨u,rv, ?_⟩
   rcases S.par y (zyA hp)with k|k
   . exact .inl ⟨k,G4 ndP hp hu k⟩
   . obtain⟨c,e⟩:=Mm k;refine .inr ⟨.inl k,c,e, ?_⟩;have q:=x.cell y c e;rw[Kd ndP hp hu (by show scope.names.lookup y≠_;rw[k];decide)]at q;exact q
 . exact e0.hok.fresh<|Nat.le_of_lt<|x.above y c<|PySem.mem_of_lookup h
 . unfold start;show _=N.length;rw[zzJ,zzB,List.length_replicate];omega
def uI{CX P w K mg base}{k:Nat}{f name qual params body scope dV kV doc pm cdv ct oc an od}
 {osl N ps sp}(lk:K.lookup f=some ⟨oc,od,.func<|W.fnOf name qual params body scope dV kV doc pm an cdv ct,osl⟩) (hcd:W.codeIn K cdv qual=true) (S:FnScope N ps scope)
 (len:∀vs H Q E,sp vs H Q E->vs.length=ps.length)
 (hbody:∀(A:Around) (outer:List Env) (s:Shared) (H:Hp) (vs:List V) (Q:VK) (E:XK),Room k (A.deeper<|envOfC qual scope s.heap.objs.size f cdv)->sp vs H Q E->
  ∃t,MH (Md CX P w K mg base N qual scope f cdv A outer s H E) body t/\t {nx:=λ_ H'=>Q .non H',rt:=Q} (start N vs) H):
 FnOk P w K mg base CX (k+1) f (W.fnOf name qual params body scope dV kV doc pm an cdv ct) ps sp:=by
 refine⟨len,λA outer s H args us vs Q E hr e0 hb r hsp=>?_⟩;have hl:=len _ _ _ _ hsp;have KX:=e0.mod.kin.keeps λb o e=>(e0.bs b o e).1;have lim:=e0.mod.nolimit.keeps λb o e=>(e0.bs b o e).1;have hkind:∀y ∈ ps.zip us,scope.names.lookup y.1=some .local\/(scope.names.lookup y.1=some .cell/\((cellsFrom (s.heap.objs.size+1) scope.names []).lookup y.1).isSome=true):=λ⟨n,v⟩ hy=>by
  rcases S.par n (List.of_mem_zip hy).1 with q|q
  . exact .inl q
  . exact .inr ⟨q,W.cellsFrom_some _ _ _<|.inl q⟩
 refine codeAny_call_function hr.depth (KX _ _ lk) rfl S.co S.gen rfl (W.codeRec_of KX hcd)<|hb _ _ _ _ ?_;refine wpAny_newFunctionEnv_cells S.kind hkind λenv he s1 x=>?_;subst he;refine⟨lim.keeps x.toInCall.keep,codeAny_func ?_⟩;obtain⟨t,ht,hq⟩:=hbody A outer s H vs Q E (hr.deeper _) hsp;have I:Inv (Md CX P w K mg base N qual scope f cdv A outer s H E) [] _ H s1:=Bo S hr.hd e0 hl r x;refine zxP (ht [] s1 _ H _ I hq) (λfl s' hs=>?_) λe s' hs=>hs;have fin:∀{σ':St}{H':Hp}{v:V}{u:Value},Inv (Md CX P w K mg base N qual scope f cdv A outer s H E) [] σ' H' s'->RelV v u->Q v H'->CE outer P w H s Q u s':=
  λ{σ' H' v u} J rv q=>⟨v,H',J.os,J.bare,J.base,J.hok,rv,q⟩
 cases fl with
 |ret u=>
  obtain⟨v,σ',H',J,rv,q⟩:=hs;exact fin J rv q
 |next=>
  obtain⟨σ',H',J,q⟩:=hs;exact fin (v:=V.non) J rfl q
 |brk=>
  obtain⟨_,_,_,q⟩:=hs;exact False.elim q
 |cont=>
  obtain⟨_,_,_,q⟩:=hs;exact False.elim q
end L2
namespace L2
open PySem PySem.Spec PyProof.Rows
section
variable{X:Cx}{x:Str}{p pos:Pos}{e:Expr}{es:List Expr}{t:TA}{id T:String}{r:List V->Hp->VK->Prop}
def pd(r:List V->Hp->VK->Prop)(t:TA):TE:=λσ H Q=>t σ H λvs H1=>r vs H1 Q
def T8(hc:Xv X (.builtin id) r)(hg:Gl X x)(hm:X.mg x=none)(hv:bootBuiltins x=some (.builtin id))(ha:PA X (e::es) t)(hn:x≠"__name__":=by decide)(hdb:(x==("__debug__":Str))=false:=by decide)
 (he:starEach (e::es) X.env=(false,eval e X.env)::starEach es X.env:=by rfl) (hpl:(backTo pos<|starEach es X.env).any (·.1)=false:=by rfl):PE X (.Call (.Name x p) (e::es) [] pos) (pd r t):=by
 intro pins s σ H Q I h;refine wpAny_Call_Name_kw<|Ze I hg hm hv ?_ hn hdb;exact PyProof.Rows.callWith_builtin1 (thn (ha pos pins s σ H _ I h) λus s1 ⟨vs,H1,I1,r1,q1⟩=>hc pins s1 σ H1 vs us Q I1 r1 q1) he hpl
def BV(hc:Xv X (.type T) r)(hg:Gl X x)(hm:X.mg x=none)(hv:bootBuiltins x=some (.type T))(ha:PA X (e::es) t)(hn:x≠"__name__":=by decide)(hdb:(x==("__debug__":Str))=false:=by decide)
 (he:starEach (e::es) X.env=(false,eval e X.env)::starEach es X.env:=by rfl) (hpl:(backTo pos<|starEach es X.env).any (·.1)=false:=by rfl):PE X (.Call (.Name x p) (e::es) [] pos) (pd r t):=by
 intro pins s σ H Q I h;refine wpAny_Call_Name_kw<|Ze I hg hm hv ?_ hn hdb;exact PyProof.Rows.callWith_type1 (thn (ha pos pins s σ H _ I h) λus s1 ⟨vs,H1,I1,r1,q1⟩=>hc pins s1 σ H1 vs us Q I1 r1 q1) he hpl
end
end L2
namespace L2
open PySem PySem.Spec PyProof.Rows
section
variable{κ:Type}[DecidableEq κ]
def wG(kvs:List (κ×V))(k:κ):Option V:=(kvs.find? λkv=>decide (kv.1=k)).map (·.2)
def putK(kvs:List (κ×V))(k:κ)(v:V):List (κ×V):=
 if(kvs.any λkv=>decide (kv.1=k))=true then kvs.map (λkv=>if kv.1=k then(kv.1,v)else kv)else kvs++[(k,v)]
def Pb{p r}{k:κ}(e:p.1=k):wG (p::r) k=some p.2:=by simp[wG,List.find?_cons,e]
def Pu{p r}{k:κ}(e:¬p.1=k):wG (p::r) k=wG r k:=by simp[wG,List.find?_cons,e]
theorem RW(k:κ):∀kvs:List (κ×V),(kvs.any λkv=>decide (kv.1=k))=(wG kvs k).isSome
 | []=>rfl
 |p::r=>by
  rw[List.any_cons]
  by_cases e:p.1=k
  . simp only[Pb e,zyO e,Bool.true_or,Option.isSome_some]
  . rw[Pu e,zyG e,Bool.false_or];exact RW k r
def T7.isSome_eq(r:T7 o u):o.isSome=u.isSome:=by
 cases o with
 |none=>cases u with
  |none=>rfl
  |some _=>exact(r).elim
 |some _=>cases u with
  |none=>exact(r).elim
  |some _=>rfl
def KV.val{kvs vs}(r:KV kvs vs)(k:κ):T7 (wG kvs k) (valueAt vs k):=by
 unfold KV at r
 induction r with
 |nil=>exact True.intro
 | @cons p q ps qs h t ih=>
  obtain⟨h1,h2⟩:=h
  by_cases e:p.1=k
  . have e':q.1=k:=h1.symm.trans e;have b:valueAt (q::qs) k=some q.2:=by simp[valueAt,List.find?_cons,e']
    rw[Pb e,b];exact h2
  . have e':¬q.1=k:=λz=>e<|h1.trans z;have b:valueAt (q::qs) k=valueAt qs k:=by simp[valueAt,List.find?_cons,e']
    rw[Pu e,b];exact ih
theorem KV.length(r:KV kvs vs):kvs.length=vs.length:=Paired.length r
end
def Us(r:RelV (kV k) u):(xf P w).is k u=true:=by
 cases k with
 |inl i=>obtain⟨t,e⟩:=(r);subst e;exact Mb P w i t
 |inr x=>obtain⟨t,e⟩:=(r);subst e;exact XJ P w x t
def uy(e:kO v=some k)(r:RelV v u):(xf P w).is k u=true:=by
 cases v with
 |int i=>cases e;exact Us (k:=.inl i) r
 |str x=>cases e;exact Us (k:=.inr x) r
 |bl b=>cases e;rw[show u=Value.bool b from r];exact SD b
 |_=>cases e
theorem G8:∀{ks:List Key}{vs:List V}{us:List Value},vs.map kO=ks.map some->ya vs us->ItemsAre (xf P w) ks us
 | [],[],_,_,r=>by cases r;exact .nil
 | [],_::_,_,e,_=>by simp at e
 |_::_,[],_,e,_=>by simp at e
 |k::ks,v::vs,_,e,r=>by
  rw[zyS,zyS]at e;injection e with e1 e2
  cases r with
  |cons h t=>exact .cons (uy e1 h) (G8 e2 t)
abbrev KT(H:Hp):List (List Key×V)->List (List Key×Addr×Value)->Prop:=Paired λp q=>p.1=q.1/\KC H q.2.1 p.1/\RelV p.2 q.2.2
def KT.val{H:Hp}{kvs:List (List Key×V)}{xs:List (List Key×Addr×Value)}(r:KT H kvs xs)(k:List Key):T7 (wG kvs k) ((atKey xs k).map (·.2)):=by
 induction r with
 |nil=>exact True.intro
 | @cons p q ps qs h t ih=>
  obtain⟨h1,_,h2⟩:=h
  by_cases e:p.1=k
  . have e':q.1=k:=h1.symm.trans e;have b:atKey (q::qs) k=some q.2:=by simp[atKey,List.find?_cons,e']
    rw[Pb e,b];exact h2
  . have e':¬q.1=k:=λz=>e<|h1.trans z;have b:atKey (q::qs) k=atKey qs k:=by simp[atKey,List.find?_cons,e']
    rw[Pu e,b];exact ih
def KT.repl(r:KT H kvs xs)(k)(ry:RelV y u):
 KT H (kvs.map λkv=>if kv.1=k then(kv.1,y)else kv) (xs.map<|putAt k u):=by
 induction r with
 |nil=>exact .nil
 | @cons p q ps qs h t ih=>
  rw[zyS,zyS];refine .cons ?_ ih;obtain⟨h1,h2,h3⟩:=h;unfold putAt
  by_cases e:p.1=k
  . rw[if_pos e,if_pos<|h1.symm.trans e];exact⟨h1,h2,ry⟩
  . rw[if_neg e,if_neg λz=>e<|h1.trans z];exact⟨h1,h2,h3⟩
def KT.put(r:KT H kvs xs)(k:List Key)(hb:KC H b k)(ry:RelV y u):
 KT H (putK kvs k y) (storedH xs k b u):=by
 have e:(kvs.any λkv=>decide (kv.1=k))=(atKey xs k).isSome:=by
  rw[RW,(r.val k).isSome_eq,Option.isSome_map]
 unfold putK storedH;rw[e]
 by_cases q:(atKey xs k).isSome=true
 . rw[if_pos q,if_pos q];exact r.repl k ry
 . rw[if_neg q,if_neg q];exact Paired.snoc r ⟨rfl,hb,ry⟩
def KT.keeps(r:KT H kvs xs)(ht:∀b ys,H b=some (.tup ys)->H' b=some (.tup ys)):KT H' kvs xs:=
 Paired.mapP r λ_ _ z=>⟨z.1,z.2.1.mono λys=>ht _ ys,z.2.2⟩
section
variable{P:Program}{w:World}{H:Hp}{h:Heap}{a:Addr}
def JV(ok:Qz P w H h)(e:Rd H a u):xW P w H h a u:=e.ok ok
def Fc(ok:Qz P w H h)(e:Rd H a (.dK kvs)):kvs.length<=sizeLine/\(a==sysModules)=false/\∃vs,KV kvs vs/\h.DictOf (xf P w) a vs:=
 show xW P w H h a _ from JV ok e
def Tj(ok:Qz P w H h)(e:KC H a ks):(tupleKind<|xf P w).is h ks a:=by
 obtain⟨vs,e,ek⟩:=e;obtain⟨_,its,r,o,h1,h2,n,h3⟩:=(show xW P w H h a (.tup vs)from ok a _ e);exact⟨o,its.toArray,n,h1,h2,h3,by simpa using G8 ek r⟩
def NZ(ok:Qz P w H h)(e:Rd H a (.dT kvs)):kvs.length<=sizeLine/\(a==sysModules)=false/\
 ∃xs,KT H kvs xs/\h.DictOfH (tupleKind<|xf P w) a xs:=by
 obtain⟨z,y,xs,r,o,es,ep,h1,h2,h3,h4,h5⟩:=(JV ok e);refine⟨z,y,xs,r,o,es,ep,h1,h2,h3,h4,λx hx=>?_,h5⟩;have all:∀{l:List _}{m:List _},KT H l m->∀x ∈ m,(tupleKind<|xf P w).is h x.1 x.2.1:=by
  intro l m q
  induction q with
  |nil=>intro x hx;exact nomatch hx
  | @cons p q ps qs hq t ih=>
   intro x hx
   rcases zzC.mp hx with e|hx
   . subst e;exact Tj ok (by rw[<-hq.1];exact hq.2.1)
   . exact ih x hx
 exact all r x hx
def Jp(ok:Qz P w H h)(e:H a=some (.dT kvs)):kvs.length<=sizeLine/\(a==sysModules)=false/\
 ∃xs,KT H kvs xs/\h.DictOfH (tupleKind<|xf P w) a xs:=NZ ok<|.inl e
end
def NV(H:Hp)(a:Addr)(y:V)(r:Option V):Prop:=
 (∃kvs k,Rd H a (.dK kvs)/\y=kV k/\r=wG kvs k)\/∃kvs k b,Rd H a (.dT kvs)/\y = .ref b/\KC H b k/\r=wG kvs k
def NV.t{H:Hp}{a b:Addr}{kvs:List (List Key×V)}{k:List Key}(e:H a=some (.dT kvs))(eb:KC H b k):NV H a (.ref b) (wG kvs k):=.inr ⟨kvs,k,b,.inl e,rfl,eb,rfl⟩
section
variable{X:Cx}{pins:List (Addr×Obj)}{σ:St}{H:Hp}{s:Shared}{a:Addr}{y v:V}{u r:Value}{o:Option V}{A:Around}{E:Value->Shared->Prop}
def Inv.big(I:Inv X pins σ H s):sysModules<s.heap.objs.size:=by
 have h:=(I.mod.glob.keeps I.bk).lt;exact Nat.lt_trans (by decide) h
def B9(hu:A.units+1<cLine)(I:Inv X pins σ H s)(g:NV H a y (some v))(ry:RelV y u)(h:∀w' s',Inv X pins σ H s'->RelV v w'->Q w' s'):
 wpAny (model X.prog X.w) A (getItem (.ref a) u) Q E s:=by
 rcases g with⟨kvs,k,e,ey,l⟩|⟨kvs,k,b,e,ey,eb,l⟩
 . subst ey;obtain⟨z,hd,vs,rel,dd⟩:=Fc I.hok e;obtain⟨w',hw,rw'⟩:=T7.some_of (by rw[l];exact rel.val k);exact wpAny_getItem_of (Us ry) dd.mapOf hw<|h w' _ (I.tok _) rw'
 . subst ey;cases(ry);obtain⟨z,hd,xs,rel,dd⟩:=NZ I.hok e;obtain⟨w',hw,rw'⟩:=T7.some_of (by rw[l];exact rel.val k);obtain⟨p,hp,hp2⟩:=zzX.mp hw;refine wpAny_getItem_heap (tupleKind_room_in1 hu) (Tj I.hok eb) dd hp ?_;rw[hp2];exact h w' _ (I.tok _) rw'
def qz(hu:A.units+1<cLine)(I:Inv X pins σ H s)(g:NV H a y o)(ry:RelV y u)(h:∀s',Inv X pins σ H s'->Q (.bool o.isSome) s'):
 wpAny (model X.prog X.w) A (compareOp .In u<|.ref a) Q E s:=by
 rcases g with⟨kvs,k,e,ey,l⟩|⟨kvs,k,b,e,ey,eb,l⟩
 . subst ey;obtain⟨z,hd,vs,rel,dd⟩:=Fc I.hok e;refine wpAny_in_of (Us ry) hd dd.mapOf ?_;rw[<-(rel.val k).isSome_eq,<-l];exact h _<|I.tok _
 . subst ey;cases(ry);obtain⟨z,hd,xs,rel,dd⟩:=NZ I.hok e;refine wpAny_in_heap (tupleKind_room_in1 hu) (Tj I.hok eb) hd dd ?_;have q:=(rel.val k).isSome_eq;rw[Option.isSome_map]at q;rw[<-q,<-l];exact h _<|I.tok _
def Cn(hu:A.units+1<cLine)(I:Inv X pins σ H s)(g:NV H a y o)(ry:RelV y u)(h:∀s',Inv X pins σ H s'->Q (.bool<|!o.isSome) s'):
 wpAny (model X.prog X.w) A (compareOp .NotIn u<|.ref a) Q E s:=by
 rcases g with⟨kvs,k,e,ey,l⟩|⟨kvs,k,b,e,ey,eb,l⟩
 . subst ey;obtain⟨z,hd,vs,rel,dd⟩:=Fc I.hok e;refine wpAny_notIn_of (Us ry) hd dd.mapOf ?_;rw[<-(rel.val k).isSome_eq,<-l];exact h _<|I.tok _
 . subst ey;cases(ry);obtain⟨z,hd,xs,rel,dd⟩:=NZ I.hok e;refine wpAny_notIn_heap (tupleKind_room_in1 hu) (Tj I.hok eb) hd dd ?_;have q:=(rel.val k).isSome_eq;rw[Option.isSome_map]at q;rw[<-q,<-l];exact h _<|I.tok _
def Cu(I:Inv X pins σ H s)(mu:uS (H a))(hs:Heap.SameBut a s.heap h')(he:∃q,h'.get? a=some q)(new:xW X.prog X.w (upd H a ob) h' a ob):
 Inv X pins σ (upd H a ob) {s with heap:=h',toks:=t'}:=
 I.write mu (.inl rfl) (λb q hb z=>(hs.2 b hb).trans z) he new
end
def Hh(h:Heap)(hb:sysModules<h.objs.size):xW P w H (h.push {cls:=.type "dict",data:=.dict #[]}) h.objs.size (.dT []):=
 ⟨Nat.zero_le _,beq_eq_false_iff_ne.mpr<|Ne.symm<|zzQ hb,[],.nil,_,#[],0,zxK _ rfl,⟨rfl,rfl,rfl⟩,rfl,rfl,zyJ⟩
def Ag:TE:=λ_ H Q=>∀p,H p=none->Q (.ref p) (upd H p<|.dT [])
section
variable{X:Cx}{pos:Pos}
def Ht:PE X (.Dict [] [] pos) Ag:=λpins s σ H Q I h=>
 wpAny_Dict_empty ⟨.ref s.heap.objs.size,_,I.laid (t':=s.toks) (λ_ _ q=>zxI _ q) (zzN _)<|Hh s.heap I.big,rfl,h _<|I.hok.fresh<|zzN _⟩
end
structure M1(X:Cx)(o:Expr)(m:Str)(apos:Pos)(e:Expr)(cpos:Pos):Prop where
 base:attributeBase o m X.env (eval o X.env)=eval o X.env
 few:((backTo cpos<|starEach [e] X.env).all (λx=>!x.1)&&(backToKw cpos<|keywordEach [] X.env).all (λx=>x.1.isSome)
  && decide (([e]:List Expr).length+([]:List Keyword).length+(if([]:List Keyword).isEmpty then 0 else 1)<30))=true
 line:(apos.endLine==cpos.line)=true
 trees:backTo cpos (starEach [e] X.env)=[(false,eval e X.env)]
structure M2(X:Cx)(o:Expr)(m:Str)(apos:Pos)(e f:Expr)(cpos:Pos):Prop where
 base:attributeBase o m X.env (eval o X.env)=eval o X.env
 few:((backTo cpos<|starEach [e,f] X.env).all (λx=>!x.1)&&(backToKw cpos<|keywordEach [] X.env).all (λx=>x.1.isSome)
  && decide (([e,f]:List Expr).length+([]:List Keyword).length+(if([]:List Keyword).isEmpty then 0 else 1)<30))=true
 line:(apos.endLine==cpos.line)=true
 trees:backTo cpos (starEach [e,f] X.env)=[(false,eval e X.env),(false,eval f X.env)]
end L2
namespace HT
open PySem PyProof.Rows
section
variable{prog:Program}{w:World}{A:Around}{E:Value->Shared->Prop}{s:Shared}
def C_(ht:IsTup s.heap t vs.toArray)(hb:IsTup s.heap b ws.toArray)(hv:vs≠[])
 (h1:ws=[]->Q (.ref t) s) (h2:ws≠[]->Q (.ref s.heap.objs.size) {s with heap:=s.heap.push {cls:=.type "tuple",data:=.seq (vs++ws).toArray}})
 (hsz:vs.length+ws.length<=sizeLine):wpAny (model prog w) A (binaryOp .Add (.ref t)<|.ref b) Q E s:=by
 obtain⟨⟨cls,dd,data,sl⟩,ho,hc,n,hd⟩:=id ht;obtain⟨⟨cls2,dd2,data2,sl2⟩,ho2,hc2,n2,hd2⟩:=id hb;simp only at hc hd hc2 hd2;subst hc hd hc2 hd2;have e:vs.toArray++ws.toArray=(vs++ws).toArray:=by simp
 by_cases hw:ws=[]
 . exact concat_meets ⟨_,ho,rfl⟩ ⟨_,ho2,rfl⟩ noFill_tuple_add seq_tuple_add PySem.F.slot_tuple_add PySem.F.entry_tuple_add (PySem.F.args_tuple_add_2 _ _)
    (tuple_addW1 t b vs.toArray ws.toArray n n2 dd dd2 sl sl2 (by simpa using hv)<|by simp[hw]) ⟨ho,ho2,h1 hw⟩
 . refine concat_meets ⟨_,ho,rfl⟩ ⟨_,ho2,rfl⟩ noFill_tuple_add seq_tuple_add PySem.F.slot_tuple_add PySem.F.entry_tuple_add (PySem.F.args_tuple_add_2 _ _)
    (tuple_addW2 t b vs.toArray ws.toArray n n2 dd dd2 sl sl2 (by simpa using hv) (by simpa using hw)<|by rw[zzH,zzH];exact hsz) ⟨ho,ho2, ?_⟩
   rw[e];exact h2 hw
def sIx(n d:Nat):Option Int->Nat
 |none=>d
 |some v=>if v<0 then(v+(n:Int)).toNat else min v.toNat n
def Ny(n d:Nat):sIx n d none=d:=rfl
def RL(n d k:Nat):sIx n d (some (k:Int))=min k n:=by
 show(if(k:Int)<0 then((k:Int)+(n:Int)).toNat else min (k:Int).toNat n)=_;rw[if_neg (by omega),zyI]
def D3(n d:Nat)(hd:d<=n)(o):sIx n d o<=n:=by
 cases o with
 |none=>exact hd
 |some v=>
  show(if v<0 then(v+_).toNat else min v.toNat n)<=n
  by_cases hv:v<0
  . rw[if_pos hv];omega
  . rw[if_neg hv];exact Nat.min_le_right _ _
def Fv(v)(n d:Nat):(if v<0 then max (v+(n:Int)) 0 else min v (n:Int))=((sIx n d (some v):Nat):Int):=by
 show _=(((if v<0 then(v+_).toNat else min v.toNat n):Nat):Int)
 by_cases hv:v<0
 . simp only[if_pos hv];omega
 . simp only[if_neg hv];omega
def EV(lo hi)(n:Nat):Builtin.Slice.sliceAdjust lo hi 1 (n:Int)=(((sIx n 0 lo:Nat):Int),((sIx n n hi:Nat):Int)):=by
 have h1:¬((1:Int)<0):=by omega
 unfold Builtin.Slice.sliceAdjust;simp only[h1,if_false];refine Prod.ext ?_ ?_
 . cases lo with
   |none=>rfl
   |some v=>exact Fv v n 0
 . cases hi with
   |none=>rfl
   |some v=>exact Fv v n n
def Ef(i j:Nat):Builtin.Slice.slicePlaces (i:Int) (j:Int) 1=j-i:=by
 unfold Builtin.Slice.slicePlaces;have h1:(1:Int) > 0:=by omega
 simp only[h1,if_true,Int.ediv_one]
 split<;>omega
def Tp(p:IsPart v o)(h:Q o s):wpAny (model prog w) A (Builtin.Slice.slicePartIndex v) Q E s:=by
 cases p with
 |none=>exact slicePart_none h
 |int i t=>exact slicePart_int h
def Q5{sl vl vu lo hi}{n:Nat}{Q}(hs:s.heap.IsSliceOf sl vl vu .none)(pl:IsPart vl lo)(pu:IsPart vu hi)
 (h:Q (((sIx n 0 lo:Nat):Int),1,sIx n n hi-sIx n 0 lo) s):wpAny (model prog w) A (Builtin.Slice.sliceApplied (.ref sl)<|pure (n:Int)) Q E s:=by
 obtain⟨os,hos,hcs,hds⟩:=id hs;unfold Builtin.Slice.sliceApplied Builtin.Slice.sliceFields;refine zxG<|zxG<|wpAny_field hos hds rfl<|zxG<|wpAny_field hos hds rfl<|zxG<|wpAny_field hos hds rfl<|zxH ?_;refine zxG<|slicePart_none ?_;rw[if_neg<|by decide];refine zxG<|Tp pl<|zxG<|Tp pu<|zxG<|zxH ?_;show wpAny _ _ (match Builtin.Slice.sliceAdjust lo hi 1 _ with|(lo,hi)=>pure (lo,_,Builtin.Slice.slicePlaces lo hi 1)) _ _ s;rw[EV lo hi n];show wpAny _ _ (pure _) _ _ s;rw[Ef];exact zxH h
def HI(xs:Array Value)(i k:Nat):((List.range k).filterMap λ(m:Nat)=>xs[((i:Int)+(m:Int)*1).toNat]?).toArray=((xs.toList.drop i).take k).toArray:=by
 have e:(λ(m:Nat)=>xs[((i:Int)+(m:Int)*1).toNat]?)=λm=>xs[i+m]? := by
  funext m;have:(i+(m:Int)*1).toNat=i+m:=by omega
  rw[this]
 rw[e];have:=pick_run xs i k;rw[List.filterMap_map]at this;have e2:((λx=>xs[x]?)∘λx=>i+x)=λm=>xs[i+m]? := rfl;rw[e2]at this;rw[this]
def V4{t sl items vl vu lo hi Q}(ht:IsTup s.heap t items)(hs:s.heap.IsSliceOf sl vl vu .none)(pl:IsPart vl lo)(pu:IsPart vu hi)
 (hw:¬(sIx items.size 0 lo=0/\sIx items.size items.size hi=items.size))
 (h:Q (.ref s.heap.objs.size) {s with heap:=s.heap.push {cls:=.type "tuple",data:=.seq ((items.toList.drop<|sIx items.size 0 lo).take<|sIx items.size items.size hi-sIx items.size 0 lo).toArray}})
 (hsz:items.size<=sizeLine):wpAny (model prog w) A (getItem (.ref t)<|.ref sl) Q E s:=by
 have htake:sizeOk (.seq ((items.toList.drop<|sIx items.size 0 lo).take<|sIx items.size items.size hi-sIx items.size 0 lo).toArray):=by
  show((items.toList.drop _).take _).toArray.size<=sizeLine;rw[zzH,zzS,List.length_drop,zyT];omega
 have hj:sIx items.size items.size hi<=items.size:=D3 _ _ (zzN _) hi;obtain⟨os,hos,hcs,hds⟩:=id hs;have hTs:s.TypeIs (.ref sl) "slice":=⟨os,hos,hcs⟩;unfold getItem
 try with_reducible refine zxM ?_
 first|refine zxG (zxH ?_)|skip
 refine zxG<|wpAny_sequenceKey ht.typeIs (by decide) ?_;refine zxG<|wpAny_callSpecial?_slot ht.typeIs PyProof.Rows.slot_tuple_getitem
  (zxQ PyProof.Rows.slot_tuple_getitem ht.typeIs entry_tuple_getitem ?_<|args_tuple_getitem _ _)
 show wpAny _ _ (Builtin.Tuple.tupleItemsOf (.ref t) >>= _) _ _ s;refine zxG<|tupleItemsOf_ ht ?_;refine zxG<|wpAny_typeOf hTs ?_;rw[if_pos<|by decide];refine zxG<|Q5 hs pl pu ?_;have hno:¬((((sIx items.size 0 lo:Nat):Int)==0&&(1:Int)==1&&(sIx items.size items.size hi-sIx items.size 0 lo)==items.size)=true):=by
  intro q;rw[zyC,zyC]at q;have q1:=eq_of_beq q.1.1;have q2:=eq_of_beq q.2;exact hw ⟨by omega,by omega⟩
 show wpAny _ _ (if _=true then _ else _) _ _ s;rw[if_neg hno,HI]
 first
  |exact zxG (zxL (zxH ⟨_,rfl,zxH h⟩) htake)
  |exact zxG _
  |exact zxG _
  |exact zxG _
end
end HT
namespace L2
open PySem PySem.Spec PyProof.Rows
abbrev TO:=St->Hp->(Option Int->Hp->Prop)->Prop
def PO(X:Cx)(e:Option Expr)(t:TO):Prop:=
 ∀(pins:List (Addr×Obj)) (s:Shared) (σ:St) (H:Hp) (Q:Option Int->Hp->Prop),Inv X pins σ H s->t σ H Q->
  wpAny (model X.prog X.w) X.A (evalPart e X.env) (λu s'=>∃o H',Inv X pins σ H' s'/\IsPart u o/\Q o H') X.xe s
def E5:TO:=λ_ H Q=>Q none H
def tG(t:TE):TO:=λσ H Q=>t σ H λx H1=>∃i,x = .int i/\Q (some i) H1
def intsAre_of:∀{us:List Value},ya (ns.map V.int) us->IntsAre us ns:=by
 induction ns with
 |nil=>intro us r;rw[List.map_nil]at r;cases r;exact .nil
 |cons n ns ih=>
  intro us r;rw[zyS]at r;cases r with
  |cons r1 r2=>
   obtain⟨t,e⟩:=r1;subst e;exact .cons n t<|ih r2
section
variable{X:Cx}{e:Expr}{te:TE}{lo hi:Option Expr}{tl th:TO}{pos p2:Pos}
def IL:PO X none E5:=by
 intro pins s σ H Q I h;rw[evalPart_none];exact zxH ⟨none,H,I,.none,h⟩
def CN(h:PE X e te):PO X (some e) (tG te):=by
 intro pins s σ H Q I hw;rw[evalPart_some];refine thn (h pins s σ H _ I hw) λu s1 ⟨x,H1,I1,r1,q1⟩=>?_;obtain⟨i,rfl,q⟩:=q1;obtain⟨t,rfl⟩:=r1;exact⟨some i,H1,I1,.int i t,q⟩
def ux(X:Cx)(r:V->Option Int->Option Int->Hp->VK->Prop):Prop:=
 ∀(pins:List (Addr×Obj)) (s:Shared) (σ:St) (H:Hp) (x:V) (v vl vu:Value) (lo hi:Option Int) (sl:Addr) (Q:VK),Inv X pins σ H s->RelV x v->s.heap.IsSliceOf sl vl vu .none->IsPart vl lo->IsPart vu hi->r x lo hi H Q->
  ∃T id,typeLookup (.type T) "__getitem__"=pure (some<|.builtin id)/\s.TypeIs v T/\wpAny (model X.prog X.w) X.A (getItem v<|.ref sl) (EP X pins σ Q) X.xe s
def p5(r:V->Option Int->Option Int->Hp->VK->Prop)(te:TE)(tl th:TO):TE:=λσ H Q=>te σ H λx H1=>tl σ H1 λl H2=>th σ H2 λu H3=>r x l u H3 Q
def NA(hr:ux X r)(he:PE X e te)(hl:PO X lo tl)(hu:PO X hi th):PE X (.Subscript e (.Slice lo hi none p2) pos) (p5 r te tl th):=by
 intro pins s σ H Q I h;refine Subscript_<|thn (he pins s σ H _ I h) λv s1 ⟨x,H1,I1,r1,q1⟩=>?_;refine wpAny_Slice<|thn (hl pins s1 σ H1 _ I1 q1) λvl s2 ⟨l,H2,I2,pl,q2⟩=>thn (hu pins s2 σ H2 _ I2 q2) λvu s3 ⟨u,H3,I3,pu,q3⟩=>?_;rw[evalPart_none];refine zxH ?_;have I4:Inv X pins σ H3 {s3 with heap:=s3.heap.push {cls:=.type "slice",data:=.fields #[vl,vu,.none]}}:=I3.kept (t':=s3.toks) λb ob q=>zxI _ q;obtain⟨T,id,hT,ht,hg⟩:=hr pins {s3 with heap:=s3.heap.push {cls:=.type "slice",data:=.fields #[vl,vu,.none]}} σ H3 x v vl vu l u s3.heap.objs.size Q I4 r1 (Heap.IsSliceOf.new ..) pl pu q3;exact tail_any ht hT hg (by with_unfolding_all rfl)
def BE(xs:List V)(lo hi:Option Int):List V:=(xs.drop<|HT.sIx xs.length 0 lo).take<|HT.sIx xs.length xs.length hi-HT.sIx xs.length 0 lo
def U9(xs)(lo hi):(BE xs lo hi).length<=xs.length:=by
 unfold BE;rw[zzS,List.length_drop];omega
def rX(K:zzA):V->Option Int->Option Int->Hp->VK->Prop:=λx lo hi H Q=>∃a xs,x = .ref a/\Qy K H a xs/\
 ¬(HT.sIx xs.length 0 lo=0/\HT.sIx xs.length xs.length hi=xs.length)/\∀p,H p=none->Q (.ref p) (upd H p<|.tup<|BE xs lo hi)
def Ai:ux X (rX X.K):=by
 intro pins s σ H x v vl vu lo hi sl Q I rx hs pl pu h;obtain⟨a,xs,rfl,hx,hw,q⟩:=h;cases rx;obtain⟨its,r,ht,hz⟩:=I.tuple hx;have hlen:its.toArray.size=xs.length:=by rw[zzH];exact r.length.symm
 refine⟨"tuple",_,PyProof.Rows.slot_tuple_getitem.lookup,ht.typeIs, ?_⟩;refine HT.V4 ht hs pl pu (by rw[hlen];exact hw) ?_ (by rw[hlen];exact hz);rw[hlen];refine⟨.ref s.heap.objs.size,_,I.laid (t':=s.toks) (λb ob q=>zxI _ q) (zzN _) ?_,rfl,q _<|I.hok.fresh<|zzN _⟩;exact⟨zzO (U9 xs lo hi) hz,_,(r.drop _).take _,IsTup.new _ _⟩
def uP(K:zzA):R2:=λx y H Q=>∃a b xs ys,x = .ref a/\y = .ref b/\Qy K H a xs/\Qy K H b ys/\xs≠[]/\xs.length+ys.length<=sizeLine/\
 (ys=[]->Q (.ref a) H)/\(ys≠[]->∀p,H p=none->Q (.ref p) (upd H p<|.tup<|xs++ys))
def ya.nil_iff(r:ya xs us):us=[] ↔ xs=[]:=by
 cases r with
 |nil=>simp
 |cons _ _=>simp
def Ig:Qw X (binaryOp .Add) (uP X.K):=by
 intro pins s σ H x y v u Q I rx ry h;obtain⟨a,b,xs,ys,rfl,rfl,ha,hb,hx,hz,q1,q2⟩:=h;cases rx;cases ry;obtain⟨its,r1,p1,_⟩:=I.tuple ha;obtain⟨its2,r2,p2,_⟩:=I.tuple hb;refine HT.C_ p1 p2 (λz=>hx<|r1.nil_iff.mp z) (λz=>⟨.ref a,H,I,rfl,q1<|r2.nil_iff.mp z⟩) (λz=>?_) (by rw[<-r1.length,<-r2.length];exact hz);refine⟨.ref s.heap.objs.size,_,I.laid (t':=s.toks) (λb ob q=>zxI _ q) (zzN _) ?_,rfl,q2 (λw=>z<|r2.nil_iff.mpr w) _<|I.hok.fresh<|zzN _⟩;exact⟨by rw[zzJ];exact hz,_,r1.append r2,IsTup.new _ _⟩
end
end L2
namespace L2
open PySem PySem.Spec PyProof.Rows
def Cf(n:Nat)(i:Int):Option Nat:=if 0<=i then(if i<n then some i.toNat else none)else if -(n:Int)<=i then some (i+n).toNat else none
def Es{α:Type}(xs:List α)(i:Int):Option α:=(Cf xs.length i).bind λj=>xs[j]?
def Bh(h:Cf n i=some j):seqIndex? i n=some j/\j<n /\ -(n:Int)<=i/\i<n:=by
 unfold Cf at h
 by_cases h0:0<=i
 . rw[if_pos h0]at h
   by_cases h1:i<n
   . rw[if_pos h1]at h;have e:=zzZ h;exact⟨by rw[seqIndex_of h0 h1,e],by omega,by omega,h1⟩
   . rw[if_neg h1]at h;cases h
 . rw[if_neg h0]at h
   by_cases h1 : -n<=i
   . rw[if_pos h1]at h;have e:=zzZ h;exact⟨by rw[seqIndex_neg (by omega) h1,e],by omega,h1,by omega⟩
   . rw[if_neg h1]at h;cases h
def Lq(h:Es xs i=some v):∃j,seqIndex? i xs.length=some j/\xs[j]? = some v/\j<xs.length /\ -(xs.length:Int)<=i/\i<xs.length:=by
 unfold Es at h;cases e:Cf xs.length i with
 |none=>rw[e]at h;cases h
 |some j=>
  rw[e]at h;obtain⟨h1,h2,h3,h4⟩:=Bh e;exact⟨j,h1,h,h2,h3,h4⟩
def v8{α:Type}{xs}{j:Nat}{v:α}(h:xs[j]? = some v):Es xs (j:Int)=some v:=by
 have hj:=(zzG.mp h).1;have e:Cf xs.length (j:Int)=some j:=by
  unfold Cf;rw[if_pos (by omega),if_pos<|by omega];simp
 unfold Es;rw[e];exact h
def Zy(b:Expr):Prop:=∀o i,subscripted b false o i=operate [o,i] (getItem o i)
def tJ(X:Cx)(r:R2):Prop:=
 ∀(value slice:Expr) (pins:List (Addr×Obj)) (s:Shared) (σ:St) (H:Hp) (x y:V) (v u:Value) (Q:VK),Inv X pins σ H s->RelV x v->RelV y u->r x y H Q->
  subscripted slice false v u=operate [v,u] (getItem v u)->wpAny (model X.prog X.w) X.A (subscriptTail value slice v u) (EP X pins σ Q) X.xe s
def qm(X:Cx)(id:String)(r:V->List V->Hp->VK->Prop):Prop:=
 ∀(pins:List (Addr×Obj)) (s:Shared) (σ:St) (H:Hp) (x:V) (xs:List V) (v:Value) (us:List Value) (Q:VK),Inv X pins σ H s->RelV x v->ya xs us->r x xs H Q->
  wpAny (model X.prog X.w) X.A (call (.builtin id) (v::us)) (EP X pins σ Q) X.xe s
section
variable{X:Cx}{a b:Expr}{ta tb:TE}{pos:Pos}
def GQ(hr:tJ X r)(ha:PE X a ta)(hb:PE X b tb)(hs:Zy b):PE X (.Subscript a b pos) (uR r ta tb):=by
 intro pins s σ H Q I h;exact Subscript_<|uc ha hb I h λv u s2 x y H2 I2 rx ry q=>hr a b pins s2 σ H2 x y v u Q I2 rx ry q<|hs _ _
def qd(K:zzA):R2:=λx y H Q=>∃p xs i v,x = .ref p/\y = .int i/\YM K H p xs/\Es xs i=some v/\Q v H
def qQ(K:zzA):R2:=λx y H Q=>∃p xs i v,x = .ref p/\y = .int i/\Qy K H p xs/\Es xs i=some v/\Q v H
def qb:R2:=λx y H Q=>∃z i c,x = .str z/\y = .int i/\z.length<=sizeLine/\Es z.cps.toList i=some c/\Q (.str ⟨#[c]⟩) H
def V3:tJ X (qd X.K):=by
 intro value slice pins s σ H x y v u Q I rx ry h hs;obtain⟨p,xs,i,z,rfl,rfl,hq,he,q⟩:=h;cases rx;obtain⟨t,rfl⟩:=ry;obtain⟨its,r,pl,hz⟩:=I.list hq;obtain⟨j,h1,h2,h3,h4,h5⟩:=Lq he;obtain⟨w,ew,rw'⟩:=r.get h2;have hl:=r.length;have hn:=W9;have fin:EP X pins σ Q w s:=⟨z,H,I,rw',q⟩
 by_cases h0:0<=i
 . have hj:i.toNat=j:=by
    rw[seqIndex_of h0 h5]at h1;exact zzZ h1
   exact item_listR pl.isList h0 (by omega) (by rw[hj];simpa using ew) fin hs
 . have hj:(i+(its.toArray.size:Int)).toNat=j:=by
    rw[seqIndex_neg (by omega) h4]at h1;rw[zzH,<-hl];exact zzZ h1
   exact subscriptTail_builtinR pl.isList.typeIs slot_list_getitem.lookup
    (wpAny_getItem_list_neg pl.isList (by omega) (by rw[zzH]<;>omega) (by omega) (by rw[hj];simpa using ew) ⟨rfl,fin⟩) hs
def Cb:tJ X (qQ X.K):=by
 intro value slice pins s σ H x y v u Q I rx ry h hs;obtain⟨p,xs,i,z,rfl,rfl,hq,he,q⟩:=h;cases rx;obtain⟨t,rfl⟩:=ry;obtain⟨its,r,pl,hz⟩:=I.tuple hq;obtain⟨j,h1,h2,h3,h4,h5⟩:=Lq he;obtain⟨w,ew,rw'⟩:=r.get h2;have hl:=r.length;have hn:=W9;have fin:EP X pins σ Q w s:=⟨z,H,I,rw',q⟩;exact subscriptTail_builtinR pl.typeIs slot_tuple_getitem.lookup
  (getItem_tuple pl (by omega) (by omega) (by rw[zzH,<-hl];exact h1) (by simpa using ew) ⟨rfl,fin⟩) hs
def uu:tJ X qb:=by
 intro value slice pins s σ H x y v u Q I rx ry h hs;obtain⟨z,i,c,rfl,rfl,hz,he,q⟩:=h;obtain⟨t,rfl⟩:=rx;obtain⟨t',rfl⟩:=ry;obtain⟨j,h1,h2,h3,h4,h5⟩:=Lq he;have hl:z.cps.toList.length=z.length:=by simp[Str.length]
 rw[hl]at h1 h4 h5;have hn:=W9;exact tail_any (typeIs_str s z t) slot_str_getitem.lookup (getItem_str (by
  have e1:decide (i < -(2 ^ 63:Int))=false:=zyG (by omega);have e2:decide (i ≥ 2 ^ 63)=false:=zyG (by omega);rw[e1,e2,Bool.or_false]) (by rw[h1];simpa using h2) ⟨.str ⟨#[c]⟩,H,I.tok _,⟨_,rfl⟩,q⟩) hs
def ED(its:List Value)(n j:Nat)(u):Obj.mapSeq (·.setIfInBounds j u) {cls:=.type "list",data:=.seq its.toArray n}={cls:=.type "list",data:=.seq (its.set j u).toArray n}:=by
 simp[Obj.mapSeq]
theorem Inv.lst(I:Inv X pins σ H s)(h:H p=some (.lst xs)):
 ∃(its:List Value) (n:Nat),ya xs its/\s.heap.get? p=some {cls:=.type "list",data:=.seq its.toArray n}/\xs.length<=sizeLine:=by
 obtain⟨z,its,n,r,e⟩:=I.hok p _ h;exact⟨its,n,r,e,z⟩
def Inv.lstUpd{pins σ H s p xs ys}{its its':List Value}{n n':Nat}{f}(I:Inv X pins σ H s)(h:H p=some (.lst xs))
 (ho:s.heap.get? p=some {cls:=.type "list",data:=.seq its.toArray n}) (hf:f {cls:=.type "list",data:=.seq its.toArray n}={cls:=.type "list",data:=.seq its'.toArray n'}) (r:ya ys its') (hz:ys.length<=sizeLine) (t:Nat):
 Inv X pins σ (upd H p<|.lst ys) {s with heap:=s.heap.update p f,toks:=t}:=by
 have e:(s.heap.update p f).get? p=some {cls:=.type "list",data:=.seq its'.toArray n'}:=by
  rw[zxO f ho (by rw[hf]<;>rfl),hf]
 refine I.write (by rw[h];trivial) (.inl rfl) (λb u hb q=>(Heap.get?_update_other _ _<|Ne.symm hb).trans q) ⟨_,e⟩ ?_;exact⟨hz,its',n',r,e⟩
def sk:V->V->V->Hp->(Hp->Prop)->Prop:=λo i v H Q=>∃p xs k j,o = .ref p/\i = .int k/\H p=some (.lst xs)/\Cf xs.length k=some j/\Q (upd H p<|.lst<|xs.set j v)
def set_list:tI X sk:=by
 intro pins s σ H o i v ov iv u Q I ro ri rv h;obtain⟨p,xs,k,j,rfl,rfl,hp,hj,q⟩:=h;cases ro;obtain⟨t,rfl⟩:=ri;obtain⟨its,n,r,ho,hz⟩:=I.lst hp;obtain⟨h1,h2,h3,h4⟩:=Bh hj;have hl:=r.length;have hn:=W9;have I':Inv X pins σ _ {s with heap:=s.heap.update p _}:=
  I.lstUpd hp ho (ED its n j u) (r.set rv j) (by rw[zzU];exact hz) s.toks
 by_cases h0:0<=k
 . have hk:k.toNat=j:=by
    rw[seqIndex_of h0 h4]at h1;exact zzZ h1
   exact W.ki_setAt ho h0 (by omega) (by rw[zzH,<-hl];exact h4) (by rw[hk];exact⟨_,I',q⟩)
 . have hk:(k+(its.toArray.size:Int)).toNat=j:=by
    rw[seqIndex_neg (by omega) h3]at h1;rw[zzH,<-hl];exact zzZ h1
   exact W.ki_setBack ho (by omega) (by rw[zzH,<-hl];exact h3) (by omega) (by rw[hk];exact⟨_,I',q⟩)
def Lp(lo hi)(n:Nat):(sliceBounds lo hi none n).1=((HT.sIx n 0 lo:Nat):Int)/\(sliceBounds lo hi none n).2.1=((HT.sIx n n hi:Nat):Int)/\(sliceBounds lo hi none n).2.2=1:=by
 refine⟨?_, ?_,rfl⟩
 . cases lo with
   |none=>simp[sliceBounds,HT.sIx]
   |some i=>
    simp only[sliceBounds,HT.sIx,Option.getD_none,show 1 > 0 by decide,if_true]
    by_cases h:i<0
    . simp only[h,if_true]<;>omega
    . simp only[h,if_false]<;>omega
 . cases hi with
   |none=>simp[sliceBounds,HT.sIx]
   |some i=>
    simp only[sliceBounds,HT.sIx,Option.getD_none,show 1 > 0 by decide,if_true]
    by_cases h:i<0
    . simp only[h,if_true]<;>omega
    . simp only[h,if_false]<;>omega
def GC(its:List Value)(lo hi):slicePick its.toArray lo hi none=((its.drop<|HT.sIx its.length 0 lo).take<|HT.sIx its.length its.length hi-HT.sIx its.length 0 lo).toArray:=by
 obtain⟨h1,h2,h3⟩:=Lp lo hi its.toArray.size;unfold slicePick;rw[h1,h2,h3];simp only[sliceRange_one,pick_run,zzH]<;>rfl
def qa(K:zzA):V->Option Int->Option Int->Hp->VK->Prop:=λx lo hi H Q=>∃a xs,x = .ref a/\YM K H a xs/\∀p,H p=none->Q (.ref p) (upd H p<|.lst<|BE xs lo hi)
def IK:ux X (qa X.K):=by
 intro pins s σ H x v vl vu lo hi sl Q I rx hs pl pu h;obtain⟨a,xs,rfl,hx,q⟩:=h;cases rx;obtain⟨its,r,ht,hz⟩:=I.list hx;have hlen:=r.length;refine⟨"list",_,slot_list_getitem.lookup,ht.isList.typeIs, ?_⟩;refine wpAny_getItem_list_slice ht.isList hs pl pu .none (by simp) ?_ (by rw[zzH]<;>omega);rw[GC,<-hlen];refine⟨.ref s.heap.objs.size,_,I.laid (t':=s.toks) (λb ob q=>zxI _ q) (zzN _) ?_,rfl,q _<|I.hok.fresh<|zzN _⟩;exact⟨zzO (U9 xs lo hi) hz,_,0,(r.drop _).take _,zxK _ rfl⟩
def Yv:Xv X (.builtin "len") (λxs H Q=>∃p ys,xs=[.ref p]/\(YM X.K H p ys\/Qy X.K H p ys)/\Q (.int ys.length) H):=by
 intro pins s σ H xs us Q I r h;obtain⟨p,ys,rfl,hq,q⟩:=h;obtain⟨u,rfl,rx⟩:=vals1 r;cases rx;have hn:=W9
 rcases hq with hq|hq
 . obtain⟨its,r',pl,hz⟩:=I.list hq;have hlen:=r'.length;exact Calls.call_len_list pl.isList (by simp only[zzH]<;>omega) ⟨.int ys.length,H,I.tok _,⟨s.toks+1,by rw[zzH,hlen]⟩,q⟩
 . obtain⟨its,r',pl,hz⟩:=I.tuple hq;have hlen:=r'.length;exact len_tuple pl (by simp only[zzH]<;>omega) ⟨.int ys.length,H,I.tok _,⟨s.toks+1,by rw[zzH,hlen]⟩,q⟩
def Ln:Xv X (.builtin "len") (λxs H Q=>∃z,xs=[.str z]/\z.length<=sizeLine/\Q (.int z.length) H):=by
 intro pins s σ H xs us Q I r h;obtain⟨z,rfl,hz,q⟩:=h;obtain⟨u,rfl,t,rfl⟩:=vals1 r;have hn:=W9;exact len_str (by omega) ⟨.int z.length,H,I.tok _,⟨_,rfl⟩,q⟩
def V7:Xv X (.type "list") (λxs H Q=>∃p ys,xs=[.ref p]/\(YM X.K H p ys\/Qy X.K H p ys)/\∀l,H l=none->Q (.ref l) (upd H l<|.lst ys)):=by
 intro pins s σ H xs us Q I r h;obtain⟨p,ys,rfl,hq,q⟩:=h;obtain⟨u,rfl,rx⟩:=vals1 r;cases rx;have fin:∀its,ya ys its->ys.length<=sizeLine->∀h' c',_->
  h'.get? s.heap.objs.size=some {cls:=.type "list",dict:=none,data:=.seq its.toArray c',slots:=#[]}->EP X pins σ Q _ {s with heap:=h'}:=λits r' hz h' c' kp e=>
  ⟨.ref s.heap.objs.size,_,I.laid (t':=s.toks) kp (zzN _) (show xW X.prog X.w _ h' _ (.lst ys)from⟨hz,its,c',r',e⟩),rfl,q _<|I.hok.fresh<|zzN _⟩
 rcases hq with hq|hq
 . obtain⟨its,r',pl,hz⟩:=I.list hq;have hlen:=r'.length;obtain⟨o,ho,hc,n,hd⟩:=pl.isList;exact call_list_seq p (.inl rfl) ho hc hd (λh' c' kp e=>fin its r' hz h' c' kp e) (by simp only[zzH]<;>omega)
 . obtain⟨its,r',pl,hz⟩:=I.tuple hq;have hlen:=r'.length;obtain⟨o,ho,hc,n,hd⟩:=pl;exact call_list_seq p (.inr rfl) ho hc hd (λh' c' kp e=>fin its r' hz h' c' kp e) (by simp only[zzH]<;>omega)
def Wn:Xv X (.type "tuple") (λxs H Q=>∃p ys,xs=[.ref p]/\((YM X.K H p ys/\∀l,H l=none->Q (.ref l) (upd H l<|.tup ys))\/(Qy X.K H p ys/\Q (.ref p) H))):=by
 intro pins s σ H xs us Q I r h;obtain⟨p,ys,rfl,h⟩:=h;obtain⟨u,rfl,rx⟩:=vals1 r;cases rx
 rcases h with⟨hq,q⟩|⟨hq,q⟩
 . obtain⟨its,r',pl,hz⟩:=I.list hq;have hlen:=r'.length;refine call_tuple_list pl.isList (λh' kp=>?_) (by simp only[zzH]<;>omega);have I1:=I.kept (t':=s.toks) kp;have I2:=
    I1.laid (t':=s.toks) (λb o e=>zxI _ e) (zzN _) (show xW X.prog X.w _ _ _ (.tup ys)from⟨hz,its,r',IsTup.new _ _⟩)
   exact⟨.ref h'.objs.size,_,I2,rfl,q _<|I1.hok.fresh<|zzN _⟩
 . obtain⟨its,r',pl,hz⟩:=I.tuple hq;exact call_tuple_same pl ⟨.ref p,H,I,rfl,q⟩
def pQ(K:zzA)(T:String)(x:V)(H:Hp):Prop:=match x with
 | .str _=>T="str"
 | .int _=>T="int"
 | .ref p=>(T="list"/\∃xs,YM K H p xs)\/(T="tuple"/\∃o,K.lookup p=some o/\o.cls = .type "tuple"/\o.dict=none) \/
  (T="dict"/\((∃kvs,H p=some (.dK kvs))\/∃kvs,H p=some (.dT kvs)))\/(T="set"/\∃S n,H p=some (.set S n))
 |_=>False
def Ay(I:Inv X pins σ H s)(r:RelV x v)(ty:pQ X.K T x H):
 s.TypeIs v T/\∀a,v = .ref a->∃ob,s.heap.get? a=some ob/\ob.dict=none:=by
 cases x with
 |str z=>
  obtain⟨t,rfl⟩:=r;cases(ty);exact⟨typeIs_str s z t,λ_ e=>nomatch e⟩
 |int i=>
  obtain⟨t,rfl⟩:=r;cases(ty);exact⟨typeIs_int s i t,λ_ e=>nomatch e⟩
 |ref p=>
  cases r
  rcases ty with⟨rfl,xs,hq⟩|⟨rfl,o,hk,hc,hd⟩|⟨rfl,hk⟩|⟨rfl,S,n,hk⟩
  . obtain⟨its,_,pl,_⟩:=I.list hq;refine⟨pl.isList.typeIs,λa e=>?_⟩;cases e;obtain⟨o,n,e,c,hd,_⟩:=pl;exact⟨o,e,hd⟩
  . refine⟨⟨o,I.kIn p o hk,hc⟩,λa e=>?_⟩;cases e;exact⟨o,I.kIn _ o hk,hd⟩
  . have z:∃o,s.heap.get? p=some o/\o.ExactDict:=by
     rcases hk with⟨kvs,hk⟩|⟨kvs,hk⟩
     . obtain⟨_,_,_,_,o,_,_,e,ex,_⟩:=I.hok p _ hk;exact⟨o,e,ex⟩
     . obtain⟨_,_,_,_,o,_,_,e,ex,_⟩:=I.hok p _ hk;exact⟨o,e,ex⟩
    obtain⟨o,e,ex⟩:=z;refine⟨⟨o,e,ex.1⟩,λa e2=>?_⟩;cases e2;exact⟨o,e,ex.2.1⟩
  . obtain⟨o,_,_,_,e,ex,_⟩:=I.hok p _ hk;refine⟨⟨o,e,ex.1⟩,λa e2=>?_⟩;cases e2;exact⟨o,e,ex.2.1⟩
 |_=>exact False.elim ty
def pL(K:zzA)(T:String)(r:V->List V->Hp->VK->Prop)(to:TE)(t:TA):TE:=λσ H Q=>to σ H λx H1=>pQ K T x H1/\t σ H1 λxs H2=>r x xs H2 Q
variable{o e:Expr}{es:List Expr}{to:TE}{t:TA}{name:Str}{apos cpos:Pos}{T id:String}{r:V->List V->Hp->VK->Prop}
def Jo(pa:PlainAttrs T)(slot:Slot T name id)(hty:typeOf (.builtin id)=pure (.type "method_descriptor"))(hm:qm X id r)(ho:PE X o to)(ha:PA X (e::es) t)
 (hbase:attributeBase o name X.env (eval o X.env)=eval o X.env:=by rfl)
 (hfew:((backTo cpos<|starEach (e::es) X.env).all (λx=>!x.1)&&(backToKw cpos<|keywordEach [] X.env).all (λx=>x.1.isSome)
  && decide ((e::es).length+([]:List Keyword).length+(if([]:List Keyword).isEmpty then 0 else 1)<30))=true:=by rfl)
 (hline:(apos.endLine==cpos.line)=true:=by rfl) (hs:starEach (e::es) X.env=(false,eval e X.env)::starEach es X.env:=by rfl) (hplain:(backTo cpos<|starEach es X.env).any (·.1)=false:=by rfl):
 PE X (.Call (.Attribute o name apos) (e::es) [] cpos) (pL X.K T r to t):=by
 intro pins s σ H Q I h;refine wpAny_Call_method_late hbase hfew hline rfl<|thn (ho pins s σ H _ I h) λv s1 ⟨x,H1,I1,r1,ty,q1⟩=>?_;obtain⟨h1,h2⟩:=Ay I1 r1 ty;refine⟨T,id,pa,slot,hty,h1,h2, ?_⟩;have hA:=ha cpos pins s1 σ H1 _ I1 q1;rw[hs]at hA ⊢;refine Calls.callWith_builtin (by show(false||(backTo cpos _).any (·.1))=false;rw[hplain]<;>rfl)<|Calls.evalArgs_plain ?_;exact thn hA λus s2 ⟨vs,H2,I2,r2,q2⟩=>hm pins s2 σ H2 x vs v us Q I2 r1 r2 q2
end
end L2
namespace L2
open PySem PySem.Spec PyProof.Rows
def tZ(X:Cx)(id:String)(r:V->List V->Hp->VK->Prop):Prop:=
 ∀(pins:List (Addr×Obj)) (s:Shared) (σ:St) (H:Hp) (x:V) (xs:List V) (v:Value) (us:List Value) (Q:VK),Inv X pins σ H s->RelV x v->ya xs us->r x xs H Q->
  wpAny (model X.prog X.w) X.A (call (.builtin id) (v::us)) (EP X pins σ Q) X.xe s
def ya.one:∀{x:V}{us:List Value},ya [x] us->∃u,us=[u]/\RelV x u
 |_,_,.cons r .nil=>⟨_,rfl,r⟩
def ya.two:∀{x y:V}{us:List Value},ya [x,y] us->∃u v,us=[u,v]/\RelV x u/\RelV y v
 |_,_,_,.cons r (.cons q .nil)=>⟨_,_,rfl,r,q⟩
theorem ya.eraseIdx:∀{xs:List V}{us:List Value}(i:Nat),ya xs us->ya (xs.eraseIdx i) (us.eraseIdx i)
 |_,_,_,.nil=>.nil
 |_,_,0,.cons _ t=>t
 |_,_,i+1,.cons r t=>.cons r<|ya.eraseIdx i t
theorem ya.reverse(h:ya xs us):ya xs.reverse us.reverse:=by
 induction h with
 |nil=>exact .nil
 |cons r t ih=>rw[List.reverse_cons,List.reverse_cons];exact ya.append ih<|.cons r .nil
theorem ya.rep(h:ya xs us):∀k:Nat,ya (List.replicate k xs).flatten (List.replicate k us).flatten
 |0=>.nil
 |k+1=>by
  rw[List.replicate_succ,List.replicate_succ,List.flatten_cons,List.flatten_cons];exact ya.append h<|ya.rep h k
theorem Kf:∀(l:List α) (i:Nat),(l.eraseIdx i).length<=l.length
 | [],_=>zzN _
 |_::_,0=>zyX _
 |_::r,i+1=>Nat.succ_le_succ<|Kf r i
theorem foldl_rep(its):∀(k:Nat) (acc:List Value),
 List.foldl (λx1 x2=>x1++x2) acc.toArray (List.replicate k its.toArray)=(acc++(List.replicate k its).flatten).toArray
 |0,acc=>by simp
 |k+1,acc=>by
  have e:acc.toArray++its.toArray=(acc++its).toArray:=by simp
  have e2:(acc++its)++(List.replicate k its).flatten=acc++(List.replicate (k+1) its).flatten:=by
   rw[List.replicate_succ,List.flatten_cons,zxD]
  rw[<-e2,<-foldl_rep its k _,<-e,List.replicate_succ,List.foldl_cons]
section
variable{X:Cx}{pins:List (Addr×Obj)}{σ:St}{H:Hp}{s:Shared}{l b:Addr}{xs ys zs:List V}
def Inv.lset{its its':List Value}{n:Nat}{f}{t':Nat}(I:Inv X pins σ H s)(hH:H l=some (.lst xs))
 (e:s.heap.get? l=some {cls:=.type "list",data:=.seq its.toArray n}) (hf:f its.toArray=its'.toArray) (hv:ya ys its') (hz:ys.length<=sizeLine):
 Inv X pins σ (upd H l<|.lst ys) {s with heap:=s.heap.update l<|Obj.mapSeq f,toks:=t'}:=by
 have q:=PySem.IsL.update e f;rw[hf]at q;refine I.write (by rw[hH];exact trivial) (.inl rfl) (λb' u hb hu=>(Heap.get?_update_other s.heap _<|Ne.symm hb).trans hu) ⟨_,q⟩ ?_;exact⟨hz,its',_,hv,q⟩
def Inv.lnew(I:Inv X pins σ H s)(hv:ya ys its)(hz:ys.length<=sizeLine):
 Inv X pins σ (upd H s.heap.objs.size<|.lst ys) {s with heap:=s.heap.push {cls:=.type "list",data:=.seq its.toArray},toks:=t'}:=
 I.laid (λ_ _ q=>zxI _ q) (zzN _) ⟨hz,its,0,hv,zxK _ rfl⟩
theorem Inv.fresh(I:Inv X pins σ H s):H s.heap.objs.size=none:=I.hok.fresh<|zzN _
def Inv.lstM(I:Inv X pins σ H s)(hH:H l=some (.lst xs)):xs.length<=sizeLine/\∃(its:List Value) (n:Nat),ya xs its/\xs.length=its.length/\s.heap.get? l=some {cls:=.type "list",data:=.seq its.toArray n}:=by
 obtain⟨z,its,n,r,e⟩:=I.hok l _ hH;exact⟨z,its,n,r,r.length,e⟩
def NO(h:n<=sizeLine):Builtin.List.listTooLong n=false:=by
 unfold Builtin.List.listTooLong;exact zyG (by omega)
end
section
variable{X:Cx}
def FV:V->List V->Hp->VK->Prop:=λx vs H Q=>∃l xs y,x = .ref l/\vs=[y]/\H l=some (.lst xs)/\xs.length<sizeLine/\Q .non (upd H l<|.lst<|xs++[y])
def Bv:tZ X "list.append" FV:=by
 intro pins s σ H x vs v us Q I rx rv h;obtain⟨l,xs,y,rfl,rfl,hH,hz,q⟩:=h;cases rx;obtain⟨u,rfl,ru⟩:=rv.one;obtain⟨z,its,n,r,hl,e⟩:=I.lstM hH;refine call_meets F.slot_list_append ⟨_,e,rfl⟩ F.entry_list_append (F.args_list_append_2 _ _) (PySem.list_append l its.toArray n u<|by rw[zzH];omega) ⟨e, ?_⟩;refine⟨.non,_,I.lset (its':=its++[u]) hH e (by simp) (r.append<|.cons ru .nil) ?_,rfl,q⟩;rw[zzJ,List.length_singleton];omega
def Ff:V->List V->Hp->VK->Prop:=λx vs H Q=>∃l b xs zs,x = .ref l/\vs=[.ref b]/\H l=some (.lst xs)/\H b=some (.lst zs)/\xs.length+zs.length<=sizeLine/\Q .non (upd H l<|.lst<|xs++zs)
def BG:tZ X "list.extend" Ff:=by
 intro pins s σ H x vs v us Q I rx rv h;obtain⟨l,b,xs,zs,rfl,rfl,hH,hB,hz,q⟩:=h;cases rx;obtain⟨u,rfl,ru⟩:=rv.one;cases ru;obtain⟨z,its,n,r,hl,e⟩:=I.lstM hH;obtain⟨z2,its2,n2,r2,hl2,e2⟩:=I.lstM hB;have hsz:its.toArray.size+its2.toArray.size<=sizeLine:=by rw[zzH,zzH];omega
 have hlong:¬(!its.toArray.isEmpty&&Builtin.List.listTooLong (its.toArray.size+its2.toArray.size))=true:=by
  rw[NO hsz,Bool.and_false];exact zyW
 refine call_meets F.slot_list_extend ⟨_,e,rfl⟩ F.entry_list_extend (F.args_list_extend_2 _ _)
  (AutoSeq1.list_extend_list_list_0 l its.toArray n b its2.toArray n2 hlong (by rw[zzH];omega)<|by omega) ⟨e,e2, ?_⟩
 refine⟨.non,_,I.lset (its':=its++its2) hH e (by simp) (r.append r2) ?_,rfl,q⟩;rw[zzJ];omega
def HW:V->List V->Hp->VK->Prop:=λx vs H Q=>∃l xs i k y,x = .ref l/\vs=[.int i]/\H l=some (.lst xs) /\ -(2 ^ 63)<=i/\i<2 ^ 63/\seqIndex? i xs.length=some k/\xs[k]? = some y/\Q y (upd H l<|.lst<|xs.eraseIdx k)
def Sv:tZ X "list.pop" HW:=by
 intro pins s σ H x vs v us Q I rx rv h;obtain⟨l,xs,i,k,y,rfl,rfl,hH,h1,h2,hk,hy,q⟩:=h;cases rx;obtain⟨u,rfl,ru⟩:=rv.one;obtain⟨t,rfl⟩:=ru;obtain⟨z,its,n,r,hl,e⟩:=I.lstM hH;obtain⟨w,hw,rw'⟩:=r.get hy;refine call_meets F.slot_list_pop ⟨_,e,rfl⟩ F.entry_list_pop (F.args_list_pop_2 _ _)
  (MeetsSeq.list_pop_at l its.toArray n i t k w (fitsIndex_both h1 h2) (by rw[zzH,<-hl];exact hk) (by rw[<-Array.getElem?_toList];exact hw)<|by rw[zzH];omega) ⟨e, ?_⟩
 refine⟨y,_,I.lset (its':=its.eraseIdx k) hH e ?_ (r.eraseIdx k) ?_,rw',q⟩
 . show _=_;rw[List.eraseIdxIfInBounds_toArray]
 . have:=Kf xs k;omega
def len_rep(xs:List α)(k:Nat):(List.replicate k xs).flatten.length=k*xs.length:=by
 induction k with
 |zero=>simp
 |succ k ih=>rw[List.replicate_succ,List.flatten_cons,zzJ,ih,Nat.succ_mul,Nat.add_comm]
end
end L2
namespace Att
open PySem PySem.W PySem.Calls PyProof.Rows
def Rr:∀(ns:List Int) (vs:List Value),WellAll P h vs (ns.map WData.int)->IntsAre vs ns:=by
 intro ns
 induction ns with
 |nil=>
  intro vs w;rw[List.map_nil]at w;cases w;exact .nil
 |cons n ns ih=>
  intro vs w;rw[zyS]at w;cases w with
  |cons a b=>
   cases a;exact .cons _ _<|ih _ b
def Se{l:OpenLaw}{n:Nat}(hn:l.most=some n){P h args vals}
 (hpre:l.row.toRowW.claim.pre args=true) (hwl:WellAll P h vals args):
 ∃a vs ns,vals=[Value.ref a]/\args=[WData.list<|ns.map WData.int]/\h.get? a=some {cls:=.type "list",data:=.seq vs.toArray}/\IntsAre vs ns/\ns.length<=n:=by
 have hsh:=(pre_splitW hpre).1;have hc:l.pre.holds [] {args:=args}=true:=(pre_splitW hpre).2;obtain⟨d,r,rfl,h1,h2⟩:=hasAllW_cons hsh;obtain rfl:=hasAllW_nil h2;obtain⟨xs,rfl,h3⟩:=hasW_list h1;obtain⟨ns,rfl⟩:=items_int h3;have hlen:ns.length<=n:=by
  unfold OpenLaw.pre at hc;have h4:(WTm.not<|.lt (.lit<|.int (n:Int))<|.len<|.arg 0).holds [] {args:=[.list<|ns.map .int]}=true:=by
   have h4:=(holds_andW hc).1;rw[hn]at h4;exact h4
  have h5:=condW_of h4<|w_not<|w_lt w_lit<|w_len_list<|w_arg rfl;rw[zzB]at h5;refine Nat.le_of_not_lt λq=>?_;have q':n<(ns.length:Int):=by omega
  first
   |(rw[zyO q']at h5;exact absurd h5 (by decide))
   |(simp at h5;omega)
 cases hwl with
 |cons w1 w2=>
  cases w2;cases w1 with
  |list ho hall=>exact⟨_,_,ns,rfl,rfl,ho,Rr ns _ hall,hlen⟩
def BC(l:OpenLaw)(args):l.row.toRowW.claim.post args (.bool true) args=true:=
 postW_of
  (show WShape.has [] _ .bool=true by first|rfl|decide|simp[WShape.has,WShape.arms,WShape.armsAll])
  (w_eq_bool (w_res rfl) w_lit) rfl
def ND{l:OpenLaw}{n:Nat}{q loose XP YP d}
 (hn:l.most=some n) (hdf:d.params.defaults=[])
 (call:∀(w:World) (s₀ s₁:Shared) (mg mb:Str->Option Value) (fa:Addr) (o:Obj) (pm cd doc:Value) (a:Addr) (vs:List Value) (ns:List Int),
  Ground q loose [] XP w s₀ mg mb s₁.heap->YP w s₁.heap->
  s₁.heap.get? fa=some o->o.data = .func (docDef d.name d.params d.body d.scope pm cd doc)->s₁.heap.CodeRec cd d.name->mg d.name=some (.ref fa)->
  s₁.heap.get? a=some {cls:=.type "list",data:=.seq vs.toArray}->IntsAre vs ns->ns.length<=n->s₁.gens = #[]->
  codeAny (model l.prog w) callerA (.call (.ref fa) ⟨[.ref a],[]⟩) (λr s'=>r = .ok (.ret<|.bool true)/\OldK s₁.heap s'.heap/\s'.os=s₁.os/\AllBare s'.gens) s₁):
 WalkO q loose XP YP l.row.toRowW d [] (λf vs=>PySem.call f vs):=by
 intro w s₀ s₁ mg mb G Y fa o pm cd doc dV kV ho hd hcd hD hmg hg args vals as hpre hlay hrd hwl hlo;obtain rfl:dV = .none:=Dflts.none hD hdf;obtain rfl:kV = .none:=Dflts.noKw hD;obtain⟨a,vs,ns,rfl,rfl,hobj,hints,hlen⟩:=Se hn hpre hwl;refine enter_call<|codeAny_mono (call w s₀ s₁ mg mb fa o pm cd doc a vs ns G Y ho (fd_plain hd) hcd hmg hobj hints hlen hg) λr s' hq=>?_;obtain⟨rfl,h2,h3,h4⟩:=hq;exact⟨.inl ⟨.bool true,.bool true,[],rfl,λ_=>rfl,.bool true,BC l _,λ_=>⟨List.Pairwise.nil,λ_ hm=>(nomatch hm)⟩⟩,h2,h3,h4⟩
end Att
namespace L2
open PySem PySem.Spec PyProof.Rows
theorem ZX:∀{vs:List Value}{ns:List Int},IntsAre vs ns->ya (ns.map V.int) vs
 |_,_,.nil=>.nil
 |_,_,.cons n t h=>.cons ⟨t,rfl⟩<|ZX h
def JX(H:Hp):Prop:=∀b,H b=none\/∃o xs,H b=some (.frz o<|.lst xs)
def ON{P w K mg mb CX}{k:Nat}{fa a fd x sp s₁ vs ns}
 (KX:K.In s₁.heap) (hns:s₁.heap.Ns mainGlobals mg) (hb:s₁.heap.Ns builtinsNs mb) (hbb:∀x:Str,x≠"__name__"->mb x=bootBuiltins x) (hlim:s₁.heap.NoLimit) (hg:s₁.gens = #[])
 (ha:s₁.heap.get? a=some {cls:=.type "list",data:=.seq vs.toArray}) (hi:IntsAre vs ns) (hl:ns.length<=sizeLine) (hr:Room k callerA)
 (F:∀base:Heap,K.In base->base.Ns mainGlobals mg->FnOk P w K mg base CX k fa fd [x] sp) (hbind:∀(s:Shared) (u:Value),BindsTo s fd ⟨[u],[]⟩ [(x,u)])
 (hsp:∀H:Hp,JX H->Sw K H a (ns.map V.int)->sp [.ref a] H (λv _=>v = .bl true) λ_ _ _=>False)
 (hCX:∀H e s',CX [] H s₁ (λ_ _ _=>False) e s'->False):
 codeAny (model P w) callerA (.call (.ref fa) ⟨[.ref a],[]⟩) (λr s'=>r = .ok (.ret<|.bool true)/\OldK s₁.heap s'.heap/\s'.os=s₁.os/\AllBare s'.gens) s₁:=by
 have rv:=ZX hi;have lenV:=hi.length;have core:∀H:Hp,JX H->Sw K H a (ns.map V.int)->Qz P w H s₁.heap->(∀b,H b≠none->b=a)->(H a≠none->K.lookup a=none)->
  codeAny (model P w) callerA (.call (.ref fa) ⟨[.ref a],[]⟩) (λr s'=>r = .ok (.ret<|.bool true)/\OldK s₁.heap s'.heap/\s'.os=s₁.os/\AllBare s'.gens) s₁:=by
  intro H hO hS hok hA hK;have base_of:∀{b:Addr}{o:Obj},s₁.heap.get? b=some o->H b=none->(Bw s₁.heap H).get? b=some o:=λe n=>Of e n;have noA:∀{b:Addr}{o:Obj}{es:Array DictEntry}{ep:Nat},s₁.heap.get? b=some o->o.data = .dict es ep->H b=none:=λ{b o es ep} e d=>by
   cases q:H b with
   |none=>rfl
   |some u=>
    have e':b=a:=hA b (by rw[q];simp);subst e';rw[ha]at e;cases e;have d':Data.seq vs.toArray _=Data.dict es ep:=d;cases d'
  have nsK:∀{b:Addr}{m:Str->Option Value},s₁.heap.Ns b m->(Bw s₁.heap H).Ns b m:=λ{b m} ⟨o,es,ep,e,d,r⟩=>⟨o,es,ep,base_of e<|noA e d,d,r⟩;have hKb:=λb o e=>base_of (KX b o e) (by
   cases q:H b with
   |none=>rfl
   |some u=>
    have e':b=a:=hA b (by rw[q];simp);subst e';rw[hK<|by rw[q];simp]at e;cases e)
  have hM:Mod K mg _:=⟨hKb,nsK hns,⟨mb,nsK hb,hbb⟩,let⟨mc,h1,h2⟩:=hlim;⟨mc,nsK h1,h2⟩⟩;have e0:Env0 P w K mg _ callerA [] s₁ H:=⟨rfl,hM,λb o e=>Jb e,Nat.le_of_eq<|BZ _ _,trivial,λb hb=>absurd (show b ∈ ([]:List Addr)from hb) (by simp),hok,.of_eq hg⟩;refine codeAny_mono ((F _ hKb<|nsK hns).run callerA [] s₁ H ⟨_,[]⟩ [.ref a] [.ref a] _ _ hr e0 (hbind s₁<|.ref a) (.cons rfl .nil)<|hsp H hO hS) λr s' h=>?_;cases r with
  |error e=>exact(hCX H e s' h).elim
  |ok fl=>
   cases fl with
   |next=>exact False.elim h
   |brk=>exact False.elim h
   |cont=>exact False.elim h
   |ret u=>
    obtain⟨v,H',os,bare,un,hok',r',q⟩:=h;have q':v = .bl true:=q;subst q';obtain rfl:u=Value.bool true:=r';refine⟨rfl,OldK.of_keep λb o e=>?_,os,bare⟩;cases q:H b with
    |none=>exact un.keep b o e q (by intro z;exact absurd (show b ∈ ([]:List Addr)from z)<|by simp) (by simp)
    |some u=>
     rcases hO b with z|⟨ob,xs,z⟩
     . rw[q]at z;cases z
     . have z2:=un.frzs b ob _ z;obtain⟨e1,_⟩:=hok b _ z;obtain⟨e2,_⟩:=hok' b _ z2;rw[e]at e1;cases e1;exact e2
 cases hk:K.lookup a with
 |some o=>
  have e:=KX a o hk;rw[ha]at e;cases e;refine core (λ_=>none) (λ_=>.inl rfl) (.inr ⟨vs.toArray,_,hk,by rw[zzH,lenV];exact hl,by simpa using rv⟩) (λb u z=>by have z':none=some u:=z;cases z') (λb z=>absurd rfl z) λz=>absurd rfl z
 |none=>
  refine core (λb=>if b=a then some _ else none) (λb=>?_) (.inl<|.inr ⟨{cls:=.type "list",data:=.seq vs.toArray},if_pos rfl⟩) (λb u z=>?_) (λb z=>?_) λ_=>hk
  . by_cases hb:b=a
    . exact .inr ⟨_,_,if_pos hb⟩
    . exact .inl<|if_neg hb
  . by_cases hb:b=a
    . have z':=(if_pos hb).symm.trans z;cases z';subst hb;exact⟨ha,by rw[zzB];exact hl,vs,_,rv,ha⟩
    . have z':=(if_neg hb).symm.trans z;cases z'
  . by_cases hb:b=a
    . exact hb
    . exact absurd (if_neg hb) z
end L2
namespace L2
open PySem PySem.Spec PyProof.Rows
def walk_of{l:PySem.W.OpenLaw}{n k:Nat}{q loose XP YP d}{K:Params->zzA}{CX:World->JU}{sp:World->Sp}{x}
 (hn:l.most=some n) (hn2:n<=sizeLine) (hdf:d.params.defaults=[]) (hr:Room k callerA)
 (hY:∀(w:World) (h:Heap),YP w h->(K w.params).In h)
 (F:∀(w:World) (mg:Str->Option Value) (fa:Addr) (h:Heap),(K w.params).In h->h.Ns mainGlobals mg->mg d.name=some (.ref fa)->
  ∃fd:FuncData,(∀(s:Shared) (u:Value),BindsTo s fd ⟨[u],[]⟩ [(x,u)])/\
   ∀base:Heap,(K w.params).In base->base.Ns mainGlobals mg->FnOk l.prog w (K w.params) mg base (CX w) k fa fd [x] (sp w))
 (hsp:∀(w:World) (H:Hp) (a:Addr) (ns:List Int),ns.length<=n->JX H->Sw (K w.params) H a (ns.map V.int)->sp w [.ref a] H (λv _=>v = .bl true) λ_ _ _=>False)
 (hCX:∀(w:World) (H:Hp) (s:Shared) (e:Value) (s':Shared),CX w [] H s (λ_ _ _=>False) e s'->False):
 PySem.W.WalkO q loose XP YP l.row.toRowW d [] (λf vs=>PySem.call f vs):=by
 refine Att.ND hn hdf λw s₀ s₁ mg mb fa o pm cd doc a vs ns G Y ho hd hcd hmg hobj hints hlen hg=>?_;have KX:=hY w _ Y;obtain⟨fd,hb,hF⟩:=F w mg fa _ KX G.T.g hmg;exact ON KX G.T.g G.T.b G.T.builtins G.T.nolimit hg hobj hints (zzO hlen hn2) hr hF hb (λH hO hS=>hsp w H a ns hlen hO hS) λH e s'=>hCX w H s₁ e s'
end L2
namespace L2
open PySem PySem.Spec PyProof.Rows
def RG(s:Stmt):Arguments:=match s with
 | .FunctionDef _ a _ _ _ _ _ _ _ _=>a
 |_=>{posonlyargs:=[],args:=[],vararg:=none,kwonlyargs:=[],kw_defaults:=[],kwarg:=none,defaults:=[]}
def YH(s:Stmt):List Stmt:=match s with
 | .FunctionDef _ _ b _ _ _ _ _ _ _=>b
 |_=>[]
def zw(s:Stmt):Scope:=match s with
 | .FunctionDef _ _ _ _ _ _ sc _ _ _=>sc
 |_=>{kind:=.function,names:=[],isGenerator:=false,isCoroutine:=false}
abbrev Sm:JU:=λ_ _ _ _ _ _=>False
abbrev E0:XK:=λ_ _ _=>False
def uT:LK Sm X E0:=λ_ _ _ _ _ _ _ h=>h.elim
structure Fun(K:zzA)(x qual:Str)(st:Stmt)(f:Addr)(fd:FuncData):Prop where
 ex:∃(oc:Value) (od:Option Addr) (kV doc pm:Value) (an:Option Addr) (cdv ct:Value) (osl:Array (Option Value)),
  fd=W.fnOf x qual (RG st) (YH st) (zw st) .none kV doc pm an cdv ct/\K.lookup f=some ⟨oc,od,.func fd,osl⟩/\W.codeIn K cdv qual=true
 kp:W.keepIn K (.ref f)=true
section
variable{P:Program}{w:World}{K:zzA}{mg:Str->Option Value}{base:Heap}
def Fun.ok{x qual st f fd N ps}{k:Nat}{sp}(F:Fun K x qual st f fd)(S:FnScope N ps (zw st))(len:∀vs H Q E,sp vs H Q E->vs.length=ps.length)
 (hbody:∀(cdv:Value) (A:Around) (outer:List Env) (s:Shared) (H:Hp) (vs:List V) (Q:VK) (E:XK),Room k (A.deeper<|envOfC qual (zw st) s.heap.objs.size f cdv)->sp vs H Q E->
  ∃t,MH (Md Sm P w K mg base N qual (zw st) f cdv A outer s H E).nox (YH st) t/\t {nx:=λ_ H'=>Q .non H',rt:=Q} (start N vs) H):FnOk P w K mg base Sm (k+1) f fd ps sp:=by
 obtain⟨oc,od,kV,doc,pm,an,cdv,ct,osl,rfl,lk,hcd⟩:=F.ex;refine uI lk hcd S len λA outer s H vs Q E hr hsp=>?_;obtain⟨t,h,q⟩:=hbody cdv A outer s H vs Q E hr hsp;exact⟨t,h.nox,q⟩
def Fun.binds{x qual st f fd ps}(F:Fun K x qual st f fd)
 (h:∀(kV doc pm:Value) (an:Option Addr) (cdv ct:Value) (us:List Value),us.length=ps.length->bindArgs (W.fnOf x qual (RG st) (YH st) (zw st) .none kV doc pm an cdv ct) ⟨us,[]⟩=pure (ps.zip us)):Binds K fd ps []:=by
 obtain⟨oc,od,kV,doc,pm,an,cdv,ct,osl,rfl,lk,hcd⟩:=F.ex;exact .all<|h kV doc pm an cdv ct
end
def JQ(hr:Room k A):A.units+1<cLine:=Nat.lt_of_le_of_lt (Nat.add_le_add_left (by decide:1<=64) _) hr.units
def xZ(h:n<=1000):n<sizeLine:=Nat.lt_of_le_of_lt h (by decide)
section
variable{X:Cx}
def pv(i:Nat)(hN:X.N[i]? = some x:=by rfl)(hv:sX X.env.scope x:=by first|exact Or.inl rfl|exact Or.inr (Or.inl rfl)|exact Or.inr (Or.inr rfl))(hd:(x==("__debug__":Str))=false:=by decide)
 (hcd:(x==("__classdict__":Str))=false:=by decide):PE X (.Name x pos) (QM i):=Og hN hv hd hcd
end
end L2
end
section
namespace G55
open PySem PySem.W PyProof.Rows L2
def top(i:Nat):Stmt:=PySem.Challenge.pw_stretchdeeds_k55_pictures.main.body.getD i<|.Pass ⟨0,0,0,0⟩
abbrev YC:Stmt:=top 4
abbrev ZI:Stmt:=top 6
abbrev Vj:Stmt:=top 7
abbrev wq:Stmt:=top 8
abbrev wu:Stmt:=top 9
abbrev vm:Stmt:=top 10
abbrev vV:Stmt:=top 11
abbrev vU:Stmt:=top 12
abbrev wI:Stmt:=top 13
abbrev ZE:Stmt:=top 15
abbrev Yi:Stmt:=top 17
abbrev YG:Stmt:=top 18
abbrev wt:Stmt:=top 19
abbrev wx:Stmt:=top 20
abbrev Yy:Stmt:=top 21
abbrev Ye:Stmt:=top 22
abbrev v5:Stmt:=top 23
abbrev vW:Stmt:=top 24
abbrev Za:Stmt:=top 25
abbrev Zb:Stmt:=top 26
abbrev vv:Stmt:=top 28
abbrev Xp:Stmt:=top 29
abbrev vP:Stmt:=top 30
abbrev ZF:Stmt:=top 31
abbrev vg:Stmt:=top 32
abbrev Yp:Stmt:=top 33
abbrev vT:Stmt:=top 34
abbrev Yb:Stmt:=top 35
abbrev Zu:Stmt:=top 36
abbrev YB:Stmt:=top 37
abbrev Zt:Stmt:=top 38
abbrev v3:Stmt:=top 39
abbrev Yo:Stmt:=top 40
abbrev Zx:Stmt:=top 41
abbrev ZL:Stmt:=top 42
abbrev vt:Stmt:=top 43
abbrev vq:Stmt:=top 44
abbrev ZH:Stmt:=top 45
abbrev Zv:Stmt:=top 46
abbrev Yk:Stmt:=top 48
abbrev vZ:Stmt:=top 49
abbrev wo:Stmt:=top 50
abbrev XT:Stmt:=top 51
abbrev Yq:Stmt:=top 47
abbrev XZ:Stmt:=top 52
abbrev vz:Stmt:=top 53
abbrev Zw:Stmt:=top 54
abbrev yL:Stmt:=top 55
abbrev vo:Stmt:=top 56
abbrev Fz:Stmt:=top 57
abbrev hpg:=PySem.Challenge.pw_stretchdeeds_k55_pictures
abbrev hva:Value:=.str "stretchdeeds.errors" 187
abbrev hvb:Value:=.str "stretchdeeds.terms" 232
abbrev hvc:Value:=.str "stretchdeeds.algebras" 241
abbrev hvd:Value:=.str "stretchdeeds.alikes" 323
abbrev hve:Value:=.str "stretchdeeds.leasts" 331
abbrev hvf:Value:=.str "law_stretchdeeds_k55_pictures" 400
abbrev hem:List Value:=[(.type "ValueError"), (.type "Exception"), (.type "BaseException"), (.type "object")]
abbrev kF(n q:Str)(s:Stmt)(pm hcd:Value):Obj:=⟨.type "function",none,.func<|fnOf n q (RG s) (YH s) (zw s) .none .none .none pm none hcd .none,#[]⟩
abbrev kD(es:List DictEntry)(n:Nat):Obj:=⟨.type "dict",none,.dict es.toArray n,#[]⟩
abbrev kE(P:Params)(x:Str)(t:Nat)(v:Value):DictEntry:=⟨PyData.keyHash P x,.str x t,v⟩
abbrev kR(P:Params)(x:Str)(t:Nat)(a:Addr):DictEntry:=kE P x t<|.ref a
abbrev hfl(c:Value)(l:List Value):Obj:=⟨c,none,.fields l.toArray,#[]⟩
abbrev hco(n q:Str)(t u:Nat)(l k g:Int)(b:Bool)(a:Nat)(r s v:Value):Obj:=hfl (.type "code") [.str n t,.str q<|t+1,.str "/claim/cut.py" (t+2),.int l 0,.int k 0,.int 0 0,.int 0 0,.int g 0,.ref a,.bool b,.int 181 0,.ref<|a+1,.none,r,s,v,.int u 0,.int l 0,.str "/claim/cut.py" (u+1)]
abbrev hc7(n q:Str)(t u:Nat)(l k:Int)(a:Nat):=hco n q t u l k 3 true a (.ref<|a+2) (.ref<|a+3)<|.ref<|a+4
abbrev hc5(n q:Str)(t:Nat)(l k:Int)(a:Nat):=hco n q t (t+3) l k 3 true a .none .none<|.ref<|a+2
noncomputable abbrev hen(P:Params):List DictEntry:=[kE P "__doc__" 166 .none,kE P "__package__" 167 .none,kE P "__loader__" 168<|.builtin "__main__.__loader__#opaque",kE P "__spec__" 169 .none,kR P "__annotations__" 170 6,kR P "__builtins__" 171 4,kE P "__file__" 173<|.str "/claim/cut.py" 172,kE P "__cached__" 174 .none,kR P "StretchError" 206 24,kR P "NotLetBy" 231 44,kR P "is_whole" 240 53,kR P "is_within" 251 60,kR P "is_row" 257 65,kR P "nothing_fails" 267 72,kR P "parting_fails" 279 79,kR P "doing_fails" 295 86,kR P "deeds_fail" 306 93,kR P "what_fails" 314 100,kR P "check_let_by" 322 107,kR P "all_steps" 330 112,kR P "numbered" 338 117,kR P "signs_of" 344 122,kR P "class_numbers" 350 127,kR P "least_algebra" 356 132,kR P "names_of" 362 137,kR P "are_akin" 370 144,kR P "keeps_join" 381 151,kR P "keeps_rows" 387 156,kR P "keeps_sign" 393 161,kR P "is_picture" 399 166,kR P "_law_cell_at" 409 173,kR P "_law_whole" 416 180,kR P "_law_stream" 427 187,kR P "_law_names" 433 192,kR P "_law_divisor" 441 199,kR P "_law_sums" 447 204,kR P "_law_rising" 453 209,kR P "_law_kept" 459 214,kR P "_law_joins" 465 219,kR P "_law_rows" 471 224,kR P "_law_plain" 477 229,kR P "_law_beside" 483 234,kR P "_law_made" 497 241,kR P "_law_order" 508 248,kR P "_law_signs" 514 253,kR P "_law_algebra" 520 258,kR P "_law_parting" 532 265,kR P "_law_doing" 550 272,kR P "_law_fails" 566 279,kR P "_law_good" 574 286,kR P "_law_bent" 580 291,kR P "_law_digits" 591 298,kR P "_law_by_digits" 597 303,kR P "_law_any" 606 310,kR P "_law_few" 612 315,kR P "_law_renamed" 618 320,kR P "_law_other" 624 325,kR P "_law_is_picture" 630 330,kR P "_law_numbers" 642 337,kR P "law" 664 344]
def K(P:Params):Frag:=
 (nat_lit 3,kD (kE P "__name__" 165 hvf::hen P) 61)::
 (nat_lit 52,hc7 "is_whole" "is_whole" 234 238 10 1 47)::
 (nat_lit 53,kF "is_whole" "is_whole" YC hvb<|.ref 52)::
 (nat_lit 59,hc7 "is_within" "is_within" 243 249 13 3 54)::
 (nat_lit 60,kF "is_within" "is_within" ZI hvc<|.ref 59)::
 (nat_lit 64,hc5 "is_row" "is_row" 252 15 2 61)::
 (nat_lit 65,kF "is_row" "is_row" Vj hvc<|.ref 64)::
 (nat_lit 71,hc7 "nothing_fails" "nothing_fails" 258 265 17 1 66)::
 (nat_lit 72,kF "nothing_fails" "nothing_fails" wq hvc<|.ref 71)::
 (nat_lit 78,hc7 "parting_fails" "parting_fails" 268 277 24 1 73)::
 (nat_lit 79,kF "parting_fails" "parting_fails" wu hvc<|.ref 78)::
 (nat_lit 85,hc7 "doing_fails" "doing_fails" 280 293 33 3 80)::
 (nat_lit 86,kF "doing_fails" "doing_fails" vm hvc<|.ref 85)::
 (nat_lit 92,hc7 "deeds_fail" "deeds_fail" 296 304 44 1 87)::
 (nat_lit 93,kF "deeds_fail" "deeds_fail" vV hvc<|.ref 92)::
 (nat_lit 99,hc7 "what_fails" "what_fails" 307 312 53 1 94)::
 (nat_lit 100,kF "what_fails" "what_fails" vU hvc<|.ref 99)::
 (nat_lit 106,hc7 "check_let_by" "check_let_by" 315 320 60 1 101)::
 (nat_lit 107,kF "check_let_by" "check_let_by" wI hvc<|.ref 106)::
 (nat_lit 111,hc5 "all_steps" "all_steps" 325 65 1 108)::
 (nat_lit 112,kF "all_steps" "all_steps" ZE hvd<|.ref 111)::
 (nat_lit 116,hc5 "numbered" "numbered" 333 73 1 113)::
 (nat_lit 117,kF "numbered" "numbered" Yi hve<|.ref 116)::
 (nat_lit 121,hc5 "signs_of" "signs_of" 339 78 2 118)::
 (nat_lit 122,kF "signs_of" "signs_of" YG hve<|.ref 121)::
 (nat_lit 126,hc5 "class_numbers" "class_numbers" 345 80 1 123)::
 (nat_lit 127,kF "class_numbers" "class_numbers" wt hve<|.ref 126)::
 (nat_lit 131,hc5 "least_algebra" "least_algebra" 351 89 1 128)::
 (nat_lit 132,kF "least_algebra" "least_algebra" wx hve<|.ref 131)::
 (nat_lit 136,hc5 "names_of" "names_of" 357 97 1 133)::
 (nat_lit 137,kF "names_of" "names_of" Yy hve<|.ref 136)::
 (nat_lit 143,hc7 "are_akin" "are_akin" 363 368 99 2 138)::
 (nat_lit 144,kF "are_akin" "are_akin" Ye hve<|.ref 143)::
 (nat_lit 150,hc7 "keeps_join" "keeps_join" 371 379 103 3 145)::
 (nat_lit 151,kF "keeps_join" "keeps_join" v5 hve<|.ref 150)::
 (nat_lit 155,hc5 "keeps_rows" "keeps_rows" 382 109 3 152)::
 (nat_lit 156,kF "keeps_rows" "keeps_rows" vW hve<|.ref 155)::
 (nat_lit 160,hc5 "keeps_sign" "keeps_sign" 388 114 3 157)::
 (nat_lit 161,kF "keeps_sign" "keeps_sign" Za hve<|.ref 160)::
 (nat_lit 165,hc5 "is_picture" "is_picture" 394 116 3 162)::
 (nat_lit 166,kF "is_picture" "is_picture" Zb hve<|.ref 165)::
 (nat_lit 172,hc7 "_law_cell_at" "_law_cell_at" 402 407 125 2 167)::
 (nat_lit 173,kF "_law_cell_at" "_law_cell_at" vv hvf<|.ref 172)::
 (nat_lit 179,hc7 "_law_whole" "_law_whole" 410 414 129 1 174)::
 (nat_lit 180,kF "_law_whole" "_law_whole" Xp hvf<|.ref 179)::
 (nat_lit 186,hc7 "_law_stream" "_law_stream" 417 425 131 2 181)::
 (nat_lit 187,kF "_law_stream" "_law_stream" vP hvf<|.ref 186)::
 (nat_lit 191,hc5 "_law_names" "_law_names" 428 138 2 188)::
 (nat_lit 192,kF "_law_names" "_law_names" ZF hvf<|.ref 191)::
 (nat_lit 198,hc7 "_law_divisor" "_law_divisor" 434 439 147 2 193)::
 (nat_lit 199,kF "_law_divisor" "_law_divisor" vg hvf<|.ref 198)::
 (nat_lit 203,hc5 "_law_sums" "_law_sums" 442 151 3 200)::
 (nat_lit 204,kF "_law_sums" "_law_sums" Yp hvf<|.ref 203)::
 (nat_lit 208,hc5 "_law_rising" "_law_rising" 448 157 3 205)::
 (nat_lit 209,kF "_law_rising" "_law_rising" vT hvf<|.ref 208)::
 (nat_lit 213,hc5 "_law_kept" "_law_kept" 454 161 3 210)::
 (nat_lit 214,kF "_law_kept" "_law_kept" Yb hvf<|.ref 213)::
 (nat_lit 218,hc5 "_law_joins" "_law_joins" 460 164 2 215)::
 (nat_lit 219,kF "_law_joins" "_law_joins" Zu hvf<|.ref 218)::
 (nat_lit 223,hc5 "_law_rows" "_law_rows" 466 175 4 220)::
 (nat_lit 224,kF "_law_rows" "_law_rows" YB hvf<|.ref 223)::
 (nat_lit 228,hc5 "_law_plain" "_law_plain" 472 183 5 225)::
 (nat_lit 229,kF "_law_plain" "_law_plain" Zt hvf<|.ref 228)::
 (nat_lit 233,hc5 "_law_beside" "_law_beside" 478 186 3 230)::
 (nat_lit 234,kF "_law_beside" "_law_beside" v3 hvf<|.ref 233)::
 (nat_lit 240,hc7 "_law_made" "_law_made" 484 495 205 3 235)::
 (nat_lit 241,kF "_law_made" "_law_made" Yo hvf<|.ref 240)::
 (nat_lit 247,hc7 "_law_order" "_law_order" 498 506 218 2 242)::
 (nat_lit 248,kF "_law_order" "_law_order" Zx hvf<|.ref 247)::
 (nat_lit 252,hc5 "_law_signs" "_law_signs" 509 224 3 249)::
 (nat_lit 253,kF "_law_signs" "_law_signs" ZL hvf<|.ref 252)::
 (nat_lit 257,hc5 "_law_algebra" "_law_algebra" 515 229 2 254)::
 (nat_lit 258,kF "_law_algebra" "_law_algebra" vt hvf<|.ref 257)::
 (nat_lit 264,hc7 "_law_parting" "_law_parting" 521 530 247 3 259)::
 (nat_lit 265,kF "_law_parting" "_law_parting" vq hvf<|.ref 264)::
 (nat_lit 271,hc7 "_law_doing" "_law_doing" 533 548 257 5 266)::
 (nat_lit 272,kF "_law_doing" "_law_doing" ZH hvf<|.ref 271)::
 (nat_lit 278,hc7 "_law_fails" "_law_fails" 551 564 266 1 273)::
 (nat_lit 279,kF "_law_fails" "_law_fails" Zv hvf<|.ref 278)::
 (nat_lit 285,hc7 "_law_good" "_law_good" 567 572 275 1 280)::
 (nat_lit 286,kF "_law_good" "_law_good" Yq hvf<|.ref 285)::
 (nat_lit 290,hc5 "_law_bent" "_law_bent" 575 280 2 287)::
 (nat_lit 291,kF "_law_bent" "_law_bent" Yk hvf<|.ref 290)::
 (nat_lit 297,hc7 "_law_digits" "_law_digits" 581 589 294 3 292)::
 (nat_lit 298,kF "_law_digits" "_law_digits" vZ hvf<|.ref 297)::
 (nat_lit 302,hc5 "_law_by_digits" "_law_by_digits" 592 300 2 299)::
 (nat_lit 303,kF "_law_by_digits" "_law_by_digits" wo hvf<|.ref 302)::
 (nat_lit 309,hc7 "_law_any" "_law_any" 598 604 309 1 304)::
 (nat_lit 310,kF "_law_any" "_law_any" XT hvf<|.ref 309)::
 (nat_lit 314,hc5 "_law_few" "_law_few" 607 315 2 311)::
 (nat_lit 315,kF "_law_few" "_law_few" XZ hvf<|.ref 314)::
 (nat_lit 319,hc5 "_law_renamed" "_law_renamed" 613 322 2 316)::
 (nat_lit 320,kF "_law_renamed" "_law_renamed" vz hvf<|.ref 319)::
 (nat_lit 324,hc5 "_law_other" "_law_other" 619 329 2 321)::
 (nat_lit 325,kF "_law_other" "_law_other" Zw hvf<|.ref 324)::
 (nat_lit 329,hc5 "_law_is_picture" "_law_is_picture" 625 345 3 326)::
 (nat_lit 330,kF "_law_is_picture" "_law_is_picture" yL hvf<|.ref 329)::
 (nat_lit 336,hc7 "_law_numbers" "_law_numbers" 631 640 365 3 331)::
 (nat_lit 337,kF "_law_numbers" "_law_numbers" vo hvf<|.ref 336)::
 (nat_lit 343,hc7 "law" "law" 643 662 370 1 338)::
 (nat_lit 344,kF "law" "law" Fz hvf<|.ref 343)::
 []
def kA:List Addr:=[3,52,53,59,60,64,65,71,72,78,79,85,86,92,93,99,100,106,107,111,112,116,117,121,122,126,127,131,132,136,137,143,144,150,151,155,156,160,161,165,166,172,173,179,180,186,187,191,192,198,199,203,204,208,209,213,214,218,219,223,224,228,229,233,234,240,241,247,248,252,253,257,258,264,265,271,272,278,279,285,286,290,291,297,298,302,303,309,310,314,315,319,320,324,325,329,330,336,337,343,344]
def qv:Program:={hpg with main:={hpg.main with body:=[1,2,4,6,7,8,9,10,11,12,13,15,17,18,19,20,21,22,23,24,25,26,28,29,30,31,32,33,34,35,36,37,38,39,40,41,42,43,44,45,46,47,48,49,50,51,52,53,54,55,56,57].map top}}
theorem kAe(P:Params):kA=(K P).map (·.1):=by kernel_rfl
set_option maxRecDepth 100000
theorem ws:PySem.Challenge.rw_stretchdeeds_k55_pictures.wellSaid=true:=by kernel_rfl
abbrev Xt(s:Shared):Bool:=xlAt qv [] s&&recOk (RowW.records<|OpenRow.toRowW PySem.Challenge.rw_stretchdeeds_k55_pictures.row) s
abbrev hk:Hook:=kHook K kA kAe
def htp(l:List Value):Obj:=⟨.type "tuple",none,.seq l.toArray 0,#[]⟩
def htx:Nat->List Str->List Value
 |_,[]=>[]
 |t,x::l=>.str x t::htx (t+1) l
noncomputable def hfO(a t:Nat)(r:Str)(v:Value)(s:Stmt):List Obj:=match s with
 | .FunctionDef n p b _ _ _ c _ _ o=>
  let q:=r++n;let S:Obj:=⟨.none,none,.func {name:=n,qualname:=q,params:=p,body:=.stmts b,scope:=c,globals:=0,closure:=[],defaults:=.none,kwdefaults:=.none},#[]⟩
  match localNames p c (.stmts b) with
  |some (x,_)=>[htp [],hfl .none [],htp<|htx (t+3) x,htp [],S,hc7 n q t (t+3+x.length) o.line p.args.length a,kF n q s v<|.ref<|a+5]
  |none=>[htp [],hfl .none [],S,hc5 n q t o.line p.args.length a,kF n q s v<|.ref<|a+3]
 |_=>[]
noncomputable def htk(s:Stmt):Nat:=match s with
 | .FunctionDef _ p b _ _ _ c _ _ _=>match localNames p c (.stmts b) with
  |some (x,_)=>6+x.length
  |none=>6
 |_=>0
noncomputable def hms(P:Params)(c:Str)(v:Value):Nat->Nat->List Stmt->List Obj×List DictEntry×List Value×Nat
 |_,t,[]=>([],[],[],t)
 |a,t,s::r=>match s with
  | .FunctionDef n _ _ _ _ _ _ _ _ o=>let f:=hfO a t (c++".") v s;let l:=a+f.length;let u:=t+htk s;let z:=hms P c v l u r;(f++z.1,kR P n (u-1) (l-1)::z.2.1,.int o.line 0:: .int 4 0:: .ref (l-2)::z.2.2.1,z.2.2.2)
  |_=>hms P c v a t r
def hfm(a b:Addr)(v:Value):Obj:=⟨.type "frame",none,.plain,#[some<|.ref a,some<|.ref 3,some<|.ref b,none,some v,none,some<|.ref 0]⟩
def hbf(x:String)(v:Value):Obj:=hfl (.type "builtin_function_or_method") [.builtin x,v]
def hgd(x:Str)(t:Nat)(c:Addr)(g s:Value):Obj:=hfl (.type "getset_descriptor") [.str x t,.ref c,g,s]
noncomputable def hcO(P:Params)(a t:Nat)(v:Value)(bv mr sb:List Value)(nw:String)(d:Nat)(s:Stmt):List Obj:=match s with
 | .ClassDef n _ _ b _ _ _ _ _ sa o=>
  let m:=hms P n v (a+7) (t+12) b;let e:=a+7+m.1.length;let k:=m.2.2.2+sa.length;let z:=k+1;let C:=e+2
  let x:=kE P "__module__" (t+7) v;let f:=kE P "__firstlineno__" (t+11)<|.int o.line<|t+10;let y:=kR P "__static_attributes__" k e
  let W:=λt:Nat=>hgd "__weakref__" t C (.builtin "ExceptionGroup.__weakref__") .none
  let D:List DictEntry×List Obj:=match d with
   |0=>([],[])
   |1=>([kR P "__weakref__" (z+1)<|C+1],[W z])
   |_=>([kR P "__dict__" (z+1)<|C+1,kR P "__weakref__" (z+3)<|C+2],[hgd "__dict__" z C (.builtin "function.__dict__")<|.builtin "function.__dict__#set",W<|z+2])
  [htp bv,hbf "type.__prepare__" (.type "type"),kD (x::kE P "__qualname__" (t+9) (.str n<|t+8)::f::m.2.1++[y])<|4+m.2.1.length,htp [],hfl .none m.2.2.1,hco n n (t+2) (t+5) o.line 0 0 false (a+3) .none .none .none,hfm (a+5) (a+2) v]++m.1++[htp<|htx m.2.2.2 sa,kD (x::f::m.2.1++y::D.1++[kE P "__doc__" (z+2*d) .none])<|2+d,⟨.type "type",none,.cls {name:=n,bases:=if bv.isEmpty then [.type "object"] else bv,mro:=.ref C::mr,ns:=e+1,qualname:=n,hasDict:=true,slotNames:=[],subclasses:=sb},#[if bv.isEmpty then none else some<|.ref a,none,some<|.str n t,some<|.str n<|t+8,some<|.builtin nw,some<|.bool true]⟩]++D.2++[hfl (.type "super") [.ref C,.ref C,.ref C],hbf "object.__init_subclass__" (.ref C)]
 |_=>[]
def hcs:List (Int×Addr):=[(2,20),(4,33),(10,52),(13,59),(15,64),(17,71),(24,78),(33,85),(44,92),(53,99),(60,106),(65,111),(73,116),(78,121),(80,126),(89,131),(97,136),(99,143),(103,150),(109,155),(114,160),(116,165),(125,172),(129,179),(131,186),(138,191),(147,198),(151,203),(157,208),(161,213),(164,218),(175,223),(183,228),(186,233),(205,240),(218,247),(224,252),(229,257),(247,264),(257,271),(266,278),(275,285),(280,290),(294,297),(300,302),(309,309),(315,314),(322,319),(329,324),(345,329),(365,336),(370,343)]
noncomputable def hhp(P:Params)(v:Value)(g c:Nat)(l:List Obj):Heap:=⟨⟨boot_o_0 P::boot_o_1 P::boot_o_2 P::kD (kE P "__name__" 165 v::(hen P).take g) (g+1)::boot_o_4 P::boot_o_5 P::boot_o_6 P::boot_o_7 P::boot_o_8 P::boot_o_9 P::boot_o_10 P::htp []::hfl .none ((hcs.take c).flatMap λp=>[.int p.1 0,.int 0 0,.ref p.2])::hco "<module>" "<module>" 182 185 1 0 0 false 11 .none .none .none::hfm 13 3 (.str "__main__" 164)::l⟩,(boot_heap P).life⟩
abbrev hbd:=behindTheImports hpg
abbrev hev:Env:={scope:=hpg.main.scope,locals:=mainNs,globals:=mainNs,cells:=[],code:=.ref 13,frame:=some 14}
abbrev hcd:Code:=.body hbd hev
noncomputable abbrev hSh(t:Nat)(h:Heap)(o:OsState):Shared:=⟨h,⟨[]⟩,boot_drawn,t,o⟩
def hl0(P:Params):List Obj:=hcO P 15 189 hva [(.type "ValueError")] hem [(.ref 44)] "ValueError.__new__" 1 (top 1)++hcO P 28 207 hva [(.ref 24)] ((.ref 24)::hem) [] "ValueError.__new__" 0 (top 2)++hfO 47 234 "" hvb (top 4)++hfO 54 243 "" hvc (top 6)++hfO 61 252 "" hvc (top 7)++hfO 66 258 "" hvc (top 8)++hfO 73 268 "" hvc (top 9)++hfO 80 280 "" hvc (top 10)++hfO 87 296 "" hvc (top 11)++hfO 94 307 "" hvc (top 12)++hfO 101 315 "" hvc (top 13)++hfO 108 325 "" hvd (top 15)++hfO 113 333 "" hve (top 17)++hfO 118 339 "" hve (top 18)++hfO 123 345 "" hve (top 19)++hfO 128 351 "" hve (top 20)++hfO 133 357 "" hve (top 21)++hfO 138 363 "" hve (top 22)++hfO 145 371 "" hve (top 23)
def hl1(P:Params):List Obj:=hl0 P++hfO 152 382 "" hve (top 24)++hfO 157 388 "" hve (top 25)++hfO 162 394 "" hve (top 26)++hfO 167 402 "" hvf (top 28)++hfO 174 410 "" hvf (top 29)++hfO 181 417 "" hvf (top 30)++hfO 188 428 "" hvf (top 31)++hfO 193 434 "" hvf (top 32)++hfO 200 442 "" hvf (top 33)++hfO 205 448 "" hvf (top 34)++hfO 210 454 "" hvf (top 35)++hfO 215 460 "" hvf (top 36)++hfO 220 466 "" hvf (top 37)++hfO 225 472 "" hvf (top 38)++hfO 230 478 "" hvf (top 39)++hfO 235 484 "" hvf (top 40)++hfO 242 498 "" hvf (top 41)++hfO 249 509 "" hvf (top 42)++hfO 254 515 "" hvf (top 43)++hfO 259 521 "" hvf (top 44)++hfO 266 533 "" hvf (top 45)++hfO 273 551 "" hvf (top 46)++hfO 280 567 "" hvf (top 47)++hfO 287 575 "" hvf (top 48)++hfO 292 581 "" hvf (top 49)++hfO 299 592 "" hvf (top 50)++hfO 304 598 "" hvf (top 51)++hfO 311 607 "" hvf (top 52)++hfO 316 613 "" hvf (top 53)++hfO 321 619 "" hvf (top 54)++hfO 326 625 "" hvf (top 55)++hfO 331 631 "" hvf (top 56)++hfO 338 643 "" hvf (top 57)
theorem hr0(w:World)(o:OsState):topGo treeTable hpg w 11 (some<|.ref 6) 12 (hSh boot_toks (boot_heap w.params) o) (topStub hpg)=some (hSh 187 (hhp w.params (.str "__main__" 164) 8 0 []) o,⟨denote treeTable hcd,hcd,⟨0,0,0,0⟩,[topFrame ⟨0,0,0,0⟩]⟩):=by kernel_rfl
theorem hr1(w:World)(o:OsState):segRun treeTable hpg w 11 (some<|.ref 6) 1 1 (hSh 187 (hhp w.params (.str "__main__" 164) 8 0 []) o) (blockOf hbd hev hcd ⟨0,0,0,0⟩ [topFrame ⟨0,0,0,0⟩])=some (.next,hSh 187 (hhp w.params (.str "__main__" 164) 8 0 []) o,hcd,⟨0,0,0,0⟩):=by kernel_rfl
theorem hs0(w:World)(o:OsState):segRun treeTable hpg w 11 (some<|.ref 6) 1 979 (hSh 187 (hhp w.params (.str "__main__" 164) 8 0 []) o) (piecesOf (hbd.take 24) hev hcd ⟨0,0,0,0⟩ [topFrame ⟨0,0,0,0⟩])=some (.next,hSh 382 (hhp w.params hve 27 19<|hl0 w.params) o,hcd,⟨103,0,108,38⟩):=by kernel_rfl
abbrev hb0:=hbd.drop 24
theorem hs1(w:World)(o:OsState):topRun treeTable hpg w 11 (some<|.ref 6) 981 (hSh 382 (hhp w.params hve 27 19<|hl0 w.params) o) (restOf hb0 hev hcd ⟨103,0,108,38⟩ [topFrame ⟨0,0,0,0⟩])=some (hSh 665 (hhp w.params hvf 60 52<|hl1 w.params) o):=by kernel_rfl
theorem hpa{w:World}{n N t t':Nat}{h h':Heap}{o:OsState}{r:Shared}{b:List Stmt}(m:Nat){p p':Pos}(x:segRun treeTable hpg w 11 (some<|.ref 6) 1 n (hSh t h o) (piecesOf (b.take m) hev hcd p [topFrame ⟨0,0,0,0⟩])=some (.next,hSh t' h' o,hcd,p'))(y:topRun treeTable hpg w 11 (some<|.ref 6) N (hSh t' h' o) (restOf (b.drop m) hev hcd p' [topFrame ⟨0,0,0,0⟩])=some r):topRun treeTable hpg w 11 (some<|.ref 6) (n+N) (hSh t h o) (restOf b hev hcd p [topFrame ⟨0,0,0,0⟩])=some r:=by
 have z:=piece_app x y;rwa[List.take_append_drop] at z
theorem hhr(w:World)(o:OsState):topRun treeTable hpg w 11 (some<|.ref 6) (12+(1+(979+981))) (hSh boot_toks (boot_heap w.params) o) (topStub hpg)=some (hSh 665 (hhp w.params hvf 60 52<|hl1 w.params) o):=go_top (hr0 w o)<|piece_block (hr1 w o)<|hpa _ (hs0 w o)<|hs1 w o
def hhf(P:Params):Heap:=hhp P hvf 60 52<|hl1 P
theorem hhq(w:World):(λo=>((staticsOk (importedModules hpg.main.body) (boot_heap w.params) (hhf w.params)&&namesBound hpg (hhf w.params)&&gensDone (hSh 665 (hhf w.params) o)&&laidKept (boot_heap w.params) (hhf w.params)),openSeen qv [] (importedModules hpg.main.body) Xt true<|hSh 665 (hhf w.params) o,hk.obs<|hSh 665 (hhf w.params) o))=λ_=>(true,openGood qv [],hk.val w):=by kernel_rfl
theorem hl:LeftO PySem.Challenge.pw_stretchdeeds_k55_pictures qv [] Xt hk.obs hk.val 6000:=LeftO.of_pieces (H₀:=boot_heap) (H₁:=hhf) (boot_open (by kernel_rfl) rfl λ_=>by kernel_rfl) (λ_=>by kernel_rfl) hhr rfl hhq
end G55
end
section
namespace PF
open PySem PySem.Spec PyProof.Rows L2
abbrev St:=L2.St
structure KD where
 d:Addr->List (Key×V)->Prop
 c:Str->Addr
instance:CoeFun KD (λ_=>Addr->List (Key×V)->Prop):=⟨KD.d⟩
inductive D where
 |non|bl (b:Bool)|int (i:Int)|str (x:Str)|tup (ds:List D)|lst (ds:List D)|dct (kvs:List (Key×D))|cl (c:Str)|ob (c:Str) (ns:List Str) (ds:List D)|dt (ks:List (List Key)) (ds:List D)|er (c an:Str) (d:D)
def XB(a C dx:Addr):Heap->Prop:=λh=>∃o,h.get? a=some o/\o.cls = .ref C/\o.dict=some dx/\∃vs,o.data = .fields vs
mutual
inductive Rp(K:zzA)(kd:KD)(O:Addr->Prop)(H:Hp):V->D->Prop
 |non:Rp K kd O H .non .non
 |bl (b:Bool):Rp K kd O H (.bl b) (.bl b)
 |int (i:Int):Rp K kd O H (.int i) (.int i)
 |str (x:Str):Rp K kd O H (.str x) (.str x)
 |tup {a:Addr}{vs:List V}{ds:List D}:¬O a->H a=some (.tup vs)->RpL K kd O H vs ds->Rp K kd O H (.ref a) (.tup ds)
 |lst {a:Addr}{vs:List V}{ds:List D}:¬O a->Rd H a (.lst vs)->RpL K kd O H vs ds->Rp K kd O H (.ref a) (.lst ds)
 |lstK {a:Addr}{its:Array Value}{n:Nat}{vs:List V}{ds:List D}:K.lookup a=some {cls:=.type "list",data:=.seq its n}->its.size<=sizeLine->ya vs its.toList->RpL K kd O H vs ds->Rp K kd O H (.ref a) (.lst ds)
 |dct {a:Addr}{kvs:List (Key×V)}{ds:List (Key×D)}:¬O a->Rd H a (.dK kvs)->RpM K kd O H kvs ds->Rp K kd O H (.ref a) (.dct ds)
 |dctK {a:Addr}{kvs:List (Key×V)}{ds:List (Key×D)}:kd a kvs->RpM K kd O H kvs ds->Rp K kd O H (.ref a) (.dct ds)
 |cl (c:Str):Rp K kd O H (.ref (kd.c c)) (.cl c)
 |ob {a dx:Addr}{c:Str}{ns:List Str}{vs:List V}{ds:List D}:¬O a->H a=some (.ins (kd.c c) dx (ns.zip vs))->ns.length=vs.length->RpL K kd O H vs ds->Rp K kd O H (.ref a) (.ob c ns ds)
 |dt {a:Addr}{ks:List (List Key)}{vs:List V}{ds:List D}:¬O a->H a=some (.dT (ks.zip vs))->ks.length=vs.length->RpL K kd O H vs ds->Rp K kd O H (.ref a) (.dt ks ds)
 |er {a dx:Addr}{c an:Str}{v:V}{d:D}:¬O a->¬O dx->H a=some (.ext (XB a (kd.c c) dx))->H dx=some (.xd [(an,v)])->Rp K kd O H v d->Rp K kd O H (.ref a) (.er c an d)
inductive RpL(K:zzA)(kd:KD)(O:Addr->Prop)(H:Hp):List V->List D->Prop
 |nil:RpL K kd O H [] []
 |cons {v:V}{d:D}{vs:List V}{ds:List D}:Rp K kd O H v d->RpL K kd O H vs ds->RpL K kd O H (v::vs) (d::ds)
inductive RpM(K:zzA)(kd:KD)(O:Addr->Prop)(H:Hp):List (Key×V)->List (Key×D)->Prop
 |nil:RpM K kd O H [] []
 |cons {k:Key}{v:V}{d:D}{vs:List (Key×V)}{ds:List (Key×D)}:Rp K kd O H v d->RpM K kd O H vs ds->RpM K kd O H ((k,v)::vs) ((k,d)::ds)
end
structure Grow(W:Addr->Prop)(H:Hp)(W':Addr->Prop)(H':Hp):Prop where
 keep:∀b o,H b=some o->¬W b->H' b=some o
 own:∀b,W' b->W b\/H b=none
def Grow.refl:Grow W H W H:=⟨λ_ _ h _=>h,λ_ h=>.inl h⟩
def Grow.trans(a:Grow W H W1 H1)(b:Grow W1 H1 W2 H2):Grow W H W2 H2 where
 keep:=λx o h n=>b.keep x o (a.keep x o h n) λq=>(a.own x q).elim n λz=>by rw[z]at h;cases h
 own:=λx q=>by
  rcases b.own x q with h|h
  . exact a.own x h
  . cases e:H x with
    |none=>exact .inr rfl
    |some o=>
     refine .inl<|Classical.byContradiction λn=>?_;rw[a.keep x o e n]at h;cases h
def Grow.less(h:∀a,W' a->W a):Grow W H W' H:=⟨λ_ _ q _=>q,λb q=>.inl<|h b q⟩
abbrev QA(F W:Addr->Prop):Addr->Prop:=λa=>F a\/W a
section
variable{K:zzA}{kd:KD}{F W W':Addr->Prop}{H H':Hp}
def Vt(g:Grow W H W' H')(n:¬W a)(h:Rd H a u):Rd H' a u:=by
 rcases h with h|⟨o,h⟩
 . exact .inl<|g.keep _ _ h n
 . exact .inr ⟨o,g.keep _ _ h n⟩
def CJ(h:Rd H a u):H a≠none:=by
 rcases h with h|⟨o,h⟩<;>(rw[h];simp)
def Zi(g:Grow W H W' H')(n:¬QA F W a)(h:Rd H a u):¬QA F W' a:=λq=>
 q.elim (λz=>n<|.inl z) λz=>(g.own a z).elim (λy=>n<|.inr y) λy=>CJ h y
def Rp.grow(g:Grow W H W' H')(h:Rp K kd (QA F W) H v d):Rp K kd (QA F W') H' v d:=
 Rp.rec .non .bl .int .str (λn h _ r=>.tup (Zi g n<|.inl h) (g.keep _ _ h λz=>n<|.inr z) r) (λn h _ r=>.lst (Zi g n h) (Vt g (λz=>n<|.inr z) h) r) (λa e f _ r=>.lstK a e f r) (λn h _ r=>.dct (Zi g n h) (Vt g (λz=>n<|.inr z) h) r) (λh _ r=>.dctK h r) .cl (λn h l _ r=>.ob (Zi g n<|.inl h) (g.keep _ _ h λz=>n<|.inr z) l r) (λn h l _ r=>.dt (Zi g n<|.inl h) (g.keep _ _ h λz=>n<|.inr z) l r) (λn m h k _ r=>.er (Zi g n<|.inl h) (Zi g m<|.inl k) (g.keep _ _ h λz=>n<|.inr z) (g.keep _ _ k λz=>m<|.inr z) r) .nil (λ_ _ h r=>.cons h r) .nil (λ_ _ h r=>.cons h r) h
def RpL.ind{O}{P:List V->List D->Prop}(h0:P [] [])(h1:∀{v d vs ds},Rp K kd O H v d->RpL K kd O H vs ds->P vs ds->P (v::vs) (d::ds)){vs}{ds}(h:RpL K kd O H vs ds):P vs ds:=
 RpL.rec (motive_1:=λ_ _ _=>True) (motive_3:=λ_ _ _=>True) ⟨⟩ (λ_=>⟨⟩) (λ_=>⟨⟩) (λ_=>⟨⟩) (λ_ _ _ _=>⟨⟩) (λ_ _ _ _=>⟨⟩) (λ_ _ _ _ _=>⟨⟩) (λ_ _ _ _=>⟨⟩) (λ_ _ _=>⟨⟩) (λ_=>⟨⟩) (λ_ _ _ _ _=>⟨⟩) (λ_ _ _ _ _=>⟨⟩) (λ_ _ _ _ _ _=>⟨⟩) h0 (λa r _ ih=>h1 a r ih) ⟨⟩ (λ_ _ _ _=>⟨⟩) h
def RpM.ind{O}{P:List (Key×V)->List (Key×D)->Prop}(h0:P [] [])(h1:∀{k v d vs ds},Rp K kd O H v d->RpM K kd O H vs ds->P vs ds->P ((k,v)::vs) ((k,d)::ds)){vs}{ds}(h:RpM K kd O H vs ds):P vs ds:=
 RpM.rec (motive_1:=λ_ _ _=>True) (motive_2:=λ_ _ _=>True) ⟨⟩ (λ_=>⟨⟩) (λ_=>⟨⟩) (λ_=>⟨⟩) (λ_ _ _ _=>⟨⟩) (λ_ _ _ _=>⟨⟩) (λ_ _ _ _ _=>⟨⟩) (λ_ _ _ _=>⟨⟩) (λ_ _ _=>⟨⟩) (λ_=>⟨⟩) (λ_ _ _ _ _=>⟨⟩) (λ_ _ _ _ _=>⟨⟩) (λ_ _ _ _ _ _=>⟨⟩) ⟨⟩ (λ_ _ _ _=>⟨⟩) h0 (λa r _ ih=>h1 a r ih) h
theorem RpL.grow(g:Grow W H W' H'){vs:List V}{ds}(h:RpL K kd (QA F W) H vs ds):RpL K kd (QA F W') H' vs ds:=RpL.ind .nil (λa _ r=>.cons (Rp.grow g a) r) h
def Rp.less(g:∀a,O' a->O a)(h:Rp K kd O H v d):Rp K kd O' H v d:=
 Rp.rec .non .bl .int .str (λn h _ r=>.tup (λz=>n<|g _ z) h r) (λn h _ r=>.lst (λz=>n<|g _ z) h r) (λa e f _ r=>.lstK a e f r) (λn h _ r=>.dct (λz=>n<|g _ z) h r) (λh _ r=>.dctK h r) .cl (λn h l _ r=>.ob (λz=>n<|g _ z) h l r) (λn h l _ r=>.dt (λz=>n<|g _ z) h l r) (λn m h k _ r=>.er (λz=>n<|g _ z) (λz=>m<|g _ z) h k r) .nil (λ_ _ h r=>.cons h r) .nil (λ_ _ h r=>.cons h r) h
theorem RpL.less{O O':Addr->Prop}(g:∀a,O' a->O a){vs}{ds}(h:RpL K kd O H vs ds):RpL K kd O' H vs ds:=RpL.ind .nil (λa _ r=>.cons (Rp.less g a) r) h
theorem RpM.less{O O':Addr->Prop}(g:∀a,O' a->O a){vs}{ds}(h:RpM K kd O H vs ds):RpM K kd O' H vs ds:=RpM.ind .nil (λa _ r=>.cons (Rp.less g a) r) h
theorem RpL.length{O:Addr->Prop}{vs}{ds}(h:RpL K kd O H vs ds):vs.length=ds.length:=RpL.ind (P:=λvs ds=>vs.length=ds.length) rfl (λ_ _ r=>congrArg (· + 1) r) h
theorem RpM.length{O:Addr->Prop}{vs}{ds}(h:RpM K kd O H vs ds):vs.length=ds.length:=RpM.ind (P:=λvs ds=>vs.length=ds.length) rfl (λ_ _ r=>congrArg (· + 1) r) h
def RpL.get{O}{vs:List V}{ds}{i:Nat}{d}(h:RpL K kd O H vs ds)(e:ds[i]? = some d):∃v,vs[i]? = some v/\Rp K kd O H v d:=
 RpL.ind (P:=λvs ds=>∀i,ds[i]? = some d->∃v,vs[i]? = some v/\Rp K kd O H v d) (λi e=>by rw[List.getElem?_nil]at e;cases e) (λa _ ih i e=>by
  cases i with
  |zero=>cases e;exact⟨_,rfl,a⟩
  |succ i=>exact ih i e) h i e
def RpL.append{O:Addr->Prop}{vs ws}{ds es}(h:RpL K kd O H vs ds)(r:RpL K kd O H ws es):RpL K kd O H (vs++ws) (ds++es):=RpL.ind (P:=λvs ds=>RpL K kd O H (vs++ws)<|ds++es) r (λa _ t=>.cons a t) h
theorem RpL.take{O:Addr->Prop}{vs}{ds}(n:Nat)(h:RpL K kd O H vs ds):RpL K kd O H (vs.take n) (ds.take n):=
 RpL.ind (P:=λvs ds=>∀n,RpL K kd O H (vs.take n)<|ds.take n) (λn=>by rw[List.take_nil,List.take_nil];exact .nil) (λa _ ih n=>by
  cases n with
  |zero=>exact .nil
  |succ n=>exact .cons a (ih n)) h n
theorem RpL.drop{O:Addr->Prop}{vs}{ds}(n:Nat)(h:RpL K kd O H vs ds):RpL K kd O H (vs.drop n) (ds.drop n):=
 RpL.ind (P:=λvs ds=>∀n,RpL K kd O H (vs.drop n)<|ds.drop n) (λn=>by rw[List.drop_nil,List.drop_nil];exact .nil) (λa b ih n=>by
  cases n with
  |zero=>exact .cons a b
  |succ n=>exact ih n) h n
theorem RpL.rep(h:RpL K kd O H vs ds):∀k:Nat,RpL K kd O H (List.replicate k vs).flatten (List.replicate k ds).flatten
 |0=>.nil
 |k+1=>by
  rw[List.replicate_succ,List.replicate_succ,List.flatten_cons,List.flatten_cons];exact h.append<|RpL.rep h k
end
inductive Vw(K:zzA)(kd:KD)(O:Addr->Prop)(H:Hp):V->D->Prop
 |non:Vw K kd O H .non .non
 |bl (b:Bool):Vw K kd O H (.bl b) (.bl b)
 |int (i:Int):Vw K kd O H (.int i) (.int i)
 |str (x:Str):Vw K kd O H (.str x) (.str x)
 |tup {a:Addr}{vs:List V}{ds:List D}:Rp K kd O H (.ref a) (.tup ds)->Qy K H a vs->RpL K kd O H vs ds->Vw K kd O H (.ref a) (.tup ds)
 |lst {a:Addr}{vs:List V}{ds:List D}:Sw K H a vs->RpL K kd O H vs ds->Vw K kd O H (.ref a) (.lst ds)
 |dct {a:Addr}{kvs:List (Key×V)}{ds:List (Key×D)}:(Rd H a (.dK kvs)\/kd a kvs)->RpM K kd O H kvs ds->Vw K kd O H (.ref a) (.dct ds)
 |cl (c:Str):Vw K kd O H (.ref (kd.c c)) (.cl c)
 |ob {a dx:Addr}{c:Str}{ns:List Str}{vs:List V}{ds:List D}:H a=some (.ins (kd.c c) dx (ns.zip vs))->ns.length=vs.length->RpL K kd O H vs ds->Vw K kd O H (.ref a) (.ob c ns ds)
 |dt {a:Addr}{ks:List (List Key)}{vs:List V}{ds:List D}:H a=some (.dT (ks.zip vs))->ks.length=vs.length->RpL K kd O H vs ds->Vw K kd O H (.ref a) (.dt ks ds)
 |er {a dx:Addr}{c an:Str}{v:V}{d:D}:H a=some (.ext (XB a (kd.c c) dx))->H dx=some (.xd [(an,v)])->Rp K kd O H v d->Vw K kd O H (.ref a) (.er c an d)
def Rp.vw{K}{kd}{O}{H}{v}{d}(h:Rp K kd O H v d):Vw K kd O H v d:=by
 cases h with
 |non=>exact .non
 |bl b=>exact .bl b
 |int i=>exact .int i
 |str x=>exact .str x
 |tup n h r=>exact .tup (.tup n h r) (.inl<|.inl h) r
 |lst n h r=>exact .lst (.inl h) r
 |lstK a e f r=>exact .lst (.inr ⟨_,_,a,e,f⟩) r
 |dct n h r=>exact .dct (.inl h) r
 |dctK h r=>exact .dct (.inr h) r
 |cl c=>exact .cl c
 |ob n h l r=>exact .ob h l r
 |dt n h l r=>exact .dt h l r
 |er n m h k r=>exact .er h k r
def _root_.L2.Sw.sq{K}{H}{a}{xs}(h:Sw K H a xs):YM K H a xs:=by
 rcases h with h|⟨its,n,k,z,r⟩
 . exact .inl h
 . exact .inr ⟨_,its,n,k,rfl,rfl,rfl,z,r⟩
def EY(I:Inv X pins σ H s)(h:Sw X.K H a xs):
 xs.length<=sizeLine/\∃(its:List Value) (n:Nat),ya xs its/\s.heap.get? a=some {cls:=.type "list",data:=.seq its.toArray n}:=by
 rcases h with h|⟨its,n,k,z,r⟩
 . exact h.ok I.hok
 . refine⟨by rw[r.length];simpa using z,its.toList,n,r,by simpa using I.kIn _ _ k⟩
def Rp.cl_eq{K}{kd}{O}{H}{C}{c}(h:Rp K kd O H (.ref C) (.cl c)):C=kd.c c:=by
 cases h;rfl
def yr:D->Bool
 | .non=>true | .bl _=>true | .int _=>true | .str _=>true|_=>false
def Rp.flat{K}{kd}{O O'}{H H'}{v}{d}(h:Rp K kd O H v d)(e:yr d=true):Rp K kd O' H' v d:=by
 cases h with
 |non=>exact .non
 |bl b=>exact .bl b
 |int i=>exact .int i
 |str x=>exact .str x
 |_=>cases e
inductive Kind where
 |ls|tp|dc (ks:List Key)|ob (c:Str) (ns:List Str)|dt (ks:List (List Key))
inductive O where
 |lf (st:Bool) (d:D)|nd (k:Kind) (os:List O)
abbrev MN(st:Bool)(d:D):O:=.lf (yr d||st) d
mutual
inductive Ro(L:Bool->V->D->Prop)(N:Addr->Prop)(H:Hp):V->O->List Addr->Prop
 |lf {st:Bool}{v:V}{d:D}:L st v d->Ro L N H v (.lf st d) []
 |ls {a:Addr}{vs:List V}{os:List O}{fp:List Addr}:H a=some (.lst vs)->RoL L N H vs os fp->Ro L N H (.ref a) (.nd .ls os) (a::fp)
 |dc {a:Addr}{ks:List Key}{vs:List V}{os:List O}{fp:List Addr}:H a=some (.dK (ks.zip vs))->ks.length=vs.length->RoL L N H vs os fp->Ro L N H (.ref a) (.nd (.dc ks) os) (a::fp)
 |ob {a dx C:Addr}{c:Str}{ns:List Str}{vs:List V}{os:List O}{fp:List Addr}:L true (.ref C) (.cl c)->H a=some (.ins C dx (ns.zip vs))->ns.length=vs.length->RoL L N H vs os fp->Ro L N H (.ref a) (.nd (.ob c ns) os) (a::fp)
 |dt {a:Addr}{ks:List (List Key)}{vs:List V}{os:List O}{fp:List Addr}:H a=some (.dT (ks.zip vs))->ks.length=vs.length->RoL L N H vs os fp->Ro L N H (.ref a) (.nd (.dt ks) os) (a::fp)
 |tp {a:Addr}{vs:List V}{os:List O}{fp:List Addr}:N a->H a=some (.tup vs)->RoL L N H vs os fp->Ro L N H (.ref a) (.nd .tp os) fp
inductive RoL(L:Bool->V->D->Prop)(N:Addr->Prop)(H:Hp):List V->List O->List Addr->Prop
 |nil:RoL L N H [] [] []
 |cons {v:V}{o:O}{vs:List V}{os:List O}{fp fq:List Addr}:Ro L N H v o fp->RoL L N H vs os fq->RoL L N H (v::vs) (o::os) (fp++fq)
end
mutual
def O.toD:O->D
 | .lf _ d=>d
 | .nd .ls os=>.lst<|O.toDs os
 | .nd .tp os=>.tup<|O.toDs os
 | .nd (.dc ks) os=>.dct<|ks.zip<|O.toDs os
 | .nd (.ob c ns) os=>.ob c ns<|O.toDs os
 | .nd (.dt ks) os=>.dt ks<|O.toDs os
def O.toDs:List O->List D
 | []=>[]
 |o::r=>o.toD::O.toDs r
end
mutual
def O.str:O->Bool
 | .lf st _=>st
 | .nd _ os=>O.strs os
def O.strs:List O->Bool
 | []=>true
 |o::r=>o.str&&O.strs r
end
section
variable{L L':Bool->V->D->Prop}{N N':Addr->Prop}{H H':Hp}{K:zzA}{kd:KD}{Ob:Addr->Prop}
def Ro.mono(hL:∀st v d,L st v d->L' st v d)(hN:∀a vs,N a->H a=some (.tup vs)->N' a/\H' a=some (.tup vs))(k:∀a ∈ fp,∀u,H a=some u->H' a=some u)(h:Ro L N H v o fp):Ro L' N' H' v o fp:=
 Ro.rec (motive_2:=λvs os fp _=>(∀a ∈ fp,∀u,H a=some u->H' a=some u)->RoL L' N' H' vs os fp)
  (λh _=>.lf<|hL _ _ _ h) (λh _ r k=>.ls (k _ zzF _ h)<|r λa m=>k a<|zzD _ m) (λh l _ r k=>.dc (k _ zzF _ h) l<|r λa m=>k a<|zzD _ m) (λc h l _ r k=>.ob (hL _ _ _ c) (k _ zzF _ h) l<|r λa m=>k a<|zzD _ m) (λh l _ r k=>.dt (k _ zzF _ h) l<|r λa m=>k a<|zzD _ m) (λn h _ r k=>.tp (hN _ _ n h).1 (hN _ _ n h).2<|r k)
  (λ_=>.nil) (λ_ _ h r k=>.cons (h λa m=>k a<|zzP _ m)<|r λa m=>k a<|zzL _ m) h k
def RoL.ind{P:List V->List O->List Addr->Prop}(h0:P [] [] [])(h1:∀{v o vs os fp fq},Ro L N H v o fp->RoL L N H vs os fq->P vs os fq->P (v::vs) (o::os) (fp++fq)){vs}{os}{fp}(h:RoL L N H vs os fp):P vs os fp:=
 RoL.rec (motive_1:=λ_ _ _ _=>True) (λ_=>⟨⟩) (λ_ _ _=>⟨⟩) (λ_ _ _ _=>⟨⟩) (λ_ _ _ _ _=>⟨⟩) (λ_ _ _ _=>⟨⟩) (λ_ _ _ _=>⟨⟩) h0 (λa r _ ih=>h1 a r ih) h
theorem RoL.mono(hL:∀st v d,L st v d->L' st v d)(hN:∀a vs,N a->H a=some (.tup vs)->N' a/\H' a=some (.tup vs)){vs:List V}{os}{fp}(k:∀a ∈ fp,∀u,H a=some u->H' a=some u)(h:RoL L N H vs os fp):RoL L' N' H' vs os fp:=
 RoL.ind (P:=λvs os fp=>(∀a ∈ fp,∀u,H a=some u->H' a=some u)->RoL L' N' H' vs os fp) (λ_=>.nil) (λh _ r k=>.cons (Ro.mono hL hN (λa m=>k a<|zzP _ m) h)<|r λa m=>k a<|zzL _ m) h k
theorem Ry:∀{ks:List Key}{vs:List V}{ds:List D},RpL K kd Ob H vs ds->ks.length=vs.length->RpM K kd Ob H (ks.zip vs) (ks.zip ds)
 | [],_,_,_,_=>.nil
 |_::_,_,_,.nil,e=>by simp at e
 |_::_,_,_,.cons h r,e=>.cons h (Ry r<|by simpa using e)
def Ro.rp(b)(hL:∀st v d,(b=true->st=true)->L st v d->Rp K kd Ob H v d)(hN:∀a,N a->¬Ob a){v}{o}{fp}(s:b=true->o.str=true)(k:∀a ∈ fp,¬Ob a)(h:Ro L N H v o fp):Rp K kd Ob H v o.toD:=
 Ro.rec (motive_2:=λvs os fp _=>(b=true->O.strs os=true)->(∀a ∈ fp,¬Ob a)->RpL K kd Ob H vs (O.toDs os))
  (λh s _=>hL _ _ _ s h) (λh _ r s k=>.lst (k _ zzF) (.inl h)<|r s λa m=>k a<|zzD _ m) (λh l _ r s k=>.dct (k _ zzF) (.inl h)<|Ry (r s λa m=>k a<|zzD _ m) l) (λc h l _ r s k=>by
   have e:=(hL _ _ _ (λ_=>rfl) c).cl_eq;subst e;exact .ob (k _ zzF) h l<|r s λa m=>k a<|zzD _ m) (λh l _ r s k=>.dt (k _ zzF) h l<|r s λa m=>k a<|zzD _ m) (λn h _ r s k=>.tup (hN _ n) h<|r s k)
  (λ_ _=>.nil) (λ_ _ h r s k=>.cons (h (λz=>((zyC _ _).mp<|s z).1) λa m=>k a<|zzP _ m)<|r (λz=>((zyC _ _).mp<|s z).2) λa m=>k a<|zzL _ m) h s k
theorem RoL.rp(b:Bool)(hL:∀st v d,(b=true->st=true)->L st v d->Rp K kd Ob H v d)(hN:∀a,N a->¬Ob a){vs}{os}{fp}(s:b=true->O.strs os=true)(k:∀a ∈ fp,¬Ob a)(h:RoL L N H vs os fp):RpL K kd Ob H vs (O.toDs os):=
 RoL.ind (P:=λvs os fp=>(b=true->O.strs os=true)->(∀a ∈ fp,¬Ob a)->RpL K kd Ob H vs (O.toDs os)) (λ_ _=>.nil) (λh _ r s k=>.cons (Ro.rp b hL hN (λz=>((zyC _ _).mp<|s z).1) (λa m=>k a<|zzP _ m) h)<|r (λz=>((zyC _ _).mp<|s z).2) λa m=>k a<|zzL _ m) h s k
theorem RoL.length{vs:List V}{os}{fp}(h:RoL L N H vs os fp):vs.length=os.length:=RoL.ind (P:=λvs os _=>vs.length=os.length) rfl (λ_ _ r=>congrArg (· + 1) r) h
theorem XD:∀os:List O,(O.toDs os).length=os.length
 | []=>rfl
 |_::r=>congrArg (· + 1)<|XD r
def RoL.append{vs ws:List V}{os ps}{f g}(h:RoL L N H vs os f)(r:RoL L N H ws ps g):RoL L N H (vs++ws) (os++ps) (f++g):=RoL.ind (P:=λvs os f=>RoL L N H (vs++ws) (os++ps)<|f++g) r (λh _ t=>by rw[zxD];exact .cons h t) h
def RoL.one(h:Ro L N H v o f):RoL L N H [v] [o] f:=by
 have:=RoL.cons h<|RoL.nil;rw[zyE]at this;exact this
def RoL.at_:∀{vs:List V}{os:List O}{fp:List Addr},RoL L N H vs os fp->os[k]? = some o->∃v f fo g,vs[k]? = some v/\fp=f++(fo++g)/\Ro L N H v o fo/\RoL L N H (vs.take k) (os.take k) f/\RoL L N H (vs.drop<|k+1) (os.drop<|k+1) g:=by
 induction k with
 |zero=>
  intro vs os fp h e;cases h with
  |nil=>cases e
  |cons h r=>
   rw[List.getElem?_cons_zero]at e;cases e;exact⟨_,[],_,_,rfl,rfl,h,.nil,r⟩
 |succ k ih=>
  intro vs os fp h e;cases h with
  |nil=>cases e
  |cons h r=>
   rw[List.getElem?_cons_succ]at e;obtain⟨v,f,fo,g,e1,e2,h1,h2,h3⟩:=ih r e;subst e2;exact⟨v,_,fo,g,by rw[List.getElem?_cons_succ];exact e1,(zxD _ _ _).symm,h1,.cons h h2,h3⟩
def Ue(l:List α)(k:Nat):l.eraseIdx k=l.take k++l.drop (k+1):=List.eraseIdx_eq_take_drop_succ l k
end
abbrev AS:=List<|Option O
abbrev Ad:=Nat->List Addr
def Gw(T:List Addr)(ad:Ad):Addr->Prop:=λa=>a ∈ T\/∃i,a ∈ ad i
abbrev Lv(F B G:Addr->Prop)(st:Bool):Addr->Prop:=QA (λa=>(st=true/\F a)\/B a) G
abbrev Lf(K:zzA)(kd:KD)(F B G:Addr->Prop)(H:Hp):Bool->V->D->Prop:=λst v d=>Rp K kd (Lv F B G st) H v d
abbrev Nf(F B G:Addr->Prop):Addr->Prop:=λa=>¬Lv F B G true a
abbrev Zj(K:zzA)(kd:KD)(F B G:Addr->Prop)(H:Hp):V->O->List Addr->Prop:=Ro (Lf K kd F B G H) (Nf F B G) H
abbrev vQ(K:zzA)(kd:KD)(F B G:Addr->Prop)(H:Hp):List V->List O->List Addr->Prop:=RoL (Lf K kd F B G H) (Nf F B G) H
def P2(K:zzA)(kd:KD)(F B G:Addr->Prop)(H:Hp):Option O->Option (Option V)->List Addr->Prop
 |none,_,fp=>fp=[]
 |some o,s,fp=>∃v,s=some (some v)/\Zj K kd F B G H v o fp
structure Rel(K:zzA)(kd:KD)(F B:Addr->Prop)(T:List Addr)(ad:Ad)(as:AS)(σ:St)(H:Hp):Prop where
 len:as.length=σ.length
 out:∀i,as.length<=i->ad i=[]
 nd:∀i,(ad i).Nodup
 inj:∀i j a,a ∈ ad i->a ∈ ad j->i=j
 tnd:T.Nodup
 dis:∀i a,a ∈ ad i->a ∉ T
 ftr:∀a,F a->H a≠none
 btr:∀a,B a->H a≠none/\¬F a/\¬Gw T ad a
 gtr:∀a,Gw T ad a->H a≠none/\¬F a
 sl:∀i s,as[i]? = some s->P2 K kd F B (Gw T ad) H s σ[i]? (ad i)
inductive RV where
 |ow (o:O)|bo (i:Nat)
def xh(K:zzA)(kd:KD)(F B:Addr->Prop)(T:List Addr)(ad:Ad)(σ:St)(H:Hp)(v:V):RV->Prop
 | .ow o=>Zj K kd F B (Gw T ad) H v o T
 | .bo i=>T=[]/\σ[i]? = some (some v)
def O.frz(o:O):O:=.lf o.str o.toD
def RV.frz:RV->RV
 | .ow o=>.ow o.frz
 | .bo i=>.bo i
def O.isLf:O->Bool
 | .lf _ _=>true
 |_=>false
def O.kl:O->Option Bool
 | .lf st _=>some st
 | .nd _ os=>if os.all O.isLf=true then some (O.strs os)else none
def RV.view(as:AS):RV->Option (D×Option Bool)
 | .ow o=>some (o.toD,some o.str)
 | .bo i=>match as[i]? with
  |some (some o)=>some (o.toD,o.kl)
  |_=>none
def Vd(F B G:Addr->Prop):Option Bool->Addr->Prop
 |some st=>Lv F B G st
 |none=>λ_=>False
section
variable{K:zzA}{kd:KD}{F B F' B':Addr->Prop}{G G':Addr->Prop}{T T':List Addr}{ad ad1:Ad}{as as1:AS}{σ:St}{H H1 H':Hp}{v:V}{r:RV}{o:O}{fp:List Addr}{vs:List V}{os:List O}
theorem Zj.grow(g:Grow G H G' H')(k:∀a ∈ fp,∀u,H a=some u->H' a=some u)(h:Zj K kd F B G H v o fp):Zj K kd F B G' H' v o fp:=
 Ro.mono (λst v d r=>Rp.grow g r) (λa vs n e=>⟨λz=>z.elim (λy=>n<|.inl y) λy=>(g.own a y).elim (λw=>n<|.inr w) λw=>(by rw[w]at e;cases e),g.keep a _ e λw=>n<|.inr w⟩) k h
theorem vQ.grow(g:Grow G H G' H')(k:∀a ∈ fp,∀u,H a=some u->H' a=some u)(h:vQ K kd F B G H vs os fp):vQ K kd F B G' H' vs os fp:=
 RoL.mono (λst v d r=>Rp.grow g r) (λa vs n e=>⟨λz=>z.elim (λy=>n<|.inl y) λy=>(g.own a y).elim (λw=>n<|.inr w) λw=>(by rw[w]at e;cases e),g.keep a _ e λw=>n<|.inr w⟩) k h
def Zj.lv(g:∀st a,Lv F' B' G' st a->Lv F B G st a)(h:Zj K kd F B G H v o fp):Zj K kd F' B' G' H v o fp:=
 Ro.mono (λst v d r=>r.less<|g st) (λa vs n e=>⟨λz=>n<|g true a z,e⟩) (λ_ _ _ e=>e) h
def vQ.lv(g:∀st a,Lv F' B' G' st a->Lv F B G st a)(h:vQ K kd F B G H vs os fp):vQ K kd F' B' G' H vs os fp:=
 RoL.mono (λst v d r=>r.less<|g st) (λa vs n e=>⟨λz=>n<|g true a z,e⟩) (λ_ _ _ e=>e) h
def Zj.less(g:∀a,G' a->G a)(h:Zj K kd F B G H v o fp):Zj K kd F B G' H v o fp:=Zj.lv (λ_ a z=>z.elim .inl λy=>.inr<|g a y) h
def Gw.drop:∀a,Gw [] ad a->Gw T ad a:=λ_ h=>h.elim (λz=>nomatch z) .inr
def Rel.trk(R:Rel K kd F B T ad as σ H)(st):∀a,Lv F B (Gw T ad) st a->H a≠none:=λa h=>by
 rcases h with(h|h)|h
 . exact R.ftr a h.2
 . exact(R.btr a h).1
 . exact(R.gtr a h).1
def Rel.tr(R:Rel K kd F B T ad as σ H)(lv):∀a,Vd F B (Gw T ad) lv a->H a≠none:=λa h=>by
 cases lv with
 |none=>exact h.elim
 |some st=>exact R.trk st a h
theorem P2.lv(g:∀st a,Lv F' B' G' st a->Lv F B G st a)(h:P2 K kd F B G H s x fp):P2 K kd F' B' G' H s x fp:=by
 cases s with
 |none=>exact h
 |some o=>obtain⟨v,e,r⟩:=h;exact⟨v,e,Zj.lv g r⟩
def P2.less(g:∀a,G' a->G a)(h:P2 K kd F B G H s x fp):P2 K kd F B G' H s x fp:=h.lv λ_ a z=>z.elim .inl λy=>.inr<|g a y
theorem P2.grow(g:Grow G H G' H')(k:∀a ∈ fp,∀u,H a=some u->H' a=some u)(h:P2 K kd F B G H s x fp):P2 K kd F B G' H' s x fp:=by
 cases s with
 |none=>exact h
 |some o=>obtain⟨v,e,r⟩:=h;exact⟨v,e,Zj.grow g k r⟩
theorem Rel.drop(R:Rel K kd F B T ad as σ H):Rel K kd F B [] ad as σ H where
 len:=R.len
 out:=R.out
 nd:=R.nd
 inj:=R.inj
 tnd:=zyJ
 dis:=λ_ _ _ z=>nomatch z
 ftr:=R.ftr
 btr:=λa h=>let⟨h1,h2,h3⟩:=R.btr a h;⟨h1,h2,λz=>h3<|Gw.drop a z⟩
 gtr:=λa h=>R.gtr a (Gw.drop a h)
 sl:=λi s e=>(R.sl i s e).less Gw.drop
def ES(R:Rel K kd F B T ad as σ H)(h:Zj K kd F B (Gw T ad) H v o T):Rp K kd (Lv F B (Gw [] ad) o.str) H v o.toD:=
 Ro.rp o.str (λst v d hs r=>r.less λa z=>z.elim (λy=>.inl<|y.elim (λx=>.inl ⟨hs x.1,x.2⟩) .inr) λy=>.inr<|Gw.drop a y)
  (λa n z=>n<|z.elim (λy=>.inl<|y.elim (λx=>.inl ⟨rfl,x.2⟩) .inr) λy=>.inr<|Gw.drop a y) id
  (λa m z=>by
   rcases z with(z|z)|z|⟨i,z⟩
   . exact(R.gtr a<|.inl m).2 z.2
   . exact(R.btr a z).2.2<|.inl m
   . cases z
   . exact R.dis i a z m) h
def xh.drop(R:Rel K kd F B T ad as σ H)(h:xh K kd F B T ad σ H v r):xh K kd F B [] ad σ H v r.frz:=by
 cases r with
 |ow o=>exact .lf (ES R h)
 |bo i=>exact⟨rfl,h.2⟩
theorem xh.grow(g:Grow (Gw [] ad) H (Gw [] ad1) H1)(h:xh K kd F B [] ad σ H v r):xh K kd F B [] ad1 σ H1 v r:=by
 cases r with
 |ow o=>exact Zj.grow g (λ_ m=>nomatch m) h
 |bo i=>exact h
def Ca(h:vQ K kd F B G H vs os fp):os.all O.isLf=true->fp=[]:=
 RoL.ind (P:=λ_ os fp=>os.all O.isLf=true->fp=[]) (λ_=>rfl) (λh _ ih e=>by
  rw[List.all_cons,zyC]at e;rw[ih e.2,zyE];cases h with
  |lf=>rfl
  |ls=>cases e.1
  |dc=>cases e.1
  |ob=>cases e.1
  |dt=>cases e.1
  |tp=>cases e.1) h
def PB{st}{b}(hs:b=true->st=true):∀a,Lv F B G b a->Lv F B G st a:=λa z=>z.elim (λy=>.inl<|y.elim (λx=>.inl ⟨hs x.1,x.2⟩) .inr) .inr
def QY(h:vQ K kd F B G H vs os fp)(e:os.all O.isLf=true):RpL K kd (Lv F B G<|O.strs os) H vs (O.toDs os):=by
 have:=Ca h e;subst this;exact RoL.rp (O.strs os) (λst v d hs r=>r.less<|PB hs) (λa n z=>n<|PB (λ_=>rfl) a z) id (by intro a m;cases m) h
def XU(h:vQ K kd F B G H vs os fp):RpL K kd (λ_=>False) H vs (O.toDs os):=RoL.rp false (λst v d _ r=>r.less λ_ z=>z.elim) (λ_ _ z=>z) (λz=>Bool.noConfusion z) (λ_ _ z=>z) h
def KO(h:Zj K kd F B G H v o fp):Rp K kd (λ_=>False) H v o.toD:=Ro.rp false (λst v d _ r=>r.less λ_ z=>z.elim) (λ_ _ z=>z) (λz=>Bool.noConfusion z) (λ_ _ z=>z) h
def KY(h:Zj K kd F B G H v o []):Rp K kd (Lv F B G o.str) H v o.toD:=
 Ro.rp o.str (λst v d hs r=>r.less<|PB hs) (λa n z=>n<|PB (λ_=>rfl) a z) id (by intro a m;cases m) h
theorem Zj.vw(h:Zj K kd F B G H v o fp):Vw K kd (Vd F B G o.kl) H v o.toD:=by
 cases h with
 |lf h=>exact h.vw
 |ls hH r=>
  rename_i a vs' os' fp';show Vw K kd (Vd F B G (if os'.all O.isLf=true then some _ else none)) H _ _
  by_cases e:os'.all O.isLf=true
  . rw[if_pos e];exact .lst (.inl<|.inl hH)<|QY r e
  . rw[if_neg e];exact .lst (.inl<|.inl hH) (XU r)
 |dc hH l r=>
  rename_i a ks vs' os' fp';show Vw K kd (Vd F B G (if os'.all O.isLf=true then some _ else none)) H _ _
  by_cases e:os'.all O.isLf=true
  . rw[if_pos e];exact .dct (.inl<|.inl hH)<|Ry (QY r e) l
  . rw[if_neg e];exact .dct (.inl<|.inl hH) (Ry (XU r) l)
 |ob hc hH l r=>
  rename_i a dx C c ns vs' os' fp';have ec:=hc.cl_eq;subst ec;show Vw K kd (Vd F B G (if os'.all O.isLf=true then some _ else none)) H _ _
  by_cases e:os'.all O.isLf=true
  . rw[if_pos e];exact .ob hH l<|QY r e
  . rw[if_neg e];exact .ob hH l (XU r)
 |dt hH l r=>
  rename_i a ks vs' os' fp';show Vw K kd (Vd F B G (if os'.all O.isLf=true then some _ else none)) H _ _
  by_cases e:os'.all O.isLf=true
  . rw[if_pos e];exact .dt hH l<|QY r e
  . rw[if_neg e];exact .dt hH l (XU r)
 |tp n hH r=>
  rename_i a vs' os';show Vw K kd (Vd F B G (if os'.all O.isLf=true then some _ else none)) H _ _
  by_cases e:os'.all O.isLf=true
  . rw[if_pos e];have rl:=QY r e;exact .tup (.tup (λz=>n<|PB (λ_=>rfl) _ z) hH rl) (.inl<|.inl hH) rl
  . rw[if_neg e];exact .tup (.tup (λz=>z) hH<|XU r) (.inl<|.inl hH)<|XU r
theorem xh.vw(R:Rel K kd F B [] ad as σ H)(h:xh K kd F B [] ad σ H v r)(e:r.view as=some (d,lv)):Vw K kd (Vd F B (Gw [] ad) lv) H v d:=by
 cases r with
 |ow o=>
  cases e;exact(KY h).vw
 |bo i=>
  have e:(match as[i]? with|some (some o)=>some (o.toD,o.kl)|_=>none)=some (d,lv):=e;cases k:as[i]? with
  |none=>rw[k]at e;cases e
  |some s=>
   cases s with
   |none=>rw[k]at e;cases e
   |some o=>
    rw[k]at e;cases e;obtain⟨w,hw,ro⟩:=R.sl i _ k;rw[h.2]at hw;cases hw;exact ro.vw
def Rel.add(R:Rel K kd F B T ad as σ H)(hn:N.Nodup)(hl:∀a ∈ N,H a=none)(k:∀b u,H b=some u->H' b=some u)(h1:∀a ∈ N,H' a≠none):Rel K kd F B (N++T) ad as σ H'/\Grow (Gw T ad) H (Gw (N++T) ad) H':=by
 have g:Grow (Gw T ad) H (Gw (N++T) ad) H':=⟨λb u h _=>k b u h,λb h=>by
  rcases h with h|h
  . rcases zzM.mp h with h|h
    . exact .inr<|hl b h
    . exact .inl<|.inl h
  . exact .inl<|.inr h⟩
 have kn:∀a,H a≠none->H' a≠none:=λa z=>by
  cases e:H a with
  |none=>exact absurd e z
  |some u=>rw[k a u e];simp
 refine⟨⟨R.len,R.out,R.nd,R.inj, ?_,λi a m z=>?_,λa z=>kn a<|R.ftr a z,λa z=>?_,λa z=>?_,λi s e=>(R.sl i s e).grow g λa _ u h=>k a u h⟩,g⟩
 . refine zxF.mpr ⟨hn,R.tnd,λa m b m' e=>?_⟩;subst e;exact(R.gtr a<|.inl m').1<|hl a m
 . rcases zzM.mp z with z|z
   . exact(R.gtr a<|.inr ⟨i,m⟩).1<|hl a z
   . exact R.dis i a m z
 . obtain⟨b1,b2,b3⟩:=R.btr a z;refine⟨kn a b1,b2,λy=>?_⟩
   rcases y with y|y
   . rcases zzM.mp y with y|y
     . exact b1<|hl a y
     . exact b3<|.inl y
   . exact b3<|.inr y
 . rcases z with z|z
   . rcases zzM.mp z with z|z
     . exact⟨h1 a z,λf=>R.ftr a f<|hl a z⟩
     . exact⟨kn a (R.gtr a<|.inl z).1,(R.gtr a<|.inl z).2⟩
   . exact⟨kn a (R.gtr a<|.inr z).1,(R.gtr a<|.inr z).2⟩
def Rel.more(R:Rel K kd F B T ad as σ H)(k:∀b u,H b=some u->H' b=some u):Rel K kd F B T ad as σ H'/\Grow (Gw T ad) H (Gw T ad) H':=
 R.add zyJ (λ_ m=>nomatch m) k (λ_ m=>nomatch m)
def Rel.news(R:Rel K kd F B [] ad as σ H)(hn:T'.Nodup)(hl:∀a ∈ T',H a=none)(k:∀b u,H b=some u->H' b=some u)(h1:∀a ∈ T',H' a≠none):Rel K kd F B T' ad as σ H'/\Grow (Gw [] ad) H (Gw T' ad) H':=by
 have:=R.add hn hl k h1;rw[zyE]at this;exact this
end
inductive R0 where
 |im (d:D)|fl (ds:List D)|fd (kvs:List (Key×D))
def RQ(K:zzA)(kd:KD)(O:Addr->Prop)(H:Hp)(Q:VK):R0->Prop
 | .im d=>∀v H',(∀b o,H b=some o->H' b=some o)->Rp K kd O H' v d->Q v H'
 | .fl ds=>∀l vs H',H l=none->(∀b o,H b=some o->H' b=some o)->H' l=some (.lst vs)->RpL K kd (QA O (· = l)) H' vs ds->Q (.ref l) H'
 | .fd ds=>∀l vs H',H l=none->(∀b o,H b=some o->H' b=some o)->H' l=some (.dK vs)->RpM K kd (QA O (· = l)) H' vs ds->Q (.ref l) H'
def wrap(lv:Option Bool):R0->Option RV
 | .im d=>if(yr d||lv.isSome)=true then some (.ow<|MN (lv.getD false) d)else none
 | .fl ds=>if(ds.all yr||lv.isSome)=true then some (.ow<|.nd .ls<|ds.map<|MN<|lv.getD false)else none
 | .fd kvs=>if((kvs.map (·.2)).all yr||lv.isSome)=true then some (.ow (.nd (.dc (kvs.map (·.1))) ((kvs.map (·.2)).map<|MN<|lv.getD false)))else none
def bS_(h:o.bind f=some b):∃a,o=some a/\f a=some b:=by
 cases o with
 |none=>cases h
 |some a=>exact⟨a,rfl,h⟩
def ite_some'[Decidable c](h:(if c then a else none)=some b):c/\a=some b:=by
 by_cases hc:c
 . rw[if_pos hc]at h;exact⟨hc,h⟩
 . rw[if_neg hc]at h;cases h
def zT[Decidable c](h:(if c then some a else none)=some b):c/\a=b:=by
 by_cases hc:c
 . rw[if_pos hc]at h;cases h;exact⟨hc,rfl⟩
 . rw[if_neg hc]at h;cases h
section
variable{K:zzA}{kd:KD}{F B:Addr->Prop}{G:Addr->Prop}{ad:Ad}{as:AS}{σ:St}{H H':Hp}{v:V}{r:R0}{rv:RV}{Q:VK}{lv:Option Bool}
def JB(h:yr d=true\/lv.isSome=true)(hO:∀st,lv=some st->∀a,Lv F B G st a->Ob a)(rp:Rp K kd Ob H v d):Lf K kd F B G H (yr d||lv.getD false) v d:=by
 cases e:yr d with
 |true=>exact rp.flat e
 |false=>
  rw[e]at h;cases lv with
  |none=>rcases h with h|h<;>cases h
  |some st=>exact rp.less (hO st rfl)
def HQ(hO:∀st,lv=some st->∀a,Lv F B G st a->Ob a)(e:(ds.all yr||lv.isSome)=true)(h:RpL K kd Ob H vs ds):RoL (Lf K kd F B G H) N H vs (ds.map<|MN<|lv.getD false) []:=
 RpL.ind (P:=λvs ds=>(ds.all yr||lv.isSome)=true->RoL (Lf K kd F B G H) N H vs (ds.map<|MN<|lv.getD false) []) (λ_=>.nil) (λ{v d vs ds} h _ ih e=>by
  rw[List.all_cons]at e;have e1:yr d=true\/lv.isSome=true:=by
   cases h1:lv.isSome<;>cases h2:yr d<;>simp[h1,h2]at e ⊢
  have e2:(ds.all yr||lv.isSome)=true:=by
   cases h1:lv.isSome with
   |true=>simp
   |false=>
    rw[h1,Bool.or_false,zyC]at e;rw[Bool.or_false];exact e.2
  exact RoL.cons (.lf<|JB e1 hO h)<|ih e2) h e
def B4{O}{vs}{ds}(h:RpM K kd O H vs ds):vs=(ds.map (·.1)).zip (vs.map (·.2))/\RpL K kd O H (vs.map (·.2)) (ds.map (·.2)):=
 RpM.ind (P:=λvs ds=>vs=(ds.map (·.1)).zip (vs.map (·.2))/\RpL K kd O H (vs.map (·.2)) (ds.map (·.2))) ⟨rfl,.nil⟩ (λh _ ih=>by
  obtain⟨h1,h2⟩:=ih;refine⟨?_,.cons h h2⟩
  conv=>lhs;rw[h1]
  rfl) h
def wJ(R:Rel K kd F B [] ad as σ H)(e:wrap lv r=some rv)(q:∀v T' H',Rel K kd F B T' ad as σ H'->xh K kd F B T' ad σ H' v rv->Grow (Gw [] ad) H (Gw T' ad) H'->Q v H'):RQ K kd (Vd F B (Gw [] ad) lv) H Q r:=by
 have hO:∀(l:List Addr) st,lv=some st->∀a,Lv F B (Gw l ad) st a->QA (Vd F B (Gw [] ad) lv) (· ∈ l) a:=by
  intro l st e a z;subst e
  rcases z with z|z|z
  . exact .inl<|.inl z
  . exact .inr z
  . exact .inl<|.inr<|.inr z
 cases r with
 |im d=>
  obtain⟨c,rfl⟩:=zT e;intro v H' k rp;obtain⟨R',g⟩:=R.more k;refine q v [] H' R' (.lf<|JB ((Bool.or_eq_true _ _).mp c) (λst e a z=>?_) rp) g;exact(hO [] st e a z).elim id λm=>nomatch m
 |fl ds=>
  obtain⟨c,rfl⟩:=zT e;intro l vs H' hl k hl' rp;obtain⟨R',g⟩:=R.news (T':=[l]) (by simp) (λa m=>by rw[zzR.mp m];exact hl) k (λa m=>by rw[zzR.mp m,hl'];simp);exact q _ [l] H' R' (.ls hl'<|HQ (λst e a z=>(hO [l] st e a z).elim .inl λm=>.inr<|zzR.mp m) c rp) g
 |fd ds=>
  obtain⟨c,rfl⟩:=zT e;intro l vs H' hl k hl' rp;obtain⟨R',g⟩:=R.news (T':=[l]) (by simp) (λa m=>by rw[zzR.mp m];exact hl) k (λa m=>by rw[zzR.mp m,hl'];simp);obtain⟨e1,r1⟩:=B4 rp;refine q _ [l] H' R' (.dc (by rw[hl',<-e1]) (by rw[zzB,zzB,rp.length])<|HQ (λst e a z=>(hO [l] st e a z).elim .inl λm=>.inr<|zzR.mp m) c r1) g
end
abbrev EF:=AS->Option (RV×AS)
def al(K:zzA)(kd:KD)(f:EF):TE:=λσ H Q=>∃F B ad as r as',Rel K kd F B [] ad as σ H/\f as=some (r,as')/\
 ∀v T' ad' H',Rel K kd F B T' ad' as' σ H'->xh K kd F B T' ad' σ H' v r->Grow (Gw [] ad) H (Gw T' ad') H'->Q v H'
@[irreducible] def AE(X:Cx)(kd:KD)(e:Expr)(f:EF):Prop:=PE X e<|al X.K kd f
def yH(h:PE X e t)(k:∀σ H Q,t' σ H Q->t σ H Q):PE X e t':=λpins s σ H Q I q=>h pins s σ H Q I<|k σ H Q q
section
variable{K:zzA}{kd:KD}{F B:Addr->Prop}{ad:Ad}{as as1:AS}{σ:St}{H:Hp}{r:RV}{f:EF}{P:VK}
def x_(R:Rel K kd F B [] ad as σ H)(e:f as=some (r,as1))(k:∀v ad1 H1,Rel K kd F B [] ad1 as1 σ H1->xh K kd F B [] ad1 σ H1 v r.frz->Grow (Gw [] ad) H (Gw [] ad1) H1->P v H1):al K kd f σ H P:=
 ⟨F,B,ad,as,r,as1,R,e,λv T' ad' H' R' rv g=>k v ad' H' R'.drop (xh.drop R' rv)<|g.trans<|Grow.less Gw.drop⟩
end
def ID(X:Cx)(kd:KD)(f:Value->Value->Sem Value)(g:D->D->Option R0):Prop:=
 Qw X f (λx y H Q=>∃O d e r,(∀a,O a->H a≠none)/\Vw X.K kd O H x d/\Vw X.K kd O H y e/\g d e=some r/\RQ X.K kd O H Q r)
def pK(X:Cx)(kd:KD)(f:Value->Sem Value)(g:D->Option R0):Prop:=
 sP X f (λx H Q=>∃O d r,(∀a,O a->H a≠none)/\Vw X.K kd O H x d/\g d=some r/\RQ X.K kd O H Q r)
inductive VwL(K:zzA)(kd:KD)(O:Addr->Prop)(H:Hp):List V->List D->Prop
 |nil:VwL K kd O H [] []
 |cons {v:V}{d:D}{vs:List V}{ds:List D}:Vw K kd O H v d->VwL K kd O H vs ds->VwL K kd O H (v::vs) (d::ds)
def Y8(X:Cx)(kd:KD)(f:Value)(g:List D->Option R0):Prop:=
 Xv X f (λxs H Q=>∃O ds r,(∀a,O a->H a≠none)/\VwL X.K kd O H xs ds/\g ds=some r/\RQ X.K kd O H Q r)
def qr(X:Cx)(kd:KD)(g:D->D->Option R0):Prop:=
 tJ X (λx y H Q=>∃O d e r,(∀a,O a->H a≠none)/\Vw X.K kd O H x d/\Vw X.K kd O H y e/\g d e=some r/\RQ X.K kd O H Q r)
def meet:Option Bool->Option Bool->Option Bool
 |some a,some b=>some (a&&b)
 |_,_=>none
def Vd.meet1:∀x,Vd F B G (meet a b) x->Vd F B G a x:=λx h=>by
 cases a with
 |none=>cases b<;>exact h.elim
 |some p=>
  cases b with
  |none=>exact h.elim
  |some q=>exact PB (λz=>((zyC _ _).mp z).1) x h
def Vd.meet2:∀x,Vd F B G (meet a b) x->Vd F B G b x:=λx h=>by
 cases a with
 |none=>cases b<;>exact h.elim
 |some p=>
  cases b with
  |none=>exact h.elim
  |some q=>exact PB (λz=>((zyC _ _).mp z).2) x h
theorem Vw.less{K}{kd}{O O'}{H}{v}{d}(g:∀a,O' a->O a)(h:Vw K kd O H v d):Vw K kd O' H v d:=by
 cases h with
 |non=>exact .non
 |bl b=>exact .bl b
 |int i=>exact .int i
 |str x=>exact .str x
 |tup r s l=>exact .tup (r.less g) s (l.less g)
 |lst h l=>exact .lst h (l.less g)
 |dct h l=>exact .dct h (l.less g)
 |cl c=>exact .cl c
 |ob h k l=>exact .ob h k (l.less g)
 |dt h k l=>exact .dt h k (l.less g)
 |er h k l=>exact .er h k (l.less g)
def f2(fa fb:EF)(g:D->D->Option R0):EF:=λas=>(fa as).bind λp=>(fb p.2).bind λq=>(p.1.frz.view q.2).bind λx=>(q.1.frz.view q.2).bind λy=>(g x.1 y.1).bind λr=>(wrap (meet x.2 y.2) r).bind λz=>some (z,q.2)
def FR(h:f2 fa fb g as=some (rv,as')):
 ∃p as1 q x y lx ly r,fa as=some (p,as1)/\fb as1=some (q,as')/\p.frz.view as'=some (x,lx)/\q.frz.view as'=some (y,ly)/\g x y=some r/\wrap (meet lx ly) r=some rv:=by
 unfold f2 at h;obtain⟨⟨p,as1⟩,h1,h⟩:=bS_ h;obtain⟨⟨q,as2⟩,h2,h⟩:=bS_ h;obtain⟨⟨x,lx⟩,h3,h⟩:=bS_ h;obtain⟨⟨y,ly⟩,h4,h⟩:=bS_ h;obtain⟨r,h5,h⟩:=bS_ h;obtain⟨z,h6,h⟩:=bS_ h;cases h;exact⟨p,as1,q,x,y,lx,ly,r,h1,h2,h3,h4,h5,h6⟩
section
variable{X:Cx}{kd:KD}{a b c:Expr}{fa fb fc:EF}{pos:Pos}
def s_(hr:∀x y H Q,(∃O d e r,(∀a,O a->H a≠none)/\Vw X.K kd O H x d/\Vw X.K kd O H y e/\g d e=some r/\RQ X.K kd O H Q r)->R2' x y H Q)
 (h:al X.K kd (f2 fa fb g) σ H Q):uR R2' (al X.K kd fa) (al X.K kd fb) σ H Q:=by
 obtain⟨F,B,ad,as,r,as',R,e,q⟩:=h;obtain⟨p,as1,z,x,y,lx,ly,r0,h1,h2,h3,h4,h5,h6⟩:=FR e;refine x_ R h1 λv ad1 H1 R1 rv1 g1=>x_ R1 h2 λu ad2 H2 R2 rv2 g2=>hr _ _ _ _ ?_;exact⟨_,x,y,r0,R2.tr _,(xh.vw R2 (rv1.grow g2) h3).less Vd.meet1,(xh.vw R2 rv2 h4).less Vd.meet2,h5,wJ R2 h6 λw T' H' R' rv' g'=>q w T' ad2 H' R' rv'<|(g1.trans g2).trans g'⟩
def Du(ho:ID X kd (binaryOp op) g)(ha:AE X kd a fa)(hb':AE X kd b fb):AE X kd (.BinOp a op b pos) (f2 fa fb g):=by with_unfolding_all exact(yH (Jy ho ha hb') λσ H Q h=>s_ (λ_ _ _ _ z=>z) h)
def Oy(ho:ID X kd (compareOp op) g)(ha:AE X kd a fa)(hb':AE X kd b fb)(hm:behindInMarks op b=false):AE X kd (.Compare a [op] [b] pos) (f2 fa fb g):=by with_unfolding_all exact(yH (CH ho ha hb' hm) λσ H Q h=>s_ (λ_ _ _ _ z=>z) h)
def Jn(ho:qr X kd g)(ha:AE X kd a fa)(hb':AE X kd b fb)(hm:Zy b):AE X kd (.Subscript a b pos) (f2 fa fb g):=by with_unfolding_all exact(yH (GQ ho ha hb' hm) λσ H Q h=>s_ (λ_ _ _ _ z=>z) h)
def fC(d:D):EF:=λas=>some (.ow<|.lf true d,as)
noncomputable def fV(i:Nat):EF:=λas=>match as[i]? with
 |some (some (.lf st d))=>some (.ow<|.lf st d,as)
 |some (some (.nd _ _))=>some (.bo i,as)
 |_=>none
def KU(h:PE X a (tC v))(hr:∀O H,Rp X.K kd O H v d):AE X kd a (fC d):=by with_unfolding_all exact(yH h λσ H Q h=>by
 obtain⟨F,B,ad,as,r,as',R,e,q⟩:=h;cases e;exact q v [] ad H R (.lf<|hr _ _) Grow.refl)
def DX(h:PE X a (QM i)):AE X kd a (fV i):=by with_unfolding_all exact(yH h λσ H Q h=>by
 obtain⟨F,B,ad,as,r,as',R,e,q⟩:=h;unfold fV at e;cases k:as[i]? with
 |none=>rw[k]at e;cases e
 |some s=>
  rw[k]at e;cases s with
  |none=>cases e
  |some o=>
   obtain⟨v,h1,h2⟩:=R.sl i _ k;cases o with
   |lf st d=>
    cases e;have e0 : ad i=[]:=by
            generalize hfp:ad i=fp at h2;cases h2;rfl
    rw[e0]at h2;exact⟨v,h1,q v [] ad H R h2 Grow.refl⟩
   |nd kk os=>
    cases e;exact⟨_,h1,q _ [] ad H R ⟨rfl,h1⟩ Grow.refl⟩)
end
def YQ(ad:Ad)(i:Nat)(x:List Addr):Ad:=λj=>if j=i then x else ad j
section
variable{K:zzA}{kd:KD}{F B:Addr->Prop}{T T1 T2:List Addr}{ad ad1:Ad}{as as1:AS}{σ:St}{H H1:Hp}{v:V}{r:RV}{o:O}{i:Nat}
def yw:YQ ad i x i=x:=if_pos rfl
def yz(h:j≠i):YQ ad i x j=ad j:=if_neg h
def xX:∀a,Gw T (YQ ad i []) a->Gw T ad a:=λa h=>by
 rcases h with h|⟨j,h⟩
 . exact .inl h
 . by_cases e:j=i
   . subst e;rw[yw]at h;cases h
   . rw[yz e]at h;exact .inr ⟨j,h⟩
def YJ:∀a,Gw [] (YQ ad i T) a->Gw T ad a:=λa h=>by
 rcases h with h|⟨j,h⟩
 . cases h
 . by_cases e:j=i
   . subst e;rw[yw]at h;exact .inl h
   . rw[yz e]at h;exact .inr ⟨j,h⟩
def FE:∀st a,Lv F (λa=>B a\/a ∈ T) (Gw [] ad) st a->Lv F B (Gw T ad) st a:=λst a z=>by
 rcases z with(z|z|z)|z
 . exact .inl<|.inl z
 . exact .inl<|.inr z
 . exact .inr<|.inl z
 . exact .inr<|Gw.drop a z
def QN:∀st a,Lv F B (Gw (T1++T2) ad) st a->Lv F (λa=>B a\/a ∈ T1) (Gw T2 ad) st a:=λst a z=>by
 rcases z with(z|z)|z|z
 . exact .inl<|.inl z
 . exact .inl<|.inr<|.inl z
 . rcases zzM.mp z with z|z
   . exact .inl<|.inr<|.inr z
   . exact .inr<|.inl z
 . exact .inr<|.inr z
def Rel.hide(R:Rel K kd F B T ad as σ H):Rel K kd F (λa=>B a\/a ∈ T) [] ad as σ H where
 len:=R.len
 out:=R.out
 nd:=R.nd
 inj:=R.inj
 tnd:=zyJ
 dis:=λ_ _ _ z=>nomatch z
 ftr:=R.ftr
 btr:=λa h=>by
  rcases h with h|h
  . obtain⟨h1,h2,h3⟩:=R.btr a h;exact⟨h1,h2,λz=>h3<|Gw.drop a z⟩
  . exact⟨(R.gtr a<|.inl h).1,(R.gtr a<|.inl h).2,λz=>z.elim (λm=>nomatch m) λ⟨j,y⟩=>R.dis j a y h⟩
 gtr:=λa h=>R.gtr a (Gw.drop a h)
 sl:=λi s e=>(R.sl i s e).lv FE
def Rel.unhide(hn:T1.Nodup)(hb:∀a ∈ T1,¬B a)(R:Rel K kd F (λa=>B a\/a ∈ T1) T2 ad as σ H):Rel K kd F B (T1++T2) ad as σ H where
 len:=R.len
 out:=R.out
 nd:=R.nd
 inj:=R.inj
 tnd:=zxF.mpr ⟨hn,R.tnd,λa m b m' e=>by subst e;exact(R.btr a<|.inr m).2.2<|.inl m'⟩
 dis:=λi a m z=>by
  rcases zzM.mp z with z|z
  . exact(R.btr a<|.inr z).2.2<|.inr ⟨i,m⟩
  . exact R.dis i a m z
 ftr:=R.ftr
 btr:=λa h=>by
  obtain⟨h1,h2,h3⟩:=R.btr a<|.inl h;refine⟨h1,h2,λz=>?_⟩
  rcases z with z|z
  . rcases zzM.mp z with z|z
    . exact hb a z h
    . exact h3<|.inl z
  . exact h3 (.inr z)
 gtr:=λa h=>by
  rcases h with h|h
  . rcases zzM.mp h with h|h
    . exact⟨(R.btr a<|.inr h).1,(R.btr a<|.inr h).2.1⟩
    . exact R.gtr a<|.inl h
  . exact R.gtr a (.inr h)
 sl:=λi s e=>(R.sl i s e).lv QN
theorem Rel.frz(R:Rel K kd F B T ad as σ H)(h:as[i]? = some (some o)):
 Rel K kd F B T (YQ ad i []) (as.set i<|some o.frz) σ H/\∃v,σ[i]? = some (some v)/\Rp K kd (Lv F B (Gw T<|YQ ad i []) o.str) H v o.toD:=by
 obtain⟨v,hv,ro⟩:=R.sl i _ h;have rp:Rp K kd (Lv F B (Gw T<|YQ ad i []) o.str) H v o.toD:=
  Ro.rp o.str (λst v d hs r=>r.less λa z=>z.elim (λy=>.inl<|y.elim (λx=>.inl ⟨hs x.1,x.2⟩) .inr) λy=>.inr<|xX a y)
   (λa n z=>n<|z.elim (λy=>.inl<|y.elim (λx=>.inl ⟨rfl,x.2⟩) .inr) λy=>.inr<|xX a y) id
   (λa m z=>by
    rcases z with(z|z)|z|⟨j,z⟩
    . exact(R.gtr a<|.inr ⟨i,m⟩).2 z.2
    . exact(R.btr a z).2.2<|.inr ⟨i,m⟩
    . exact R.dis i a m z
    . by_cases e:j=i
      . subst e;rw[yw]at z;cases z
      . rw[yz e]at z;exact e<|R.inj j i a z m) ro
 have hi:=(zzG.mp h).1;refine⟨⟨by rw[zzU];exact R.len,λj hj=>?_,λj=>?_,λj k a h1 h2=>?_,R.tnd,λj a h1=>?_,R.ftr,λa h1=>?_,λa h1=>R.gtr a<|xX a h1,λj s e=>?_⟩,v,hv,rp⟩
 . rw[zzU]at hj;rw[yz<|by omega];exact R.out j hj
 . by_cases e:j=i
   . subst e;rw[yw];exact zyJ
   . rw[yz e];exact R.nd j
 . by_cases e:j=i
   . subst e;rw[yw]at h1;cases h1
   . by_cases e':k=i
     . subst e';rw[yw]at h2;cases h2
     . rw[yz e]at h1;rw[yz e']at h2;exact R.inj j k a h1 h2
 . by_cases e:j=i
   . subst e;rw[yw]at h1;cases h1
   . rw[yz e]at h1;exact R.dis j a h1
 . obtain⟨b1,b2,b3⟩:=R.btr a h1;exact⟨b1,b2,λz=>b3<|xX a z⟩
 . by_cases q:j=i
   . subst q;rw[zyK hi]at e;cases e;rw[yw];exact⟨v,hv,.lf rp⟩
   . rw[zzY<|Ne.symm q]at e;rw[yz q];exact(R.sl j s e).less xX
def Rel.put(R:Rel K kd F B T ad as σ H)(hi:i<as.length)(h:Zj K kd F B (Gw T ad) H v o T):Rel K kd F B [] (YQ ad i T) (as.set i<|some o) (σ.set i<|some v) H:=by
 have hi':i<σ.length:=by rw[<-R.len];exact hi
 refine⟨by rw[zzU,zzU];exact R.len,λj hj=>?_,λj=>?_,λj k a h1 h2=>?_,zyJ,(λ_ _ _ z=>nomatch z),R.ftr,λa h1=>?_,λa h1=>R.gtr a<|YJ a h1,λj s e=>?_⟩
 . rw[zzU]at hj;rw[yz<|by omega];exact R.out j hj
 . by_cases e:j=i
   . subst e;rw[yw];exact R.tnd
   . rw[yz e];exact R.nd j
 . by_cases e:j=i
   . subst e;rw[yw]at h1
     by_cases e':k=j
     . exact e'.symm
     . rw[yz e']at h2;exact(R.dis k a h2 h1).elim
   . rw[yz e]at h1
     by_cases e':k=i
     . subst e';rw[yw]at h2;exact(R.dis j a h1 h2).elim
     . rw[yz e']at h2;exact R.inj j k a h1 h2
 . obtain⟨b1,b2,b3⟩:=R.btr a h1;exact⟨b1,b2,λz=>b3<|YJ a z⟩
 . by_cases q:j=i
   . subst q;rw[zyK hi]at e;cases e;rw[yw,zyK hi'];exact⟨v,rfl,h.less YJ⟩
   . rw[zzY<|Ne.symm q]at e;rw[yz q,zzY<|Ne.symm q];exact(R.sl j s e).less YJ
def HL(as:AS):RV->Option (O×AS)
 | .ow o=>some (o,as)
 | .bo i=>match as[i]? with
  |some (some o)=>some (o.frz,as.set i<|some o.frz)
  |_=>none
def RR(R:Rel K kd F B T ad as σ H)(h:xh K kd F B T ad σ H v r)(e:HL as r=some (o,as')):∃ad',Rel K kd F B T ad' as' σ H/\Zj K kd F B (Gw T ad') H v o T/\∀a,Gw T ad' a->Gw T ad a:=by
 cases r with
 |ow o'=>cases e;exact⟨ad,R,h,λ_ z=>z⟩
 |bo i=>
  have e:(match as[i]? with|some (some o)=>some (o.frz,as.set i<|some o.frz)|_=>none)=some (o,as'):=e;cases k:as[i]? with
  |none=>rw[k]at e;cases e
  |some s=>
   cases s with
   |none=>rw[k]at e;cases e
   |some o1=>
    rw[k]at e;cases e;obtain⟨hT,hs⟩:=h;subst hT;obtain⟨R',w,hw,rp⟩:=R.frz k;rw[hs]at hw;cases hw;exact⟨_,R',.lf rp,xX⟩
end
abbrev TF:=AS->Option (Bool×AS)
def C9(K:zzA)(kd:KD)(f:TF):TT:=λσ H Q=>∃F B ad as b as',Rel K kd F B [] ad as σ H/\f as=some (b,as')/\
 ∀ad' H',Rel K kd F B [] ad' as' σ H'->Grow (Gw [] ad) H (Gw [] ad') H'->Q b H'
@[irreducible] def AT(X:Cx)(kd:KD)(e:Expr)(f:TF):Prop:=PT X e<|C9 X.K kd f
@[irreducible] def AW(X:Cx)(kd:KD)(e:Expr)(f:TF):Prop:=PW X e<|C9 X.K kd f
def truth:D->Option Bool
 | .non=>some false
 | .bl b=>some b
 | .int i=>some<|i != 0
 | .str x=>if x.length<=sizeLine then some ((x.length:Int) != 0)else none
 | .tup ds=>some<|!ds.isEmpty
 | .lst ds=>some (!ds.isEmpty)
 |_=>none
def fT(f:EF):TF:=λas=>(f as).bind λp=>(p.1.frz.view p.2).bind λx=>(truth x.1).bind λb=>some (b,p.2)
def YW(f g:TF):TF:=λas=>(f as).bind λp=>if p.1=true then g p.2 else some (false,p.2)
def vA(f g:TF):TF:=λas=>(f as).bind λp=>if p.1=true then some (true,p.2)else g p.2
def wU(f:TF):TF:=λas=>(f as).bind λp=>some (!p.1,p.2)
def T_:D->Option Int
 | .int i=>some i
 |_=>none
def pG:D->Option Str
 | .str i=>some i
 |_=>none
def Il:D->Option (List D)
 | .lst i=>some i
 |_=>none
def pJ:D->Option (List D)
 | .tup i=>some i
 |_=>none
def Xj(e:Il d=some i):d = .lst i:=by
 cases d with
 |lst j=>cases e;rfl
 |_=>cases e
def DO(e:pJ d=some i):d = .tup i:=by
 cases d with
 |tup j=>cases e;rfl
 |_=>cases e
def K1(h:T_ d=some c):d = .int c:=by
 cases d with
 |int i=>cases h;rfl
 |_=>cases h
def uJ:D->Option Bool
 | .bl i=>some i
 |_=>none
def Dw(h:uJ d=some c):d = .bl c:=by
 cases d with
 |bl i=>cases h;rfl
 |_=>cases h
def rh:RV->Option D
 | .ow (.lf _ d)=>some d
 |_=>none
def Hw(h:rh r=some d):∃st,r = .ow (.lf st d):=by
 cases r with
 |bo i=>cases h
 |ow o=>
  cases o with
  |nd k os=>cases h
  |lf st d=>cases h;exact⟨st,rfl⟩
def q_(r:RV):Option Bool:=(rh r).bind uJ
def SB(h:q_ r=some c):∃st,r = .ow (.lf st<|.bl c):=by
 obtain⟨d,h1,h⟩:=bS_ h;cases Dw h;exact Hw h1
def pR(r:RV):Option Int:=(rh r).bind T_
def Af(h:pR r=some c):∃st,r = .ow (.lf st<|.int c):=by
 obtain⟨d,h1,h⟩:=bS_ h;cases K1 h;exact Hw h1
def Iw{α:Type}:List α->Option (α×α)
 | [a,b]=>some (a,b)
 |_=>none
def Lc{α:Type}{os}{p:α×α}(h:Iw os=some p):os=[p.1,p.2]:=by
 cases os with
 |nil=>cases h
 |cons x r=>
  cases r with
  |nil=>cases h
  |cons y r=>
   cases r with
   |nil=>cases h;rfl
   |cons _ _=>cases h
def qk(r:RV):Option (Bool×List D):=match r with
 | .ow (.lf s d)=>(Il d).bind λl=>some (s,l)
 |_=>none
def OZ(h:qk r=some p):r = .ow (.lf p.1<|.lst p.2):=by
 cases r with
 |bo i=>cases h
 |ow o=>
  cases o with
  |nd k os=>cases h
  |lf st d=>
   obtain⟨l,h1,h⟩:=bS_<|h;cases h;cases Xj h1;rfl
def YF(f g:EF):EF:=λas=>(f as).bind λp=>(q_ p.1).bind λc=>if c=true then g p.2 else some (.ow<|.lf true<|.bl false,p.2)
def IT(f:EF):EF:=λas=>(f as).bind λp=>(q_ p.1).bind λc=>some (.ow<|.lf true<|.bl<|!c,p.2)
def f1(fa:EF)(g:D->Option R0):EF:=λas=>(fa as).bind λp=>(p.1.frz.view p.2).bind λx=>(g x.1).bind λr=>(wrap x.2 r).bind λz=>some (z,p.2)
section
variable{X:Cx}{kd:KD}{a b c:Expr}{fa fb:EF}{ta tb:TF}{pos:Pos}{es rest:List Expr}
def K_(h:PT X e t)(k:∀σ H Q,t' σ H Q->t σ H Q):PT X e t':=λpins s σ H Q I q=>h pins s σ H Q I<|k σ H Q q
def Oo(h:PW X e t)(k:∀σ H Q,t' σ H Q->t σ H Q):PW X e t':=λw pins s σ H Q I q=>h w pins s σ H Q I<|k σ H Q q
def D9{O}{H}{v}{d}{k}(h:Vw X.K kd O H v d)(e:truth d=some k):DS X.K v H k:=by
 cases h with
 |non=>cases e;rfl
 |bl b=>cases e;rfl
 |int i=>cases e;rfl
 |str x=>
  have e:(if x.length<=sizeLine then some ((x.length:Int) != 0)else none)=some k:=e
  by_cases hl:x.length<=sizeLine
  . rw[if_pos hl]at e;cases e;exact⟨hl,rfl⟩
  . rw[if_neg hl]at e;cases e
 |tup r hs hr=>
  cases e;refine .inr<|.inl ⟨_,hs, ?_⟩;cases hr<;>rfl
 |lst hs hr=>
  cases e;refine .inl ⟨_,hs.sq, ?_⟩;cases hr<;>rfl
 |dct=>cases e
 |cl=>cases e
 |ob=>cases e
 |dt=>cases e
 |er=>cases e
def J7(ha:AE X kd a fa)(he:∀whole,isTrue a X.env whole=(do let v <-whole;standAt a.pos;holding [v] (truthy v))):AT X kd a (fT fa):=by with_unfolding_all exact(K_ (SJ ha he) λσ H Q h=>by
 obtain⟨F,B,ad,as,bb,as',R,e,q⟩:=h;obtain⟨⟨p,as1⟩,h1,e⟩:=bS_<|e;obtain⟨⟨d,lv⟩,h2,e⟩:=bS_ e;obtain⟨k,h3,e⟩:=bS_ e;cases e;exact x_ R h1 λv ad1 H1 R1 rv1 g1=>⟨_,D9 (xh.vw R1 rv1 h2) h3,q ad1 H1 R1 g1⟩)
def AN(ho:ID X kd (compareOp op) g)(hg:∀x y r,g x y=some r->∃k,r = .im (.bl k))(ha:AE X kd a fa)(hb:AE X kd b fb)(hm:behindInMarks op b=false):
 AT X kd (.Compare a [op] [b] pos) (fT<|f2 fa fb g):=by with_unfolding_all exact(K_ (Ik ho ha hb hm) λσ H Q h=>by
 obtain⟨F,B,ad,as,bb,as',R,e,q⟩:=h;obtain⟨⟨p,as1⟩,h1,e⟩:=bS_<|e;obtain⟨⟨d,lv⟩,h2,e⟩:=bS_ e;obtain⟨k,h3,e⟩:=bS_ e;cases e;obtain⟨_,_,_,x,y,_,_,r0,_,_,_,_,hp,hw⟩:=FR h1;obtain⟨k',rfl⟩:=hg _ _ _ hp;cases hw;cases h2;cases h3;refine s_ (λ_ _ _ _ z=>z) ⟨F,B,ad,as,_,_,R,h1,λv T' ad' H' R' rv g'=>?_⟩;generalize hT:T'=T2 at rv R' g';cases rv with
 |lf rp=>
  cases rp;exact⟨_,rfl,q ad' H' R' g'⟩)
def Ov(ha:AT X kd a ta):AT X kd (.UnaryOp .Not a pos) (wU ta):=by with_unfolding_all exact(K_ (AY ha) λσ H Q h=>by
 obtain⟨F,B,ad,as,bb,as',R,e,q⟩:=h;obtain⟨⟨p,as1⟩,h1,e⟩:=bS_<|e;cases e;exact⟨F,B,ad,as,p,_,R,h1,λad' H' R' g=>q ad' H' R' g⟩)
def RP(ha:AT X kd a ta):AW X kd (.BoolOp .And [a] pos) ta:=by with_unfolding_all exact(CB ha)
def G1(ha:AT X kd a ta):AW X kd (.BoolOp .Or [a] pos) ta:=by with_unfolding_all exact(D7 ha)
def Hv(ha:AT X kd a ta)(hb:AW X kd (.BoolOp .And (b::rest) pos) tb):AW X kd (.BoolOp .And (a::b::rest) pos) (YW ta tb):=by with_unfolding_all exact(Oo (Dg ha hb) λσ H Q h=>by
 obtain⟨F,B,ad,as,bb,as',R,e,q⟩:=h;obtain⟨⟨p,as1⟩,h1,e⟩:=bS_<|e;refine⟨F,B,ad,as,p,as1,R,h1,λad' H' R' g=>?_⟩;cases p with
 |true=>exact⟨F,B,ad',as1,bb,as',R',e,λad2 H2 R2 g2=>q ad2 H2 R2<|g.trans g2⟩
 |false=>cases e;exact q ad' H' R' g)
def JL(ha:AT X kd a ta)(hb:AW X kd (.BoolOp .Or (b::rest) pos) tb):AW X kd (.BoolOp .Or (a::b::rest) pos) (vA ta tb):=by with_unfolding_all exact(Oo (sA ha hb) λσ H Q h=>by
 obtain⟨F,B,ad,as,bb,as',R,e,q⟩:=h;obtain⟨⟨p,as1⟩,h1,e⟩:=bS_<|e;refine⟨F,B,ad,as,p,as1,R,h1,λad' H' R' g=>?_⟩;cases p with
 |false=>exact⟨F,B,ad',as1,bb,as',R',e,λad2 H2 R2 g2=>q ad2 H2 R2<|g.trans g2⟩
 |true=>cases e;exact q ad' H' R' g)
def AW.at_(h:AW X kd e ta):AT X kd e ta:=by with_unfolding_all exact(PW.pt h)
def JE{K}{F B}{T}{ad}{σ}{H}{v}{st c}(h:xh K kd F B T ad σ H v (.ow<|.lf st<|.bl c)):T=[]/\v = .bl c:=by
 have h:=h;generalize hT:Gw T ad=G at h;cases h with
 |lf rp=>cases rp;exact⟨rfl,rfl⟩
def PL(ha:AE X kd a fa):AE X kd (.BoolOp op [a] pos) fa:=by with_unfolding_all exact(AH ha)
def PZ(ha:AE X kd a fa)(hb:AE X kd (.BoolOp .And (b::rest) pos) fb):AE X kd (.BoolOp .And (a::b::rest) pos) (YF fa fb):=by with_unfolding_all exact(yH (AV ha hb) λσ H Q h=>by
 obtain⟨F,B,ad,as,r,as',R,e,q⟩:=h;obtain⟨⟨p,as1⟩,h1,e⟩:=bS_<|e;refine⟨F,B,ad,as,p,as1,R,h1,λv T' ad' H' R' rv g=>?_⟩;obtain⟨k,e1,e⟩:=bS_ e;obtain⟨st,rfl⟩:=SB e1;obtain⟨rfl,rfl⟩:=JE rv;cases k with
 |true=>exact⟨true,rfl,⟨F,B,ad',as1,r,as',R',e,λv T2 ad2 H2 R2 rv g2=>q v T2 ad2 H2 R2 rv<|g.trans g2⟩⟩
 |false=>
  cases e;exact⟨false,rfl,q _ [] ad' H' R' (.lf<|.bl false) g⟩)
def DH(ha:AE X kd a fa):AE X kd (.UnaryOp .Not a pos) (IT fa):=by with_unfolding_all exact(yH (AR ha) λσ H Q h=>by
 obtain⟨F,B,ad,as,r,as',R,e,q⟩:=h;obtain⟨⟨p,as1⟩,h1,e⟩:=bS_<|e;refine⟨F,B,ad,as,p,as1,R,h1,λv T' ad' H' R' rv g=>?_⟩;obtain⟨k,e1,e⟩:=bS_ e;obtain⟨st,rfl⟩:=SB e1;obtain⟨rfl,rfl⟩:=JE rv;cases e;exact⟨k,rfl,q _ [] ad' H' R' (.lf<|.bl _) g⟩)
def sr(ho:pK X kd (unaryOp op) g)(ha:AE X kd a fa):AE X kd (.UnaryOp op a pos) (f1 fa g):=by with_unfolding_all exact(yH (u5 ho ha) λσ H Q h=>by
 obtain⟨F,B,ad,as,r,as',R,e,q⟩:=h;obtain⟨⟨p,as1⟩,h1,e⟩:=bS_<|e;obtain⟨⟨x,lv⟩,h2,e⟩:=bS_ e;obtain⟨z,h3,e⟩:=bS_ e;obtain⟨y,h4,e⟩:=bS_ e;cases e;refine x_ R h1 λv ad1 H1 R1 rv1 g1=>⟨_,x,z,R1.tr _,xh.vw R1 rv1 h2,h3,wJ R1 h4 λw T' H' R' rv' g'=>q w T' ad1 H' R' rv'<|g1.trans g'⟩)
end
abbrev AF:=AS->Option (List RV×AS)
inductive RVs(K:zzA)(kd:KD)(F B:Addr->Prop)(ad:Ad)(σ:St)(H:Hp):List V->List RV->Prop
 |nil:RVs K kd F B ad σ H [] []
 |cons {v:V}{r:RV}{vs:List V}{rs:List RV}:xh K kd F B [] ad σ H v r->RVs K kd F B ad σ H vs rs->RVs K kd F B ad σ H (v::vs) (r::rs)
def sO(K:zzA)(kd:KD)(f:AF):TA:=λσ H Q=>∃F B ad as rs as',Rel K kd F B [] ad as σ H/\f as=some (rs,as')/\
 ∀vs ad' H',Rel K kd F B [] ad' as' σ H'->RVs K kd F B ad' σ H' vs rs->Grow (Gw [] ad) H (Gw [] ad') H'->Q vs H'
@[irreducible] def AA(X:Cx)(kd:KD)(es:List Expr)(f:AF):Prop:=PA X es<|sO X.K kd f
def aN:AF:=λas=>some ([],as)
def aC(fa:EF)(fr:AF):AF:=λas=>(fa as).bind λp=>(fr p.2).bind λq=>some (p.1.frz::q.1,q.2)
def KS(h:PA X e t)(k:∀σ H Q,t' σ H Q->t σ H Q):PA X e t':=λpos pins s σ H Q I q=>h pos pins s σ H Q I<|k σ H Q q
abbrev DF:=AS->Option (List O×AS)
def pB(K:zzA)(kd:KD)(f:DF):TA:=λσ H Q=>∃F B ad as os as',Rel K kd F B [] ad as σ H/\f as=some (os,as')/\
 ∀vs T' ad' H',Rel K kd F B T' ad' as' σ H'->vQ K kd F B (Gw T' ad') H' vs os T'->Grow (Gw [] ad) H (Gw T' ad') H'->Q vs H'
@[irreducible] def AD(X:Cx)(kd:KD)(es:List Expr)(f:DF):Prop:=PA X es<|pB X.K kd f
def dN:DF:=λas=>some ([],as)
def dC(fa:EF)(fr:DF):DF:=λas=>(fa as).bind λp=>(HL p.2 p.1).bind λx=>(fr x.2).bind λq=>some (x.1::q.1,q.2)
def views(as:AS):List RV->Option (List D×Option Bool)
 | []=>some ([],some true)
 |r::rs=>(r.view as).bind λx=>(views as rs).bind λy=>some (x.1::y.1,meet x.2 y.2)
def fP(fr:AF)(g:List D->Option R0):EF:=λas=>(fr as).bind λp=>(views p.2 p.1).bind λx=>(g x.1).bind λr=>(wrap x.2 r).bind λz=>some (z,p.2)
def tK(as:AS):RV->Option (Bool×D)
 | .ow o=>some (yr o.toD||o.str,o.toD)
 | .bo i=>match as[i]? with
  |some (some o)=>some (false,o.toD)
  |_=>none
def Va(as:AS):List RV->Option (List<|Bool×D)
 | []=>some []
 |r::rs=>(tK as r).bind λx=>(Va as rs).bind λy=>some (x::y)
def zx(fr:AF)(g:List (Bool×D)->Option O):EF:=λas=>(fr as).bind λp=>(Va p.2 p.1).bind λx=>(g x).bind λo=>some (.ow o,p.2)
def rT(K:zzA)(kd:KD)(F:Addr->Prop)(H:Hp)(Q:VK)(o:O):Prop:=
 ∀v T H',T.Nodup->(∀a ∈ T,H a=none)->(∀b u,H b=some u->H' b=some u)->(∀a ∈ T,H' a≠none)->Ro (λ_ v d=>Rp K kd (QA F (· ∈ T)) H' v d) (λa=>¬QA F (· ∈ T) a) H' v o T->Q v H'
inductive RpA(K:zzA)(kd:KD)(F:Addr->Prop)(H:Hp):List V->List (Bool×D)->Prop
 |nil:RpA K kd F H [] []
 |cons {v:V}{st:Bool}{d:D}{vs:List V}{ds:List (Bool×D)}:Rp K kd (λa=>st=true/\F a) H v d->RpA K kd F H vs ds->RpA K kd F H (v::vs) ((st,d)::ds)
def ui(K:zzA)(kd:KD)(g:List (Bool×D)->Option O):Sp:=λvs H Q _=>∃F ds o,(∀a,F a->H a≠none)/\RpA K kd F H vs ds/\g ds=some o/\rT K kd F H Q o
def Wj(os:List O):O:=if os.all O.isLf=true then .lf (O.strs os) (.tup<|O.toDs os)else .nd .tp os
def yh(fr:DF):EF:=λas=>(fr as).bind λp=>if p.1.length<=sizeLine then some (.ow<|Wj p.1,p.2)else none
def yA(fr:DF):EF:=λas=>(fr as).bind λp=>if p.1.length<=sizeLine then some (.ow<|.nd .ls p.1,p.2)else none
section
variable{X:Cx}{kd:KD}{a b c:Expr}{fa fb:EF}{ta tb:TF}{pos:Pos}{es rest:List Expr}{fr:AF}{fd:DF}
theorem RpA.length{K}{F}{H}{vs}{ds}(h:RpA K kd F H vs ds):vs.length=ds.length:=by
 induction h with
 |nil=>rfl
 |cons _ _ ih=>exact congrArg (· + 1) ih
def XI:AA X kd [] aN:=by with_unfolding_all exact(KS QX λσ H Q h=>by
 obtain⟨F,B,ad,as,rs,as',R,e,q⟩:=h;cases e;exact q [] ad H R .nil Grow.refl)
def CQ(ha:AE X kd a fa)(hr:AA X kd es fr)(hs:starEach (a::es) X.env=(false,eval a X.env)::starEach es X.env):AA X kd (a::es) (aC fa fr):=by with_unfolding_all exact(KS (Yt ha hr hs) λσ H Q h=>by
 obtain⟨F,B,ad,as,rs,as',R,e,q⟩:=h;obtain⟨⟨p,as1⟩,h1,e⟩:=bS_<|e;obtain⟨⟨z,as2⟩,h2,e⟩:=bS_ e;cases e;refine x_ R h1 λv ad1 H1 R1 rv1 g1=>⟨F,B,ad1,as1,z,_,R1,h2,λvs ad2 H2 R2 rv2 g2=>?_⟩;exact q _ ad2 H2 R2 (.cons (rv1.grow g2) rv2)<|g1.trans g2)
def LF:AD X kd [] dN:=by with_unfolding_all exact(KS QX λσ H Q h=>by
 obtain⟨F,B,ad,as,rs,as',R,e,q⟩:=h;cases e;exact q [] [] ad H R .nil Grow.refl)
def Ip(ha:AE X kd a fa)(hr:AD X kd es fd)(hs:starEach (a::es) X.env=(false,eval a X.env)::starEach es X.env):AD X kd (a::es) (dC fa fd):=by with_unfolding_all exact(KS (Yt ha hr hs) λσ H Q h=>by
 obtain⟨F,B,ad,as,rs,as',R,e,q⟩:=h;obtain⟨⟨p,as1⟩,h1,e⟩:=bS_<|e;obtain⟨⟨o,as2⟩,h2,e⟩:=bS_ e;obtain⟨⟨os,as3⟩,h3,e⟩:=bS_ e;cases e;refine⟨F,B,ad,as,p,as1,R,h1,λv T1 ad1 H1 R1 rv1 g1=>?_⟩;obtain⟨ad2,R2,ro2,le2⟩:=RR R1 rv1 h2;refine⟨F,_,ad2,as2,os,_,R2.hide,h3,λvs T3 ad3 H3 R3 ro3 g3=>?_⟩;have kT:=λa m u e=>g3.keep a u e λz=>z.elim (λy=>nomatch y) λ⟨i,y⟩=>R2.dis i a y m;have r1:=Zj.lv QN<|Zj.grow g3 kT<|Zj.lv FE ro2;have r3:=vQ.lv QN ro3;refine q _ (T1++T3) ad3 H3 (R3.unhide R2.tnd λa m z=>(R2.btr a z).2.2<|.inl m) (.cons r1 r3)<|(g1.trans<|Grow.less le2).trans ⟨λb u e n=>g3.keep b u e λz=>n<|Gw.drop b z,λb z=>?_⟩
 rcases z with z|z
 . rcases zzM.mp z with z|z
   . exact .inl<|.inl z
   . exact(g3.own b<|.inl z).elim (λy=>.inl<|Gw.drop b y) .inr
 . exact(g3.own b<|.inr z).elim (λy=>.inl<|Gw.drop b y) .inr)
def S3(h:AD X kd es fd):AE X kd (.Tuple es x1 pos) (yh fd):=by with_unfolding_all exact(yH (DU h) λσ H Q h=>by
 obtain⟨F,B,ad,as,r,as',R,e,q⟩:=h;obtain⟨⟨os,as1⟩,h1,e⟩:=bS_<|e;obtain⟨hz,e⟩:=zT e;cases e;refine⟨F,B,ad,as,os,_,R,h1,λvs T1 ad1 H1 R1 ro1 g1=>⟨by rw[ro1.length];exact hz,λp hp=>?_⟩⟩;have k:∀b o,H1 b=some o->upd H1 p (.tup vs) b=some o:=λb o hb=>by rw[zX<|yC hb hp];exact hb
 obtain⟨R2,g2⟩:=R1.more k;have ro2:=vQ.grow g2 (λa _ u h=>k a u h) ro1;have np:=λst z=>R1.trk st p z hp;refine q _ T1 ad1 _ R2 ?_<|g1.trans g2;unfold Wj
 by_cases hl:os.all O.isLf=true
 . rw[if_pos hl];have:=Ca ro2 hl;subst this;exact .lf<|.tup (np _) yy<|QY ro2 hl
 . rw[if_neg hl];exact .tp (np _) yy ro2)
def EU(h:AD X kd es fd):AE X kd (.List es pos) (yA fd):=by with_unfolding_all exact(yH (Ah h) λσ H Q h=>by
 obtain⟨F,B,ad,as,r,as',R,e,q⟩:=h;obtain⟨⟨os,as1⟩,h1,e⟩:=bS_<|e;obtain⟨hz,e⟩:=zT e;cases e;refine⟨F,B,ad,as,os,_,R,h1,λvs T1 ad1 H1 R1 ro1 g1=>⟨by rw[ro1.length];exact hz,λp hp=>?_⟩⟩;have k:∀b o,H1 b=some o->upd H1 p (.lst vs) b=some o:=λb o hb=>by rw[zX<|yC hb hp];exact hb
 obtain⟨R2,g2⟩:=R1.add (N:=[p]) (by simp) (λa m=>by rw[zzR.mp m];exact hp) k (λa m=>by rw[zzR.mp m,yy];simp);exact q _ _ ad1 _ R2 (.ls yy<|vQ.grow g2 (λa _ u h=>k a u h) ro1)<|g1.trans g2)
theorem VwL.less{K}{O O'}{H}(g:∀a,O' a->O a){vs}{ds}(h:VwL K kd O H vs ds):VwL K kd O' H vs ds:=by
 induction h with
 |nil=>exact .nil
 |cons h _ ih=>exact .cons (h.less g) ih
def XR{K}{F B}{ad}{as}{σ}{H}(R:Rel K kd F B [] ad as σ H){vs}{rs}{ds}{lv}(h:RVs K kd F B ad σ H vs rs)(e:views as rs=some (ds,lv)):VwL K kd (Vd F B (Gw [] ad) lv) H vs ds:=by
 induction h generalizing ds lv with
 |nil=>cases e;exact .nil
 |cons h t ih=>
  obtain⟨⟨d,l⟩,h1,e⟩:=bS_<|e;obtain⟨⟨ds,l2⟩,h2,e⟩:=bS_ e;cases e;exact .cons ((xh.vw R h h1).less Vd.meet1)<|(ih h2).less Vd.meet2
def p6{g}{σ}{H}{Q}{R':List V->Hp->VK->Prop}(hr:∀vs H Q,(∃O ds r,(∀a,O a->H a≠none)/\VwL X.K kd O H vs ds/\g ds=some r/\RQ X.K kd O H Q r)->R' vs H Q)
 (h:al X.K kd (fP fr g) σ H Q):sO X.K kd fr σ H λvs H1=>R' vs H1 Q:=by
 obtain⟨F,B,ad,as,r,as',R,e,q⟩:=h;obtain⟨⟨p,as1⟩,h1,e⟩:=bS_<|e;obtain⟨⟨ds,lv⟩,h2,e⟩:=bS_ e;obtain⟨z,h3,e⟩:=bS_ e;obtain⟨y,h4,e⟩:=bS_ e;cases e;exact⟨F,B,ad,as,p,_,R,h1,λvs ad1 H1 R1 rv1 g1=>hr _ _ _ ⟨_,ds,z,R1.tr _,XR R1 rv1 h2,h3,wJ R1 h4 λw T' H' R' rv' g'=>q w T' ad1 H' R' rv'<|g1.trans g'⟩⟩
def IM{K}{F B}{ad}{as}{σ}{H}(R:Rel K kd F B [] ad as σ H){vs}{rs}{ds}(h:RVs K kd F B ad σ H vs rs)(e:Va as rs=some ds):RpA K kd (Lv F B (Gw [] ad) true) H vs ds:=by
 induction h generalizing ds with
 |nil=>cases e;exact .nil
 |cons h t ih=>
  rename_i v r vs rs;obtain⟨⟨st,d⟩,h1,e⟩:=bS_<|e;obtain⟨ds,h2,e⟩:=bS_ e;cases e;refine .cons ?_<|ih h2;cases r with
  |ow o=>
   cases h1;cases hf:yr o.toD with
   |true=>exact(KO h).flat hf
   |false=>
    refine(KY h).less λa z=>?_;have zs:o.str=true:=z.1;rw[zs];exact z.2
  |bo i=>
   have e:(match as[i]? with|some (some o)=>some (false,o.toD)|_=>none)=some (st,d):=h1;cases k:as[i]? with
   |none=>rw[k]at e;cases e
   |some s=>
    cases s with
    |none=>rw[k]at e;cases e
    |some o=>
     rw[k]at e;cases e;obtain⟨w,hw,ro⟩:=R.sl i _ k;rw[h.2]at hw;cases hw;exact(KO ro).less λa z=>nomatch z.1
def AX{K}{F B}{ad}{as}{σ}{H}{Q}{o}(R:Rel K kd F B [] ad as σ H)(q:∀v T' H',Rel K kd F B T' ad as σ H'->xh K kd F B T' ad σ H' v (.ow o)->Grow (Gw [] ad) H (Gw T' ad) H'->Q v H'):
 rT K kd (Lv F B (Gw [] ad) true) H Q o:=λv T H' hn hl k h1 ro=>by
 obtain⟨R',g⟩:=R.news hn hl k h1;have le:∀st a,Lv F B (Gw T ad) st a->QA (Lv F B (Gw [] ad) true) (· ∈ T) a:=λst a z=>by
  rcases z with(z|z)|z|z
  . exact .inl<|.inl<|.inl ⟨rfl,z.2⟩
  . exact .inl<|.inl<|.inr z
  . exact .inr z
  . exact .inl<|.inr<|.inr z
 exact q v T H' R' (Ro.mono (λst v d r=>r.less<|le st) (λa vs n e=>⟨λz=>n<|le true a z,e⟩) (λ_ _ _ e=>e) ro) g
def D5(h:al X.K kd (zx fr g) σ H Q):Ji (ui X.K kd g) [] E (sO X.K kd fr) σ H Q:=by
 obtain⟨F,B,ad,as,r,as',R,e,q⟩:=h;obtain⟨⟨p,as1⟩,h1,e⟩:=bS_<|e;obtain⟨ds,h2,e⟩:=bS_ e;obtain⟨o,h3,e⟩:=bS_ e;cases e;refine⟨F,B,ad,as,p,_,R,h1,λvs ad1 H1 R1 rv1 g1=>?_⟩;show ui X.K kd g _ H1 Q E;rw[zyE];exact⟨_,ds,o,R1.trk true,IM R1 rv1 h2,h3,AX R1 λw T' H' R' rv' g'=>q w T' ad1 H' R' rv'<|g1.trans g'⟩
end
inductive Out where
 |nx (as:AS)|rt (o:O)|bk (as:AS)|ct (as:AS)
abbrev SF:=AS->Option Out
structure RetOk(K:zzA)(kd:KD)(F:Addr->Prop)(T:List Addr)(H:Hp)(v:V)(o:O):Prop where
 nd:T.Nodup
 tr:∀a ∈ T,H a≠none
 ro:Ro (λ_ v d=>Rp K kd (QA F (· ∈ T)) H v d) (λa=>¬QA F (· ∈ T) a) H v o T
def Fg(K:zzA)(kd:KD)(F B:Addr->Prop)(ad:Ad)(H:Hp)(D:Ends):Out->Prop
 | .nx as'=>∀σ' ad' H',Rel K kd F B [] ad' as' σ' H'->Grow (Gw [] ad) H (Gw [] ad') H'->D.nx σ' H'
 | .bk as'=>∀σ' ad' H',Rel K kd F B [] ad' as' σ' H'->Grow (Gw [] ad) H (Gw [] ad') H'->D.bk σ' H'
 | .ct as'=>∀σ' ad' H',Rel K kd F B [] ad' as' σ' H'->Grow (Gw [] ad) H (Gw [] ad') H'->D.ct σ' H'
 | .rt o=>∀v T H',RetOk K kd F T H' v o->Grow (Gw [] ad) H (· ∈ T) H'->D.rt v H'
def be(K:zzA)(kd:KD)(f:SF):TS:=λD σ H=>∃F B ad as o,Rel K kd F B [] ad as σ H/\f as=some o/\Fg K kd F B ad H D o
@[irreducible] def Ks(X:Cx)(kd:KD)(st:Stmt)(f:SF):Prop:=PS X st<|be X.K kd f
@[irreducible] def EW(X:Cx)(kd:KD)(st:List Stmt)(f:SF):Prop:=MH X st<|be X.K kd f
def vM(h:PS X e t)(k:∀D σ H,t' D σ H->t D σ H):PS X e t':=λpins s σ H D I q=>h pins s σ H D I<|k D σ H q
def KJ(h:MH X e t)(k:∀D σ H,t' D σ H->t D σ H):MH X e t':=λpins s σ H D I q=>h pins s σ H D I<|k D σ H q
def Fg.pre{K}{kd}{F B}{ad ad1}{H H1}{D}{o}(g:Grow (Gw [] ad) H (Gw [] ad1) H1)(h:Fg K kd F B ad H D o):Fg K kd F B ad1 H1 D o:=by
 cases o with
 |nx as=>exact λσ' ad' H' R g'=>h σ' ad' H' R (g.trans g')
 |bk as=>exact λσ' ad' H' R g'=>h σ' ad' H' R (g.trans g')
 |ct as=>exact λσ' ad' H' R g'=>h σ' ad' H' R (g.trans g')
 |rt r=>exact λv T H' R g'=>h v T H' R<|g.trans g'
noncomputable def xQ:SF:=λas=>some<|.nx as
def zp(f g:SF):SF:=λas=>(f as).bind λo=>match o with | .nx as'=>g as'|o=>some o
def xB(c:TF)(f g:SF):SF:=λas=>(c as).bind λp=>if p.1=true then f p.2 else g p.2
def yI(f:EF):SF:=λas=>(f as).bind λp=>some<|.nx p.2
def Ha(as:AS):RV->Option O
 | .ow o=>if o.str=true then some o else none
 | .bo i=>match as[i]? with
  |some (some o)=>if o.str=true then some o else none
  |_=>none
def zV(f:EF):SF:=λas=>(f as).bind λp=>(Ha p.2 p.1).bind λo=>some<|.rt o
def zz(z:Bool)(i:Nat)(f:EF):SF:=λas=>(f as).bind λp=>(HL p.2 (if z=true then p.1.frz else p.1)).bind λx=>if i<x.2.length then some (.nx<|x.2.set i<|some x.1)else none
def Ro.strong(h:Ro L N H v o fp)(e:o.str=true):Ro (λst v d=>st=true/\L st v d) N H v o fp:=
 Ro.rec (motive_2:=λvs os fp _=>O.strs os=true->RoL (λst v d=>st=true/\L st v d) N H vs os fp)
  (λh e=>.lf ⟨e,h⟩) (λh _ r e=>.ls h<|r e) (λh l _ r e=>.dc h l<|r e) (λc h l _ r e=>.ob ⟨rfl,c⟩ h l<|r e) (λh l _ r e=>.dt h l<|r e) (λn h _ r e=>.tp n h<|r e) (λ_=>.nil) (λ_ _ h r e=>.cons (h ((zyC _ _).mp e).1)<|r ((zyC _ _).mp e).2) h e
section
variable{K:zzA}{kd:KD}{F B:Addr->Prop}{T:List Addr}{ad ad1:Ad}{as as1:AS}{σ:St}{H H1:Hp}{v:V}{r:RV}{o:O}
def M0(R:Rel K kd F B T ad as σ H)(hn:T'.Nodup)(hs:∀a ∈ T',Gw T ad a)(h:Zj K kd F B (Gw T ad) H v o T')(e:o.str=true):RetOk K kd F T' H v o:=by
 have le:∀a,QA F (· ∈ T') a->Lv F B (Gw T ad) true a:=λa z=>z.elim (λy=>.inl<|.inl ⟨rfl,y⟩) λy=>.inr<|hs a y;exact⟨hn,λa m=>(R.gtr a<|hs a m).1,Ro.mono (λst v d r=>by obtain⟨rfl,r⟩:=r;exact r.less le) (λa vs n e=>⟨λz=>n<|le a z,e⟩) (λ_ _ _ e=>e)<|Ro.strong h e⟩
def Rel.ret(R:Rel K kd F B T ad as σ H)(hr:xh K kd F B T ad σ H v r)(e:Ha as r=some o):∃T',RetOk K kd F T' H v o/\∀b ∈ T',Gw T ad b:=by
 cases r with
 |ow o'=>
  obtain⟨hs,rfl⟩:=zT e;exact⟨T,M0 R R.tnd (λa m=>.inl m) hr hs,λa m=>.inl m⟩
 |bo i=>
  have e:(match as[i]? with|some (some o)=>if o.str=true then some o else none|_=>none)=some o:=e;cases k:as[i]? with
  |none=>rw[k]at e;cases e
  |some s=>
   cases s with
   |none=>rw[k]at e;cases e
   |some o1=>
    rw[k]at e;obtain⟨hs,rfl⟩:=zT e;obtain⟨w,hw,ro⟩:=R.sl i _ k;rw[hr.2]at hw;cases hw;exact⟨ad i,M0 R (R.nd i) (λa m=>.inr ⟨i,m⟩) ro hs,λa m=>.inr ⟨i,m⟩⟩
end
section
variable{X:Cx}{kd:KD}{st:Stmt}{sts rest:List Stmt}{a b c e:Expr}{fa fb:EF}{ta:TF}{pos:Pos}{f g:SF}
def KA:EW X kd [] xQ:=by with_unfolding_all exact(KJ CU λD σ H h=>by
 obtain⟨F,B,ad,as,o,R,e,q⟩:=h;cases e;exact q σ ad H R Grow.refl)
def yS(h1:Ks X kd st f)(h2:EW X kd rest g):EW X kd (st::rest) (zp f g):=by with_unfolding_all exact(KJ (MB h1 h2) λD σ H h=>by
 obtain⟨F,B,ad,as,o,R,e,q⟩:=h;obtain⟨o1,e1,e⟩:=bS_<|show(f as).bind _=_ from e;refine⟨F,B,ad,as,o1,R,e1, ?_⟩;cases o1 with
 |nx as1=>exact λσ' ad' H' R' g'=>⟨F,B,ad',as1,o,R',e,q.pre g'⟩
 |bk as1=>cases e;exact q
 |ct as1=>cases e;exact q
 |rt r=>cases e;exact q)
def vS(h1:Ks X kd st f):EW X kd [st] f:=by with_unfolding_all exact(FZ h1)
def pY:SF:=λ_=>none
def tQ:Ks X kd st pY:=by with_unfolding_all exact(λpins s σ H D I h=>by obtain⟨F,B,ad,as,o,R,e,q⟩:=h;cases e)
def Om(hc:AT X kd c ta)(ha:EW X kd sts f)(hb:EW X kd rest g):Ks X kd (.If c sts rest pos) (xB ta f g):=by with_unfolding_all exact(vM (uE hc ha hb) λD σ H h=>by
 obtain⟨F,B,ad,as,o,R,e,q⟩:=h;obtain⟨⟨p,as1⟩,h1,e⟩:=bS_<|show(ta as).bind _=_ from e;refine⟨F,B,ad,as,p,as1,R,h1,λad' H' R' g=>?_⟩;cases p with
 |true=>exact⟨F,B,ad',as1,o,R',e,q.pre g⟩
 |false=>exact⟨F,B,ad',as1,o,R',e,q.pre g⟩)
def IG(he:AE X kd e fa)(hs:swapsWith e none pos.line X.env=pure false):Ks X kd (.Expr e pos) (yI fa):=by with_unfolding_all exact(vM (E4 he hs) λD σ H h=>by
 obtain⟨F,B,ad,as,o,R,e,q⟩:=h;obtain⟨⟨p,as1⟩,h1,e⟩:=bS_<|show(fa as).bind _=_ from e;cases e;exact⟨F,B,ad,as,p,as1,R,h1,λv T' ad' H' R' rv g=>q σ ad' H' R'.drop<|g.trans<|Grow.less Gw.drop⟩)
def Tf(he:AE X kd e fa):Ks X kd (.Return (some e) pos) (zV fa):=by with_unfolding_all exact(vM (DE he) λD σ H h=>by
 obtain⟨F,B,ad,as,o,R,e,q⟩:=h;obtain⟨⟨p,as1⟩,h1,e⟩:=bS_<|show(fa as).bind _=_ from e;obtain⟨r,h2,e⟩:=bS_ e;cases e;refine⟨F,B,ad,as,p,as1,R,h1,λv T' ad' H' R' rv g=>?_⟩;obtain⟨T2,ro,le⟩:=R'.ret rv h2;exact q v T2 H' ro<|g.trans<|Grow.less le)
def H0{K}{F B}{T}{ad}{as as2}{σ}{H}{v}{r}{z}{o}{i:Nat}(R:Rel K kd F B T ad as σ H)(rv:xh K kd F B T ad σ H v r)
 (h2:HL as (if z=true then r.frz else r)=some (o,as2)) (hl:i<as2.length):∃ad',Rel K kd F B [] ad' (as2.set i<|some o) (σ.set i<|some v) H/\∀a,Gw [] ad' a->Gw T ad a:=by
 cases z with
 |true=>
  obtain⟨ad1,R1,ro,le⟩:=RR R.drop (xh.drop R rv) h2;exact⟨_,R1.put hl ro,λa y=>Gw.drop a<|le a<|YJ a y⟩
 |false=>
  obtain⟨ad1,R1,ro,le⟩:=RR R rv h2;exact⟨_,R1.put hl ro,λa y=>le a<|YJ a y⟩
def Oz(hN:X.N.Nodup)(hi:X.N[i]? = some x)(hx:Loc X.env.scope x)(he:AE X kd e fa)(hs:swapsWith e (some<|.Name x pos') pos.line X.env=pure false)(hf:X.fn x=true\/X.env.scope.names.lookup x=some .local):
 Ks X kd (.Assign [.Name x pos'] e pos) (zz z i fa):=by with_unfolding_all exact(vM (Hi hN hi hx he hs hf) λD σ H h=>by
 obtain⟨F,B,ad,as,o,R,e,q⟩:=h;obtain⟨⟨p,as1⟩,h1,e⟩:=bS_<|show(fa as).bind _=_ from e;obtain⟨⟨y,as2⟩,h2,e⟩:=bS_ e;obtain⟨hl,e⟩:=zT e;cases e;refine⟨F,B,ad,as,p,as1,R,h1,λv T' ad' H' R' rv g=>?_⟩;obtain⟨ad2,R2,le⟩:=H0 R' rv h2 hl;exact q _ ad2 H' R2<|g.trans<|Grow.less le)
end
def Yl(n:Nat)(ds:List (Bool×D)):AS:=ds.map (λx=>some<|.lf x.1 x.2)++List.replicate (n-ds.length) none
def rK:Out->Option O
 | .nx _=>some<|.lf true .non
 | .rt o=>some o
 |_=>none
def wQ(n m:Nat)(f:SF)(ds:List (Bool×D)):Option O:=if ds.length=m then(f<|Yl n ds).bind rK else none
theorem RpA.get{K}{kd}{F}{H}:∀{vs:List V}{ds:List (Bool×D)}{i:Nat}{x:Bool×D},RpA K kd F H vs ds->ds[i]? = some x->∃v,vs[i]? = some v/\Rp K kd (λa=>x.1=true/\F a) H v x.2
 |_,_,_,_,.nil,e=>by simp at e
 |_,_,0,_,.cons h _,e=>by simp at e;subst e;exact⟨_,rfl,h⟩
 |_,_,i+1,_,.cons _ r,e=>by
  obtain⟨v,h1,h2⟩:=RpA.get (i:=i) r (by simpa using e);exact⟨v,by simpa using h1,h2⟩
def B_{K}{kd}{F}{H}{N}{vs}{ds}(ht:∀a,F a->H a≠none)(rp:RpA K kd F H vs ds):
 Rel K kd F (λ_=>False) [] (λ_=>[]) (Yl N.length ds) (L2.start N vs) H:=by
 have hl:=rp.length;have no:∀a,¬Gw [] (λ_=>[]) a:=λa z=>z.elim (λy=>nomatch y) λ⟨_,y⟩=>nomatch y;refine⟨by unfold Yl L2.start;simp[hl],λ_ _=>rfl,λ_=>zyJ,(λ_ _ _ z=>nomatch z),zyJ,(λ_ _ _ z=>nomatch z),ht,(λ_ z=>z.elim),λa z=>(no a z).elim,λi s e=>?_⟩;unfold Yl at e;unfold L2.start
 by_cases hi:i<ds.length
 . rw[zyP (by rw[zzB];exact hi),zzI]at e;obtain⟨d,hd,ea⟩:=zzX.mp e;subst ea;obtain⟨v,hv,rv⟩:=rp.get hd;rw[zyP (by rw[zzB,hl];exact hi),zzI,hv];refine⟨v,rfl,.lf<|rv.less λa z=>?_⟩
   rcases z with(z|z)|z
   . exact z
   . exact z.elim
   . exact(no a z).elim
 . rw[zyR<|by rw[zzB];omega]at e;have:=zyA e;have ea:=(List.mem_replicate.mp this).2;subst ea;rfl
section
variable{P:Program}{w:World}{K:zzA}{mg:Str->Option Value}{base:Heap}
def Su(q:rT K kd F H Q o)(ro:RetOk K kd F T H' v o)(g:Grow (Gw [] λ_=>[]) H (· ∈ T) H'):Q v H':=by
 have no:∀a,¬Gw [] (λ_=>[]) a:=λa z=>z.elim (λy=>nomatch y) λ⟨_,y⟩=>nomatch y;exact q v T H' ro.nd (λa m=>(g.own a m).resolve_left<|no a) (λb u h=>g.keep b u h<|no b) ro.tr ro.ro
def tB{kd}{x qual}{st}{f}{fd}{N ps}{k:Nat}{c}(Fn:Fun K x qual st f fd)(S:FnScope N ps (zw st))
 (hb:∀(cdv:Value) (A:Around) (outer:List Env) (s:Shared) (H:Hp) (E:XK),Room k (A.deeper<|envOfC qual (zw st) s.heap.objs.size f cdv)->EW (Md Sm P w K mg base N qual (zw st) f cdv A outer s H E).nox kd (YH st) c):
 FnOk P w K mg base Sm (k+1) f fd ps (ui K kd<|wQ N.length ps.length c):=by
 with_unfolding_all (
 refine Fn.ok S (λvs H Q E h=>?_) λcdv A outer s H vs Q E hr h=>⟨_,hb cdv A outer s H E hr, ?_⟩
 . obtain⟨F,ds,r,_,rp,e,_⟩:=h;unfold wQ at e
   by_cases hl:ds.length=ps.length
   . rw[rp.length,hl]
   . rw[if_neg hl]at e;cases e
 . obtain⟨F,ds,r,ht,rp,e,q⟩:=h;unfold wQ at e
   by_cases hl:ds.length=ps.length
   . rw[if_pos hl]at e;obtain⟨o,e1,e⟩:=bS_ e;refine⟨F,λ_=>False,λ_=>[],Yl N.length ds,o,B_ ht rp,e1, ?_⟩;cases o with
     |nx as=>cases e;exact λσ' ad' H' R g=>Su q (T:=[]) ⟨zyJ,(λ_ m=>nomatch m),.lf .non⟩ (g.trans<|Grow.less (λ_ z=>nomatch z))
     |rt o=>cases e;exact λv T H' ro g=>Su q ro g
     |bk=>cases e
     |ct=>cases e
   . rw[if_neg hl]at e;cases e)
end
abbrev ZV:=Bool×D
abbrev GF:=ZV->AS->Option AS
abbrev JS:=List ZV->AS->Option AS
def kids(st:Bool)(ds:List D):List ZV:=ds.map λd=>(yr d||st,d)
inductive RpI(K:zzA)(kd:KD)(F B G:Addr->Prop)(H:Hp):List V->List ZV->Prop
 |nil:RpI K kd F B G H [] []
 |cons {v:V}{x:ZV}{vs:List V}{ds:List ZV}:Rp K kd (Lv F B G x.1) H v x.2->RpI K kd F B G H vs ds->RpI K kd F B G H (v::vs) (x::ds)
def rf(K:zzA)(kd:KD)(S:List Nat)(g:GF):TG:=λv σ H Q=>∃F B ad as x as',Rel K kd F B [] ad as σ H/\Rp K kd (Lv F B (Gw [] ad) x.1) H v x.2/\g x as=some as'/\
 ∀σ' ad' H',Rel K kd F B [] ad' as' σ' H'->Grow (Gw [] ad) H (Gw [] ad') H'->(∀j,j ∉ S->σ'[j]? = σ[j]?)->Q σ' H'
def qp(K:zzA)(kd:KD)(S:List Nat)(g:JS):Da:=λvs σ H Q=>∃F B ad as ds as',Rel K kd F B [] ad as σ H/\RpI K kd F B (Gw [] ad) H vs ds/\g ds as=some as'/\
 ∀σ' ad' H',Rel K kd F B [] ad' as' σ' H'->Grow (Gw [] ad) H (Gw [] ad') H'->(∀j,j ∉ S->σ'[j]? = σ[j]?)->Q σ' H'
@[irreducible] def AG(X:Cx)(kd:KD)(tg:Expr)(S:List Nat)(g:GF):Prop:=PG X tg<|rf X.K kd S g
@[irreducible] def JO(X:Cx)(kd:KD)(tg:List Expr)(S:List Nat)(g:JS):Prop:=JF X tg<|qp X.K kd S g
def Aw(h:PG X e t)(k:∀v σ H Q,t' v σ H Q->t v σ H Q):PG X e t':=λpins s σ H v u Q I r q=>h pins s σ H v u Q I r<|k v σ H Q q
def Ba(h:JF X e t)(k:∀v σ H Q,t' v σ H Q->t v σ H Q):JF X e t':=λpins s σ H v u Q I r q=>h pins s σ H v u Q I r<|k v σ H Q q
def gN(i:Nat):GF:=λx as=>if i<as.length then some (as.set i<|some<|.lf x.1 x.2)else none
def xG:JS:=λds as=>match ds with | []=>some as|_::_=>none
def yd(g:GF)(gs:JS):JS:=λds as=>match ds with | []=>none|d::r=>(g d as).bind λas1=>gs r as1
def gT(n:Nat)(gs:JS):GF:=λx as=>match x.2 with
 | .tup ds=>if ds.length=n then gs (kids x.1 ds) as else none
 | .lst ds=>if ds.length=n then gs (kids x.1 ds) as else none
 |_=>none
section
variable{K:zzA}{kd:KD}{F B G G':Addr->Prop}{H H':Hp}
theorem RpI.length(h:RpI K kd F B G H vs ds):vs.length=ds.length:=by
 induction h with
 |nil=>rfl
 |cons _ _ ih=>exact congrArg (· + 1) ih
theorem RpI.grow(g:Grow G H G' H')(h:RpI K kd F B G H vs ds):RpI K kd F B G' H' vs ds:=by
 induction h with
 |nil=>exact .nil
 |cons h _ ih=>exact .cons (Rp.grow g h) ih
def RpI.get{vs}{ds}{i:Nat}{x}(h:RpI K kd F B G H vs ds)(e:ds[i]? = some x):∃v,vs[i]? = some v/\Rp K kd (Lv F B G x.1) H v x.2:=by
 induction h generalizing i with
 |nil=>simp at e
 |cons h r ih=>
  cases i with
  |zero=>simp at e;subst e;exact⟨_,rfl,h⟩
  |succ i=>
   obtain⟨v,h1,h2⟩:=ih (by simpa using e);exact⟨v,by simpa using h1,h2⟩
def XY{st}{vs}{ds}(h:RpL K kd (Lv F B G st) H vs ds):RpI K kd F B G H vs (kids st ds):=
 RpL.ind (P:=λvs ds=>RpI K kd F B G H vs<|kids st ds) .nil (λ{v d vs ds} h _ ih=>by
  refine .cons (x:=(yr d||st,d)) ?_ ih;cases e:yr d with
  |true=>exact h.flat e
  |false=>exact h) h
end
section
variable{prog:Program}{w:World}{A:Around}{E:Value->Shared->Prop}{s:Shared}
theorem Kx(hne:l≠it):∀(n i:Nat) (s:Shared) (Q:List Value->Shared->Prop),s.heap.IsListIter it l i->s.heap.IsList l items->i+n<=items.size->
 (∀h',h'.IsListIter it l (i+n)->Heap.SameBut it s.heap h'->Q ((items.toList.drop i).take n) {s with heap:=h'})->wpAny (model prog w) A (draw (.ref it) n) Q E s
 |0,i,s,Q,hit,_,_,hQ=>by
  exact zxH (by simpa using hQ s.heap hit (Heap.SameBut.refl ..))
 |n+1,i,s,Q,hit,ht,hle,hQ=>by
  have hlt:i<items.size:=by omega
  refine zxG<|wpAny_pyNext_list_item hit ht (x:=items[i]) (by simp[hlt]) λh₁ hit₁ hs₁=>?_;refine zxG<|zxM<|Kx hne n (i+1) _ _ hit₁ (ht.extBut hs₁.extBut hne) (by omega) λh₂ hit₂ hs₂=>zxH ?_;have hd:items.toList.drop i=items[i]::items.toList.drop (i+1):=by simp[zyQ,hlt]
  have:=hQ h₂ (by rw[show i+(n+1)=i+1+n by omega];exact hit₂)<|hs₁.trans hs₂;rw[hd,List.take_succ_cons]at this;exact this
def NP(hh:A.handled=none)(ht:s.heap.IsList l items)
 (hn:targets.length=items.size) (hstar:targets.findIdx? (·.1)=none)
 (h:∀h',Heap.ExtBut s.heap.objs.size s.heap h'->wpAny (model prog w) A (assignInOrder (targets.map (·.2)) items.toList) Q E {s with heap:=h'}):
 wpAny (model prog w) A (unpack (.ref l) targets) Q E s:=by
 unfold unpack;rw[hn,hstar];refine zxG<|zxM ?_;have hlt:l≠s.heap.objs.size:=by obtain⟨o,ho,_⟩:=ht;exact zzQ<|zxJ ho
 unfold unpackItems;refine zxG ?_;unfold notIterableAtAll;refine zxG<|wpAny_specialOf ht.typeIs PySem.F.slot_list_iter.lookup ?_;refine zxH ?_;simp only[Bool.false_eq_true,if_false];refine zxG<|zxM<|wpAny_pyIter_list ht ?_;refine zxG<|zxM<|Kx hlt items.size 0 _ _ ⟨_,zxK _ rfl,rfl,rfl⟩ (ht.push _) (by omega) λh₁ hit₁ hs₁=>?_;have hall:List.take items.size (List.drop 0 items.toList)=items.toList:=by
  rw[List.drop_zero];exact List.take_of_length_le (by simp)
 rw[hall];rw[if_neg<|by simp];have ht₁:=(ht.push _).extBut hs₁.extBut hlt;refine zxG<|zxM<|wpAny_pyNext_list_end hh hit₁ ht₁ (by simp) λh₂ he₂=>?_;simp only[Option.isSome_none,Bool.false_eq_true,if_false];exact zxH<|h h₂ λb o hb e=>he₂ b o hb<|hs₁.extBut b o hb<|zxI _ e
end
section
variable{X:Cx}{kd:KD}{a b c e tg iter:Expr}{es:List Expr}{body:List Stmt}{fa fb:EF}{pos:Pos}{g:GF}{gs:JS}{f:SF}{ta:TF}{S S1 S2:List Nat}
def qE(K:zzA)(n:Nat)(t:Da):TG:=λv σ H Q=>∃a xs,v = .ref a/\YM K H a xs/\xs.length=n/\t xs σ H Q
def SN(hc:X.calm=true)(h:JF X es t)(hn:(assignEach es X.env).length=n)(hst:(assignEach es X.env).findIdx? (·.1)=none):PG X (.Tuple es k pos) (qE X.K n t):=by
 intro pins s σ H v u Q I r hw;obtain⟨a,xs,e1,hq,hl,hw⟩:=hw;subst e1;cases r;obtain⟨its,rv,ht,hz⟩:=I.list hq;rw[assign_Tuple];refine zxG<|wpAny_standAt<|NP (I.ok.hd hc) ht.isList (by simp[hn,<-hl,rv.length]) hst λh' hx=>?_;have I1:=I.kept (t':=s.toks) λb o e=>hx b o (zzQ<|zxJ e) e;exact h pins _ σ H xs _ Q I1 (by simpa using rv) hw
def FN(hN:X.N.Nodup)(hi:X.N[i]? = some x)(hx:Loc X.env.scope x)(hf:X.fn x=true\/X.env.scope.names.lookup x=some .local):AG X kd (.Name x pos) [i] (gN i):=by with_unfolding_all exact(Aw (IW hN hi hx hf) λv σ H Q h=>by
 obtain⟨F,B,ad,as,y,as',R,rp,e,q⟩:=h;obtain⟨hl,e⟩:=zT e;cases e;exact q _ _ H (R.put hl<|.lf rp) (Grow.less YJ) λj hj=>zzY λz=>hj<|by rw[z];simp)
def Vx:JO X kd [] [] xG:=by with_unfolding_all exact(Ba CZ λvs σ H Q h=>by
 obtain⟨F,B,ad,as,ds,as',R,rp,e,q⟩:=h;cases rp with
 |nil=>cases e;exact⟨rfl,q σ ad H R Grow.refl λ_ _=>rfl⟩
 |cons=>cases e)
def vF(h1:AG X kd a S1 g)(h2:JO X kd es S2 gs)(hs:(assignEach (a::es) X.env).map (·.2)=assign a X.env::(assignEach es X.env).map (·.2)):JO X kd (a::es) (S1++S2) (yd g gs):=by with_unfolding_all exact(Ba (HR h1 h2 hs) λvs σ H Q h=>by
 obtain⟨F,B,ad,as,ds,as',R,rp,e,q⟩:=h;cases rp with
 |nil=>cases e
 |cons r rr=>
  obtain⟨as1,e1,e⟩:=bS_<|e;refine⟨_,_,rfl,F,B,ad,as,_,as1,R,r,e1,λσ' ad' H' R' g' k'=>?_⟩;exact⟨F,B,ad',as1,_,as',R',rr.grow g',e,λσ2 ad2 H2 R2 g2 k2=>q σ2 ad2 H2 R2 (g'.trans g2) λj hj=>(k2 j λz=>hj<|zzL _ z).trans<|k' j λz=>hj<|zzP _ z⟩)
def P4{k n:Nat}(hc:X.calm=true)(h:JO X kd es S gs)(hn:(assignEach es X.env).length=n)(hst:(assignEach es X.env).findIdx? (·.1)=none):AG X kd (.Tuple es k pos) S (gT n gs):=by
 with_unfolding_all (
 intro pins s σ H v u Q I r hw;obtain⟨F,B,ad,as,⟨st,d⟩,as',R,rp,e,q⟩:=hw;cases d with
 |tup ds=>
  have e:(if ds.length=n then gs (kids st ds) as else none)=some as':=e
  by_cases hl:ds.length=n
  . rw[if_pos hl]at e;have go:∃a xs,v = .ref a/\Qy X.K H a xs/\RpL X.K kd (Lv F B (Gw [] ad) st) H xs ds:=by
     cases rp with
     |tup n h r=>exact⟨_,_,rfl,.inl<|.inl h,r⟩
    obtain⟨a,xs,rfl,hs,rl⟩:=go;exact DB hc h hn hst pins s σ H _ u Q I r ⟨a,xs,rfl,hs,by rw[rl.length,hl],F,B,ad,as,_,as',R,XY rl,e,q⟩
  . rw[if_neg hl]at e;cases e
 |lst ds=>
  have e:(if ds.length=n then gs (kids st ds) as else none)=some as':=e
  by_cases hl:ds.length=n
  . rw[if_pos hl]at e;cases rp with
    |lstK a b c r'=>exact SN hc h hn hst pins s σ H _ u Q I r ⟨_,_,rfl,.inr ⟨_,_,_,a,rfl,rfl,rfl,b,c⟩,by rw[r'.length,hl],F,B,ad,as,_,as',R,XY r',e,q⟩
    |lst n h' r'=>exact SN hc h hn hst pins s σ H _ u Q I r ⟨_,_,rfl,.inl h',by rw[r'.length,hl],F,B,ad,as,_,as',R,XY r',e,q⟩
  . rw[if_neg hl]at e;cases e
 |_=>cases e)
def Q7(as:AS)(r:RV):Option (ZV×AS):=(HL as r.frz).bind λx=>match x.1 with | .lf st d=>some ((st,d),x.2)|_=>none
def X8{K}{F B}{T}{ad}{as as'}{σ}{H}{v}{r}{x}(R:Rel K kd F B T ad as σ H)(h:xh K kd F B T ad σ H v r)(e:Q7 as r=some (x,as')):
 ∃ad',Rel K kd F B [] ad' as' σ H/\Rp K kd (Lv F B (Gw [] ad') x.1) H v x.2/\∀a,Gw [] ad' a->Gw T ad a:=by
 obtain⟨⟨o,as1⟩,h1,e⟩:=bS_ e;obtain⟨ad1,R1,ro,le⟩:=RR R.drop (xh.drop R h) h1;cases o with
 |lf st d=>
  cases e;refine⟨ad1,R1, ?_,λa y=>Gw.drop a<|le a y⟩;have:=KY ro;exact this
 |nd k os=>cases e
def Zo(f:EF)(g:GF):SF:=λas=>(f as).bind λp=>(Q7 p.2 p.1).bind λq=>(g q.1 q.2).bind λas'=>some<|.nx as'
def uf(he:AE X kd e fa)(hg:AG X kd tg S g)(hs:swapsWithSole [tg] e pos.line X.env=pure false)(hw:swappedStores [tg] e X.env=pure none)(h1:(assignEach [tg] X.env).map (·.2)=[assign tg X.env]):
 Ks X kd (.Assign [tg] e pos) (Zo fa g):=by with_unfolding_all exact(vM (LM he hg hs hw h1) λD σ H h=>by
 obtain⟨F,B,ad,as,o,R,e,q⟩:=h;obtain⟨⟨p,as1⟩,h1,e⟩:=bS_<|e;obtain⟨⟨x,as2⟩,h2,e⟩:=bS_ e;obtain⟨as3,h3,e⟩:=bS_ e;cases e;refine⟨F,B,ad,as,p,as1,R,h1,λv T' ad' H' R' rv g1=>?_⟩;obtain⟨ad2,R2,rp,le⟩:=X8 R' rv h2;exact⟨F,B,ad2,as2,_,as3,R2,rp,h3,λσ' ad' H' R' g' _=>q σ' ad' H' R'<|(g1.trans<|Grow.less le).trans g'⟩)
structure ItOk(K:zzA)(kd:KD)(F B:Addr->Prop)(ad:Ad)(H:Hp)(J:It)(ds:List ZV):Prop where
 all:∀(ad2:Ad) (H2:Hp),Grow (Gw [] ad) H (Gw [] ad2) H2->(∀st a,Lv F B (Gw [] ad2) st a->H2 a≠none)->∀i,(i<ds.length->J.go i H2)/\(ds.length<=i->J.stop i H2)/\
  ∀v H3,J.yld i H2 v H3->(∀b o,H2 b=some o->H3 b=some o)/\∀x,ds[i]? = some x->Rp K kd (Lv F B (Gw [] ad2) x.1) H3 v x.2
abbrev IF:=AS->Option (List ZV×AS)
def oq(K:zzA)(kd:KD)(f:IF):TI:=λσ H R=>∃F B ad as ds as',Rel K kd F B [] ad as σ H/\f as=some (ds,as')/\
 ∀J ad' H',Rel K kd F B [] ad' as' σ H'->Grow (Gw [] ad) H (Gw [] ad') H'->ItOk K kd F B ad' H' J ds->R J H'
@[irreducible] def AI(X:Cx)(kd:KD)(tg iter:Expr)(f:IF):Prop:=PI X tg iter<|oq X.K kd f
def forL(g:GF)(f:SF):List ZV->AS->Option Out
 | [],as=>some (.nx as)
 |d::r,as=>(g d as).bind λas1=>(f as1).bind λo=>match o with
  | .nx as'=>forL g f r as'
  | .ct as'=>forL g f r as'
  | .bk as'=>some<|.nx as'
  | .rt r=>some<|.rt r
def yK(fi:IF)(g:GF)(f:SF):SF:=λas=>(fi as).bind λp=>forL g f p.1 p.2
def Xk(hp:PassesOwn (model X.prog X.w) X.A X.env X.xe)(hc:X.calm=true)(hi:AI X kd tg iter fi)(hg:AG X kd tg S g)(hb:EW X kd body f)(hs:∀x,foldedSetIterable iter X.env x=pure x):
 Ks X kd (.For tg iter body [] pos) (yK fi g f):=by with_unfolding_all exact(vM (Dy hp hc hi hg hb hs) λD σ H h=>by
 obtain⟨F,B,ad,as,o,R,e,q⟩:=h;obtain⟨⟨ds,as1⟩,h1,e⟩:=bS_<|e;refine⟨F,B,ad,as,ds,as1,R,h1,λJ ad1 H1 R1 g1 it=>?_⟩;refine⟨λi m σ2 H2=>m+i=ds.length/\∃ad2 as2,Rel X.K kd F B [] ad2 as2 σ2 H2/\Grow (Gw [] ad1) H1 (Gw [] ad2) H2/\forL g f (ds.drop i) as2=some o,⟨ds.length,rfl,ad1,as1,R1,Grow.refl,e⟩, ?_⟩
 rintro i m σ2 H2 ⟨hm,ad2,as2,R2,g2,e2⟩
 obtain⟨k1,k2,k3⟩:=it.all ad2 H2 g2 R2.trk i
 by_cases hi:i<ds.length
 . refine .inr ⟨k1 hi,λσ3 H3=>∃ad3 as3,Rel X.K kd F B [] ad3 as3 σ3 H3/\Grow (Gw [] ad1) H1 (Gw [] ad3) H3/\forL g f (ds.drop<|i+1) as3=some o,λσ3 H3 ⟨ad3,as3,R3,g3,e3⟩=>⟨m-1,by omega,by omega,ad3,as3,R3,g3,e3⟩,λv H3 hy=>?_⟩;obtain⟨kp,rp⟩:=k3 v H3 hy;rw[zyQ hi]at e2;obtain⟨as3,e3,e2⟩:=bS_<|e2;obtain⟨o3,e4,e2⟩:=bS_ e2;obtain⟨R3,g3⟩:=R2.more kp;refine⟨F,B,ad2,as2,_,as3,R3,rp _<|zzE hi,e3,λσ4 ad4 H4 R4 g4 _=>?_⟩;refine⟨F,B,ad4,as3,o3,R4,e4, ?_⟩;have gg:=(g2.trans g3).trans g4;cases o3 with
   |nx as5=>exact λσ5 ad5 H5 R5 g5=>⟨ad5,as5,R5,gg.trans g5,e2⟩
   |ct as5=>exact λσ5 ad5 H5 R5 g5=>⟨ad5,as5,R5,gg.trans g5,e2⟩
   |bk as5=>
    cases e2;exact λσ5 ad5 H5 R5 g5=>q σ5 ad5 H5 R5 (g1.trans<|gg.trans g5)
   |rt r=>
    cases e2;exact λv T H5 ro g5=>q v T H5 ro<|g1.trans<|gg.trans g5
 . refine .inl ⟨k2 (by omega), ?_⟩;rw[List.drop_eq_nil_of_le<|by omega]at e2;cases e2;exact q σ2 ad2 H2 R2<|g1.trans g2)
def Sr(c:TF)(f:SF):Nat->AS->Option Out
 |0,_=>none
 |n+1,as=>(c as).bind λp=>if p.1=true then(f p.2).bind λo=>match o with
  | .nx as'=>Sr c f n as'
  | .ct as'=>Sr c f n as'
  | .bk as'=>some<|.nx as'
  | .rt r=>some (.rt r)else some<|.nx p.2
def SW(hp:PassesOwn (model X.prog X.w) X.A X.env X.xe)(hc:AT X kd c ta)(hb:EW X kd body f):Ks X kd (.While c body [] pos) (Sr ta f n):=by with_unfolding_all exact(vM (SZ hp hc hb) λD σ H h=>by
 obtain⟨F,B,ad,as,o,R,e,q⟩:=h;refine⟨λm σ2 H2=>∃ad2 as2,Rel X.K kd F B [] ad2 as2 σ2 H2/\Grow (Gw [] ad) H (Gw [] ad2) H2/\Sr ta f m as2=some o,⟨n,ad,as,R,Grow.refl,e⟩, ?_⟩
 rintro m σ2 H2 ⟨ad2,as2,R2,g2,e2⟩
 cases m with
 |zero=>cases e2
 |succ m=>
  obtain⟨⟨p,as3⟩,e3,e2⟩:=bS_<|e2;refine⟨F,B,ad2,as2,p,as3,R2,e3,λad3 H3 R3 g3=>?_⟩;cases p with
  |true=>
   rw[if_pos rfl]at e2 ⊢;obtain⟨o3,e4,e2⟩:=bS_ e2;refine⟨λσ3 H3=>∃ad3 as3,Rel X.K kd F B [] ad3 as3 σ3 H3/\Grow (Gw [] ad) H (Gw [] ad3) H3/\Sr ta f m as3=some o,λσ3 H3 h=>⟨m,by omega,h⟩,F,B,ad3,as3,o3,R3,e4, ?_⟩;have gg:=g2.trans g3;cases o3 with
   |nx as5=>exact λσ5 ad5 H5 R5 g5=>⟨ad5,as5,R5,gg.trans g5,e2⟩
   |ct as5=>exact λσ5 ad5 H5 R5 g5=>⟨ad5,as5,R5,gg.trans g5,e2⟩
   |bk as5=>
    cases e2;exact λσ5 ad5 H5 R5 g5=>q σ5 ad5 H5 R5 (gg.trans g5)
   |rt r=>
    cases e2;exact λv T H5 ro g5=>q v T H5 ro (gg.trans g5)
  |false=>
   rw[if_neg zyW]at e2 ⊢;cases e2;exact q σ2 ad3 H3 R3<|g2.trans g3)
def Mr:ZV->Option (List ZV)
 |(st,.lst ds)=>some (kids st ds)
 |(st,.tup ds)=>some (kids st ds)
 |_=>none
def Wa(f:EF):IF:=λas=>(f as).bind λp=>(Q7 p.2 p.1).bind λq=>(Mr q.1).bind λds=>some (ds,q.2)
def FJ{K}{F B}{ad}{H}{a}{vs}{ds}(hs:∀(ad3:Ad) (H3:Hp),Grow (Gw [] ad) H (Gw [] ad3) H3->YM K H3 a vs)(r:RpI K kd F B (Gw [] ad) H vs ds):ItOk K kd F B ad H (sQ K a) ds:=⟨λad3 H3 g3 _ i=>by
 have hr3:=hs ad3 H3 g3;have rl3:=r.grow g3;refine⟨λhi=>?_,λhi=>⟨_,hr3,by rw[r.length];exact hi⟩,λv H4 hy=>?_⟩
 . obtain⟨u,hu,_⟩:=r.get<|zzE hi;exact⟨_,u,hr3,hu⟩
 . obtain⟨rfl,hv⟩:=hy;refine⟨λ_ _ z=>z,λd hd=>?_⟩;obtain⟨u,hu,ru⟩:=rl3.get hd;have:=hv _ hr3;rw[hu]at this;cases this;exact ru⟩
def A9{K}{F B}{ad}{H}{a}{vs}{ds}(hs:∀(ad3:Ad) (H3:Hp),Grow (Gw [] ad) H (Gw [] ad3) H3->Qy K H3 a vs)(r:RpI K kd F B (Gw [] ad) H vs ds):ItOk K kd F B ad H (sZ K a) ds:=⟨λad3 H3 g3 _ i=>by
 have hr3:=hs ad3 H3 g3;have rl3:=r.grow g3;refine⟨λhi=>?_,λhi=>⟨_,hr3,by rw[r.length];exact hi⟩,λv H4 hy=>?_⟩
 . obtain⟨u,hu,_⟩:=r.get<|zzE hi;exact⟨_,u,hr3,hu⟩
 . obtain⟨rfl,hv⟩:=hy;refine⟨λ_ _ z=>z,λd hd=>?_⟩;obtain⟨u,hu,ru⟩:=rl3.get hd;have:=hv _ hr3;rw[hu]at this;cases this;exact ru⟩
def Ae(he:AE X kd e fa):AI X kd tg e (Wa fa):=by
 with_unfolding_all (
 intro pins s σ H R I h;obtain⟨F,B,ad,as,ds,as',Rl,e,q⟩:=h;obtain⟨⟨p,as1⟩,h1,e⟩:=bS_<|e;obtain⟨⟨⟨st,x⟩,as2⟩,h2,e⟩:=bS_ e;obtain⟨ys,h3,e⟩:=bS_ e;cases e;cases x with
 |lst xs=>
  cases h3;refine K3 he pins s σ H R I ⟨F,B,ad,as,p,as1,Rl,h1,λv T1 ad1 H1 R1 rv1 g1=>?_⟩;obtain⟨ad2,R2,rp,le⟩:=X8 R1 rv1 h2;cases rp with
  |lst hn hr rl=>exact⟨_,rfl,⟨_,.inl hr⟩,q _ ad2 H1 R2 (g1.trans<|Grow.less le)<|FJ (λad3 H3 g3=>.inl<|Vt g3 (λz=>hn<|.inr z) hr)<|XY rl⟩
  |lstK a b c rl=>exact⟨_,rfl,⟨_,.inr ⟨_,_,_,a,rfl,rfl,rfl,b,c⟩⟩,q _ ad2 H1 R2 (g1.trans<|Grow.less le)<|FJ (λad3 H3 g3=>.inr ⟨_,_,_,a,rfl,rfl,rfl,b,c⟩)<|XY rl⟩
 |tup xs=>
  cases h3;refine Ew he pins s σ H R I ⟨F,B,ad,as,p,as1,Rl,h1,λv T1 ad1 H1 R1 rv1 g1=>?_⟩;obtain⟨ad2,R2,rp,le⟩:=X8 R1 rv1 h2;have go:∃a ys,v = .ref a/\(∀(ad3:Ad) (H3:Hp),Grow (Gw [] ad2) H1 (Gw [] ad3) H3->Qy X.K H3 a ys)/\RpL X.K kd (Lv F B (Gw [] ad2) st) H1 ys xs:=by
   cases rp with
   |tup n h r=>exact⟨_,_,rfl,λad3 H3 g3=>.inl<|Vt g3 (λz=>n<|.inr z)<|.inl h,r⟩
  obtain⟨a,ys,rfl,hs,rl⟩:=go;exact⟨_,rfl,⟨_,hs ad2 H1 Grow.refl⟩,q _ ad2 H1 R2 (g1.trans<|Grow.less le)<|A9 hs<|XY rl⟩
 |_=>cases h3)
def xk(lo:Int)(n:Nat):List ZV:=(List.range n).map λ(i:Nat)=>(true,D.int<|lo+(i:Int))
def Dm{K}{F B}{ad}{H}(lo)(n:Nat):ItOk K kd F B ad H (sd lo n) (xk lo n):=⟨λad2 H2 g _ i=>by
 have hl:(xk lo n).length=n:=by unfold xk;simp
 refine⟨λhi=>by rw[hl]at hi;exact hi,λhi=>by rw[hl]at hi;exact hi,λv H3 hy=>?_⟩;obtain⟨rfl,rfl⟩:=hy;refine⟨λ_ _ z=>z,λd hd=>?_⟩;have hi:i<n:=by rw[<-hl];exact(zzG.mp hd).1
 unfold xk at hd;rw[zzI,List.getElem?_range hi]at hd;cases hd;exact .int _⟩
def uM:List D->Option D
 | [x]=>some x
 |_=>none
def II(h:uM ds=some d):ds=[d]:=by
 cases ds with
 |nil=>cases h
 |cons x r=>
  cases r with
  |nil=>cases h;rfl
  |cons _ _=>cases h
def z_(ds:List D):Option (List ZV):=((uM ds).bind T_).bind λj=>if -(2 ^ 62)<=j/\j<2 ^ 62 then some (xk 0 j.toNat)else none
def Fx(h:z_ ds=some xs):∃j,ds=[.int j]/\(if -(2 ^ 62)<=j/\j<2 ^ 62 then some (xk 0 j.toNat)else none)=some xs:=by
 obtain⟨j,h1,h⟩:=bS_ h;obtain⟨d,h2,h1⟩:=bS_ h1;cases K1 h1;exact⟨j,II h2,h⟩
def zY(fr:AF)(h:List D->Option (List ZV)):IF:=λas=>(fr as).bind λp=>(views p.2 p.1).bind λds=>(h ds.1).bind λxs=>some (xs,p.2)
def Ki(hg:Gl X "range")(hm:X.mg "range"=none)(ha:AA X kd [a] fr)(hs:starEach [a] X.env=[(false,eval a X.env)]):AI X kd tg (.Call (.Name "range" p) [a] [] pos) (zY fr z_):=by
 with_unfolding_all (
 intro pins s σ H R I h;obtain⟨F,B,ad,as,ds,as',Rl,e,q⟩:=h;obtain⟨⟨ps,as1⟩,h1,e⟩:=bS_<|e;obtain⟨⟨xs,lv⟩,h2,e⟩:=bS_ e;obtain⟨ys,h3,e⟩:=bS_ e;cases e;obtain⟨j,rfl,h3⟩:=Fx h3
 . obtain⟨hj,e3⟩:=zT h3;cases e3;refine Kr hg hm ha hs pins s σ H R I ⟨F,B,ad,as,ps,_,Rl,h1,λvs ad1 H1 R1 rv1 g1=>?_⟩;have vl:=XR R1 rv1 h2;cases vl with
   |cons v1 v2=>
    cases v2;cases v1;exact⟨j,rfl,hj.1,hj.2,q _ ad1 H1 R1 g1<|Dm 0 _⟩)
def Rel.mut{K}{F B}{T fo}{ad}{as}{σ}{H}{i:Nat}{l}{fp fp'}{n}{u}(R:Rel K kd F B T ad as σ H)(hi:i<as.length)(hl:ad i=l::fp)(hs:σ[i]? = some (some<|.ref l))
 (hsub:∀a ∈ fp'++fo,a ∈ fp++T) (hnd:(fp'++fo).Nodup) (hu:H l≠none)
 (ro:∀(H':Hp) (G':Addr->Prop),H' l=some u->Grow (Gw T ad) H G' H'->(∀a ∈ fp',∀w,H a=some w->H' a=some w)->Zj K kd F B G' H' (.ref l) n (l::fp')):
 Rel K kd F B fo (YQ ad i (l::fp')) (as.set i<|some n) σ (upd H l u)/\Grow (Gw T ad) H (Gw fo<|YQ ad i (l::fp')) (upd H l u):=by
 have hli:l ∈ ad i:=by rw[hl];exact zzF
 have lT:=R.dis i l hli;have lfp:l ∉ fp:=by have:=R.nd i;rw[hl]at this;exact(zzW.mp this).1
 have lsub:∀a ∈ fp'++fo,a≠l:=λa m e=>by
  subst e
  rcases zzM.mp (hsub _ m)with z|z
  . exact lfp z
  . exact lT z
 have sub:∀a ∈ fp'++fo,Gw T ad a:=λa m=>by
  rcases zzM.mp (hsub a m)with z|z
  . exact .inr ⟨i,by rw[hl];exact zzD _ z⟩
  . exact .inl z
 have gsub:∀a,Gw fo (YQ ad i (l::fp')) a->Gw T ad a:=λa z=>by
  rcases z with z|⟨j,z⟩
  . exact sub a<|zzL _ z
  . by_cases e:j=i
    . subst e;rw[yw]at z
      rcases zzC.mp z with z|z
      . subst z;exact .inr ⟨j,hli⟩
      . exact sub a<|zzP _ z
    . rw[yz e]at z;exact .inr ⟨j,z⟩
 have g:Grow (Gw T ad) H (Gw fo<|YQ ad i (l::fp')) (upd H l u):=⟨λb w h n=>by rw[zX λe=>n<|by subst e;exact .inr ⟨i,hli⟩];exact h,λb z=>.inl<|gsub b z⟩;have kn:∀a,H a≠none->upd H l u a≠none:=λa z=>by
  by_cases e:a=l
  . subst e;rw[yy];simp
  . rw[zX e];exact z
 obtain⟨hnd1,hnd2,hnd3⟩:=zxF.mp hnd;have inT:∀j a,j≠i->a ∈ ad j->a ∈ fp'++fo->False:=λj a hj m m'=>by
  rcases zzM.mp (hsub a m')with z|z
  . exact hj (R.inj j i a m<|by rw[hl];exact zzD _ z)
  . exact R.dis j a m z
 refine⟨⟨by rw[zzU];exact R.len,λj hj=>?_,λj=>?_,λj k a h1 h2=>?_,hnd2,λj a h1 h2=>?_,λa z=>kn a<|R.ftr a z,λa z=>?_,λa z=>⟨kn a (R.gtr a<|gsub a z).1,(R.gtr a<|gsub a z).2⟩,λj s e=>?_⟩,g⟩
 . rw[zzU]at hj;rw[yz<|by omega];exact R.out j hj
 . by_cases e:j=i
   . subst e;rw[yw];exact zzW.mpr ⟨λm=>lsub l (zzP _ m) rfl,hnd1⟩
   . rw[yz e];exact R.nd j
 . by_cases e:j=i
   . subst e
     by_cases e':k=j
     . exact e'.symm
     . rw[yw]at h1;rw[yz e']at h2
       rcases zzC.mp h1 with z|z
       . subst z;exact R.inj j k a hli h2
       . exact(inT k a e' h2<|zzP _ z).elim
   . rw[yz e]at h1
     by_cases e':k=i
     . subst e';rw[yw]at h2
       rcases zzC.mp h2 with z|z
       . subst z;exact R.inj j k a h1 hli
       . exact(inT j a e h1<|zzP _ z).elim
     . rw[yz e']at h2;exact R.inj j k a h1 h2
 . by_cases e:j=i
   . subst e;rw[yw]at h1
     rcases zzC.mp h1 with z|z
     . subst z;exact lsub a (zzL _ h2) rfl
     . exact hnd3 a z a h2 rfl
   . rw[yz e]at h1;exact inT j a e h1<|zzL _ h2
 . obtain⟨b1,b2,b3⟩:=R.btr a z;exact⟨kn a b1,b2,λy=>b3<|gsub a y⟩
 . by_cases q:j=i
   . subst q;rw[zyK hi]at e;cases e;rw[yw];refine⟨_,hs,ro _ _ yy g λa m w h=>?_⟩;rw[zX<|lsub a<|zzP _ m];exact h
   . rw[zzY<|Ne.symm q]at e;rw[yz q];refine(R.sl j s e).grow g λa m w h=>?_;rw[zX λz=>q<|R.inj j i l (by rw[<-z];exact m) hli];exact h
abbrev MG:=List O->List O->Option (List O×O)
def xt(i:Nat)(fr:DF)(g:MG):EF:=λas=>match as[i]? with
 |some (some (.nd .ls _))=>(fr as).bind λp=>match p.2[i]? with
  |some (some (.nd .ls os))=>(g os p.1).bind λz=>some (.ow z.2,p.2.set i<|some<|.nd .ls z.1)
  |_=>none
 |_=>none
def se(X:Cx)(kd:KD)(r:V->List V->Hp->VK->Prop)(g:MG):Prop:=
 ∀(F B G:Addr->Prop) (l:Addr) (vs ws:List V) (os es os':List O) (o:O) (fp fq:List Addr) (H:Hp) (Q:VK),H l=some (.lst vs)->vQ X.K kd F B G H vs os fp->vQ X.K kd F B G H ws es fq->(fp++fq).Nodup->g os es=some (os',o)->
  (∀v vs' fp' fo,vQ X.K kd F B G H vs' os' fp'->Zj X.K kd F B G H v o fo->(∀a ∈ fp'++fo,a ∈ fp++fq)->(fp'++fo).Nodup->Q v (upd H l<|.lst vs'))->r (.ref l) ws H Q
def uA{i:Nat}{fr}{g}{r}(hr:se X kd r g)
 {σ}{H}{Q}(h:al X.K kd (xt i fr g) σ H Q):pL X.K "list" r (QM i) (pB X.K kd fr) σ H Q:=by
 obtain⟨F,B,ad,as,z,as',R,e,q⟩:=h;unfold xt at e;cases k:as[i]? with
 |none=>rw[k]at e;cases e
 |some a0=>
  rw[k]at e
  match a0,e,k with
  |some (.nd .ls os0),e,k=>
   obtain⟨⟨es,as1⟩,h1,e⟩:=bS_<|e;obtain⟨v0,hs0,ro0⟩:=R.sl i _ k;generalize hfp0:ad i=fp0 at ro0;cases ro0 with
   |ls hH0 rl0=>
   rename_i l vs0 fp00;refine⟨_,hs0,.inl ⟨rfl,_,.inl<|.inl hH0⟩,F,B,ad,as,es,as1,R,h1,λws T1 ad1 H1 R1 ro1 g1=>?_⟩;cases k2:as1[i]? with
   |none=>rw[k2]at e;cases e
   |some a2=>
    rw[k2]at e
    match a2,e,k2 with
    |some (.nd .ls os),e,k2=>
     obtain⟨⟨os',o⟩,h3,e⟩:=bS_<|e;cases e;obtain⟨v1,hs1,ro2⟩:=R1.sl i _ k2;rw[hs0]at hs1;cases hs1;generalize hfp:ad1 i=fp1 at ro2;cases ro2 with
     |ls hH rl=>
     rename_i vs fp;have hnd:=zxF.mpr ⟨by have:=R1.nd i;rw[hfp]at this;exact(zzW.mp this).2,R1.tnd,λa m b m' e=>by
          subst e;exact R1.dis i a (by rw[hfp];exact zzD _ m) m'⟩
     refine hr F B (Gw T1 ad1) _ vs ws os es os' o fp T1 H1 Q hH rl ro1 hnd h3 λv vs' fp' fo rl' ro' hsub hnd'=>?_;obtain⟨R3,g3⟩:=R1.mut (zzG.mp k2).1 hfp hs0 hsub hnd' (by rw[hH];simp) λH' G' hl' gr kp=>.ls hl'<|vQ.grow gr kp rl';have lno:∀a ∈ fo,∀w,H1 a=some w->upd H1 l (.lst vs') a=some w:=λa m w h=>by
          rw[zX λe=>?_]
          . exact h
          . subst e
            rcases zzM.mp (hsub _<|zzL _ m)with z|z
            . have:=R1.nd i;rw[hfp]at this;exact(zzW.mp this).1 z
            . exact R1.dis i _ (by rw[hfp];exact zzF) z
     exact q v fo _ _ R3 (Zj.grow g3 lno ro')<|g1.trans g3
end
end PF
end
section
set_option exponentiation.threshold 5000
namespace PF
open PySem PySem.Spec PyProof.Rows L2
section
variable{K:zzA}{kd:KD}{O:Addr->Prop}{H:Hp}{Q:VK}
def ym(q:RQ K kd O H Q (.im d))(r:Rp K kd O H v d):Q v H:=q v H (λ_ _ z=>z) r
def Bj(hp:H p=none)(r:RpL K kd O H vs ds):RpL K kd (QA O (· = p)) (upd H p o) vs ds:=
 RpL.grow ⟨λb u q _=>by rw[zX<|yC q hp];exact q,λb z=>.inr<|by rw[z];exact hp⟩ (r.less λa z=>z.elim id False.elim)
def xU(hp:H p=none):∀b u,H b=some u->upd H p o b=some u:=λb u q=>by rw[zX<|yC q hp];exact q
def W8(q:RQ K kd O H Q (.fl ds))(r:RpL K kd O H vs ds):∀p,H p=none->Q (.ref p) (upd H p<|.lst vs):=λp hp=>
 q p vs _ hp (xU hp) yy (Bj hp r)
def Tv(ht:∀a,O a->H a≠none)(q:RQ K kd O H Q (.im<|.tup ds))(r:RpL K kd O H vs ds):∀p,H p=none->Q (.ref p) (upd H p<|.tup vs):=λp hp=>
 q _ _ (xU hp) (.tup (λz=>ht p z hp) yy<|(Bj hp r).less λa z=>.inl z)
end
def big:Nat:=2 ^ 4000
def Nr(h:i.natAbs<big):Builtin.Int.intBits i<=2 ^ 20:=by
 unfold Builtin.Int.intBits
 split
 . exact Nat.zero_le _
 . have:i.natAbs.log2<4000:=by
    rcases Nat.eq_zero_or_pos i.natAbs with h0|hp
    . rw[h0];decide
    . exact(Nat.log2_lt<|Nat.ne_of_gt hp).mpr h
   have e:(2:Nat) ^ 20=1048576:=by decide
   omega
def Sn(f:Int->Int->Option R0)(x y:D):Option R0:=(T_ x).bind λi=>(T_ y).bind λj=>f i j
def qW(x y:D):Option R0:=match x with
 | .int i=>(T_ y).bind λj=>some<|.im<|.int<|i+j
 | .str x=>(pG y).bind λy=>if x.length+y.length<=sizeLine then some (.im<|.str<|x++y)else none
 | .lst xs=>(Il y).bind λys=>if xs.length+ys.length<=sizeLine then some (.fl<|xs++ys)else none
 | .tup xs=>(pJ y).bind λys=>if xs.length+ys.length<=sizeLine then some (.im<|.tup<|xs++ys)else none
 |_=>none
def qi(x y:D):Option R0:=match x with
 | .int i=>(T_ y).bind λj=>if i.natAbs<big/\j.natAbs<big then some (.im<|.int<|i*j)else none
 | .lst xs=>(T_ y).bind λk=>if -(2 ^ 63)<=k/\k<2 ^ 63/\xs.length*k.toNat<=sizeLine then some (.fl (List.replicate k.toNat xs).flatten)else none
 | .tup xs=>(T_ y).bind λk=>if 1<=k/\k<2 ^ 63/\xs.length≠0/\xs.length*k.toNat<=sizeLine then some (.im<|.tup (List.replicate k.toNat xs).flatten)else none
 |_=>none
def Vc(o:Operator)(x y:D):Option R0:=match o with
 | .Add=>qW x y
 | .Sub=>Sn (λi j=>some<|.im<|.int<|i-j) x y
 | .Mult=>qi x y
 | .FloorDiv=>Sn (λi j=>if 0<j/\j.natAbs<big then some (.im<|.int<|i/j)else none) x y
 | .Mod=>Sn (λi j=>if 0<j then some (.im<|.int<|i%j)else none) x y
 | .Pow=>Sn (λi j=>if 0<=j/\j<=1000000/\i.natAbs<2 ^ 64 then some (.im<|.int<|i ^ j.toNat)else none) x y
 |_=>none
def Ym{K}{kd}{O}{H}{v}{d}{i}(h:Vw K kd O H v d)(e:T_ d=some i):d = .int i/\v = .int i:=by
 cases h with
 |int j=>cases e;exact⟨rfl,rfl⟩
 |_=>cases e
def ue{K}{kd}{O}{H}{v}{d}{i}(h:Vw K kd O H v d)(e:pG d=some i):d = .str i/\v = .str i:=by
 cases h with
 |str j=>cases e;exact⟨rfl,rfl⟩
 |_=>cases e
def Yu{K}{kd}{O}{H}{v w}{d e}{f}{r}(vx:Vw K kd O H v d)(vy:Vw K kd O H w e)(h:Sn f d e=some r):∃i j,v = .int i/\w = .int j/\f i j=some r:=by
 obtain⟨i,h1,h⟩:=bS_<|h;obtain⟨j,h2,h⟩:=bS_ h;exact⟨i,j,(Ym vx h1).2,(Ym vy h2).2,h⟩
section
variable{X:Cx}{kd:KD}
def Ir:Qw X (binaryOp .Add) (λx y H Q=>∃l b xs zs,x = .ref l/\y = .ref b/\Sw X.K H l xs/\Sw X.K H b zs/\xs.length+zs.length<=sizeLine/\∀p,H p=none->Q (.ref p) (upd H p<|.lst<|xs++zs)):=by
 intro pins s σ H x y v u Q I rx ry h;obtain⟨l,b,xs,zs,rfl,rfl,hH,hB,hz,q⟩:=h;cases rx;cases ry;obtain⟨z,its,n,r,e⟩:=EY I hH;obtain⟨z2,its2,n2,r2,e2⟩:=EY I hB;have hl:=r.length;have hl2:=r2.length;refine PySem.P.add_list e e2 ?_ (by rw[zzH,zzH];omega);have ea:its.toArray++its2.toArray=(its++its2).toArray:=by simp
 rw[ea];exact⟨.ref _,_,I.lnew (t':=s.toks) (r.append r2) (by rw[zzJ];omega),rfl,q _ I.fresh⟩
def IB:Qw X (binaryOp .Mult) (λx y H Q=>∃l k xs,x = .ref l/\y = .int k/\Sw X.K H l xs /\ -(2 ^ 63)<=k/\k<2 ^ 63/\xs.length*k.toNat<=sizeLine/\
 ∀p,H p=none->Q (.ref p) (upd H p<|.lst (List.replicate k.toNat xs).flatten)):=by
 intro pins s σ H x y v u Q I rx ry h;obtain⟨l,k,xs,rfl,rfl,hH,h1,h2,hz,q⟩:=h;cases rx;obtain⟨t,rfl⟩:=ry;obtain⟨z,its,n,r,e⟩:=EY I hH;have hl:=r.length;have hlen:its.toArray.size*k.toNat<=sizeLine:=by rw[zzH,<-hl];exact hz
 have hcap:¬its.toArray.size*k.toNat > (2 ^ 63-1)/8:=by
  have:sizeLine<=(2 ^ 63-1)/8:=by decide
  omega
 have hfit:¬(!Builtin.List.listFitsIndex k)=true:=by
  rw[fitsIndex_both h1 h2];exact zyW
 have hlong:¬Builtin.List.listTooLong (its.toArray.size*k.toNat)=true:=by
  rw[NO hlen];exact zyW
 have hnew:List.foldl (λx1 x2=>x1++x2) #[] (List.replicate (if its.toArray.isEmpty=true then 0 else k.toNat) its.toArray)=(List.replicate k.toNat its).flatten.toArray:=by
  have f0:=λm=>by
   have:=foldl_rep its m [];rw[List.nil_append]at this;exact this
  rw[f0];cases its with
  |nil=>simp
  |cons a r'=>rw[if_neg<|by simp]
 refine wpAny_binaryOp_repeat_ref (by decide) ⟨_,e,rfl⟩ (λs'=>typeIs_int s' k t) noFill_list_mul F.fills_int_mul F.slot_int_rmul repeat_list F.slot_int_index.lookup
  (call_meets F.slot_int_rmul (typeIs_int s k t) F.entry_int_rmul (F.args_int_rmul_2 _ _) (int___rmul___int_list k t l its.toArray n)
   ⟨e,rfl,⟨_,e,rfl⟩,call_meets F.slot_list_mul ⟨_,e,rfl⟩ F.entry_list_mul (F.args_list_mul_2 _ _) (AutoListH.list___mul___list_int_3 l its.toArray n k t hfit hcap hlong) ⟨e, ?_⟩⟩)
 rw[hnew];refine⟨.ref _,_,I.lnew (t':=s.toks) (r.rep k.toNat) ?_,rfl,q _ I.fresh⟩;rw[len_rep,Nat.mul_comm];exact hz
def tuple_addW0(l b)(items items2)(n n2:Nat)(dd dd2)(sl sl2)(h0:items.isEmpty=true):
 Meets (Builtin.«tuple.__add__» {pos:=[.ref l,.ref b]}) (λ_ R s=>s.heap.get? l=some {cls:=.type "tuple",dict:=dd,data:=.seq items n,slots:=sl}/\s.heap.get? b=some {cls:=.type "tuple",dict:=dd2,data:=.seq items2 n2,slots:=sl2}/\R (.ok<|.ret<|.ref b) s):=
 .of_wp λprog w A R s h=>by
  obtain⟨hp,g,d,tk,os⟩:=s;obtain⟨hl,hb,h⟩:=h;have f2:=AutoSeq1.sub_tuple_tuple
  wp_walk using wpAny_loadPart' hl,wpAny_loadPart' hb
  exact⟨_,rfl,h⟩
def NR(l)(items)(n:Nat)(dd)(sl)(u):
 Meets (Builtin.«tuple.__mul__» {pos:=[.ref l,.int 1 u]}) (λ_ R s=>s.heap.get? l=some {cls:=.type "tuple",dict:=dd,data:=.seq items n,slots:=sl}/\R (.ok<|.ret<|.ref l) s):=
 .of_wp λprog w A R s h=>by
  obtain⟨hp,g,d,tk,os⟩:=s;obtain⟨hl,h⟩:=h;have f2:=AutoSeq1.sub_tuple_tuple
  wp_walk using wpAny_loadPart' hl
  exact⟨_,rfl,h⟩
def Mn(l)(items its2:Array Value)(n:Nat)(dd)(sl)(x)(u)(c1:¬(decide (x < -2 ^ 63)||decide (x ≥ 2 ^ 63))=true)(c2:¬(items.isEmpty||x==1)=true)(c3:¬(decide (x<=0)||items.isEmpty)=true)
 (hcap:¬(items.size:Int)*x > (2 ^ 63-1)/8) (ht:¬Builtin.Tuple.tupleTooMany (items.size*x)=true) (hz:¬(List.foldl (λx1 x2=>x1++x2) #[] (List.replicate x.toNat items)).size > sizeLine):
 Meets (Builtin.«tuple.__mul__» {pos:=[.ref l,.int x u]}) (λ_ R s=>s.heap.get? l=some {cls:=.type "tuple",dict:=dd,data:=.seq items n,slots:=sl}/\R (.ok<|.ret<|.ref s.heap.objs.size) {s with heap:=s.heap.push {cls:=.type "tuple",data:=.seq (List.foldl (λx1 x2=>x1++x2) #[] (List.replicate x.toNat items))}}):=
 .of_wp λprog w A R s h=>by
  obtain⟨hp,g,d,tk,os⟩:=s;obtain⟨hl,h⟩:=h;have f2:=AutoSeq1.sub_tuple_tuple
  wp_walk using wpAny_loadPart' hl
  rw[if_neg c1]
  wp_walk using wpAny_loadPart' hl
  rw[if_neg hcap]
  wp_walk
  exact⟨_,rfl,h⟩
def QR:fillsNumberSlot (Value.type "tuple") "mul"=pure false:=PySem.fillsNumberSlot_seq rfl rfl rfl rfl
def LV:seqRepeat? (Value.type "tuple")=pure (some<|Value.builtin "tuple.__mul__"):=W.of_pureOf rfl
def Pe(a)(t)(l)(items)(n:Nat)(dd)(sl):
 Meets (Builtin.«int.__rmul__» {pos:=[.int a t,.ref l]}) (λ_ R s=>s.heap.get? l=some {cls:=.type "tuple",dict:=dd,data:=.seq items n,slots:=sl}/\R (.ok<|.ret .notImplemented) s):=
 .of_wp λprog w A R s h=>by
  obtain⟨hp,g,d,tk,os⟩:=s;obtain⟨hl,h⟩:=h
  wp_walk using wpAny_load' hl,wpAny_loadPart' hl
  exact⟨_,rfl,h⟩
def CW:Qw X (binaryOp .Add) (λx y H Q=>∃a b ys,x = .ref a/\y = .ref b/\Qy X.K H a []/\Qy X.K H b ys/\Q (.ref b) H):=by
 intro pins s σ H x y v u Q I rx ry h;obtain⟨a,b,ys,rfl,rfl,ha,hb,q⟩:=h;cases rx;cases ry;obtain⟨its,r1,p1,_⟩:=I.tuple ha;obtain⟨its2,r2,p2,_⟩:=I.tuple hb;cases r1;obtain⟨⟨cls,dd,data,sl⟩,ho,hc,n,hd⟩:=id p1;obtain⟨⟨cls2,dd2,data2,sl2⟩,ho2,hc2,n2,hd2⟩:=id p2;simp only at hc hd hc2 hd2;subst hc hd hc2 hd2;exact concat_meets ⟨_,ho,rfl⟩ ⟨_,ho2,rfl⟩ noFill_tuple_add seq_tuple_add PySem.F.slot_tuple_add PySem.F.entry_tuple_add (PySem.F.args_tuple_add_2 _ _) (tuple_addW0 a b _ _ n n2 dd dd2 sl sl2 rfl) ⟨ho,ho2,⟨.ref b,H,I,rfl,q⟩⟩
def Ib:Qw X (binaryOp .Mult) (λx y H Q=>∃l k xs,x = .ref l/\y = .int k/\Qy X.K H l xs/\xs≠[]/\1<=k/\k<2 ^ 63/\xs.length*k.toNat<=sizeLine/\(k=1->Q (.ref l) H)/\
 (2<=k->∀p,H p=none->Q (.ref p) (upd H p<|.tup (List.replicate k.toNat xs).flatten))):=by
 intro pins s σ H x y v u Q I rx ry h;obtain⟨l,k,xs,rfl,rfl,hH,hne,h1,h2,hz,q1,q2⟩:=h;cases rx;obtain⟨t,rfl⟩:=ry;obtain⟨its,r,p,_⟩:=I.tuple hH;have hl:=r.length;have hlen:its.toArray.size*k.toNat<=sizeLine:=by rw[zzH,<-hl];exact hz
 have hki:((its.toArray.size:Int)*k)=((its.toArray.size*k.toNat:Nat):Int):=by
  rw[zzV,zyZ<|by omega]
 have he:its.toArray.isEmpty=false:=by
  cases its with
  |nil=>rw[List.length_nil]at hl;exact absurd (List.length_eq_zero_iff.mp hl) hne
  |cons a r'=>rfl
 have hnew:List.foldl (λx1 x2=>x1++x2) #[] (List.replicate k.toNat its.toArray)=(List.replicate k.toNat its).flatten.toArray:=by
  have:=foldl_rep its k.toNat [];rw[List.nil_append]at this;exact this
 obtain⟨⟨cls,dd,data,sl⟩,ho,hc,n,hd⟩:=id p;simp only at hc hd;subst hc hd;refine wpAny_binaryOp_repeat_ref (by decide) ⟨_,ho,rfl⟩ (λs'=>typeIs_int s' k t) QR F.fills_int_mul F.slot_int_rmul LV F.slot_int_index.lookup
  (call_meets F.slot_int_rmul (typeIs_int s k t) F.entry_int_rmul (F.args_int_rmul_2 _ _) (Pe k t l its.toArray n dd sl) ⟨ho,rfl,⟨_,ho,rfl⟩, ?_⟩)
 by_cases hk:k=1
 . subst hk;exact call_meets F.slot_tuple_mul ⟨_,ho,rfl⟩ F.entry_tuple_mul (F.args_tuple_mul_2 _ _) (NR l its.toArray n dd sl t) ⟨ho,⟨.ref l,H,I,rfl,q1 rfl⟩⟩
 . have hfl:(List.replicate k.toNat xs).flatten.length<=sizeLine:=by rw[len_rep,Nat.mul_comm];exact hz
   refine call_meets F.slot_tuple_mul ⟨_,ho,rfl⟩ F.entry_tuple_mul (F.args_tuple_mul_2 _ _) (Mn l its.toArray #[] n dd sl k t (by simp;omega) (by rw[he];simpa using hk) (by rw[he];simp;omega) ?_ ?_ ?_) ⟨ho, ?_⟩
   . rw[hki];have:(sizeLine:Int)<=(2 ^ 63-1)/8:=by decide
     omega
   . unfold Builtin.Tuple.tupleTooMany;rw[hki];simp only[gt_iff_lt,decide_eq_true_eq];omega
   . rw[hnew,zzH,len_rep,Nat.mul_comm];rw[zzH]at hlen;omega
   . rw[hnew];refine⟨.ref s.heap.objs.size,_,I.laid (t':=s.toks) (λb ob q=>zxI _ q) (zzN _) ?_,rfl,q2 (by omega) _<|I.hok.fresh<|zzN _⟩;exact⟨hfl,_,r.rep k.toNat,IsTup.new _ _⟩
def Dq(op):ID X kd (binaryOp op) (Vc op):=by
 intro pins s σ H x y v u Q I rx ry h;obtain⟨O,d,e,r,ht,vx,vy,he,q⟩:=h;cases op with
 |Add=>
  cases vx with
  |int i=>
   obtain⟨j,h1,he⟩:=bS_<|he;obtain⟨rfl,rfl⟩:=Ym vy h1;cases he;exact Df pins s σ H _ _ v u Q I rx ry ⟨_,_,rfl,rfl,ym q<|.int _⟩
  |str i=>
   obtain⟨j,h1,he⟩:=bS_<|he;obtain⟨rfl,rfl⟩:=ue vy h1;obtain⟨c,rfl⟩:=zT he;exact M7 pins s σ H _ _ v u Q I rx ry ⟨_,_,rfl,rfl,c,ym q<|.str _⟩
  |lst hx rx'=>
   obtain⟨j,h1,he⟩:=bS_<|he;cases Xj h1;obtain⟨c,rfl⟩:=zT he;cases vy with
   |lst hy ry'=>exact Ir pins s σ H _ _ v u Q I rx ry ⟨_,_,_,_,rfl,rfl,hx,hy,by rw[rx'.length,ry'.length];exact c,W8 q<|rx'.append ry'⟩
  | @tup a1 vs1 ds1 r1 hx rx'=>
   obtain⟨j,h1,he⟩:=bS_<|he;cases DO h1;obtain⟨c,rfl⟩:=zT he;cases vy with
   |tup r2 hy ry'=>
    by_cases h0:vs1=([]:List V)
    . subst h0;cases rx';exact CW pins s σ H _ _ v u Q I rx ry ⟨_,_,_,rfl,rfl,hx,hy,ym q r2⟩
    refine Ig pins s σ H _ _ v u Q I rx ry ⟨_,_,_,_,rfl,rfl,hx,hy,h0,by rw[rx'.length,ry'.length];exact c,λhn=>?_,λhn=>Tv ht q<|rx'.append ry'⟩
    . subst hn;cases ry';rw[zyE]at q;exact ym q r1
  |_=>cases he
 |Sub=>
  obtain⟨i,j,rfl,rfl,he⟩:=Yu vx vy he;cases he;exact DK pins s σ H _ _ v u Q I rx ry ⟨_,_,rfl,rfl,ym q<|.int _⟩
 |Mult=>
  cases vx with
  |int i=>
   obtain⟨j,h1,he⟩:=bS_<|he;obtain⟨rfl,rfl⟩:=Ym vy h1;obtain⟨c,rfl⟩:=zT he;obtain⟨t,rfl⟩:=rx;obtain⟨t',rfl⟩:=ry;exact mul_int ⟨.int _,H,I.tok _,⟨_,rfl⟩,ym q<|.int _⟩ (IntMulOk.of_bits (Nr c.1)<|Nr c.2)
  |lst hx rx'=>
   obtain⟨j,h1,he⟩:=bS_<|he;obtain⟨rfl,rfl⟩:=Ym vy h1;obtain⟨c,rfl⟩:=zT he;exact IB pins s σ H _ _ v u Q I rx ry ⟨_,_,_,rfl,rfl,hx,c.1,c.2.1,by rw[rx'.length];exact c.2.2,W8 q<|rx'.rep _⟩
  |tup r1 hx rx'=>
   obtain⟨j,h1,he⟩:=bS_<|he;obtain⟨rfl,rfl⟩:=Ym vy h1;obtain⟨c,rfl⟩:=zT he;refine Ib pins s σ H _ _ v u Q I rx ry ⟨_,_,_,rfl,rfl,hx,λe=>?_,c.1,c.2.1,by rw[rx'.length];exact c.2.2.2,λe=>?_,λ_=>Tv ht q<|rx'.rep _⟩
   . have:=rx'.length;rw[e]at this;exact c.2.2.1 this.symm
   . subst e;refine ym q ?_;rw[show(1:Int).toNat=1 from rfl,List.replicate_one,List.flatten_cons,List.flatten_nil,zyE];exact r1
  |_=>cases he
 |FloorDiv=>
  obtain⟨i,j,rfl,rfl,he⟩:=Yu vx vy he;obtain⟨c,rfl⟩:=zT he;obtain⟨t,rfl⟩:=rx;obtain⟨t',rfl⟩:=ry;refine floordiv_int (by omega) ?_<|.inl<|PyProof.noPylong_of_log2 ?_
  . rw[Int.fdiv_eq_ediv_of_nonneg _<|by omega];exact⟨.int _,H,I.tok _,⟨_,rfl⟩,ym q<|.int _⟩
  . exact zzK ((Nat.log2_lt<|by have:=c.1;omega).mpr<|c.2) (by decide)
 |Mod=>
  obtain⟨i,j,rfl,rfl,he⟩:=Yu vx vy he;obtain⟨c,rfl⟩:=zT he;exact Hu pins s σ H _ _ v u Q I rx ry ⟨_,_,rfl,rfl,c,ym q<|.int _⟩
 |Pow=>
  obtain⟨i,j,rfl,rfl,he⟩:=Yu vx vy he;obtain⟨c,rfl⟩:=zT he;exact DC pins s σ H _ _ v u Q I rx ry ⟨_,_,rfl,rfl,c,ym q<|.int _⟩
 |_=>cases he
end
def FM(f:D->D->Option Bool):List D->List D->Option Bool
 | [],[]=>some true
 |x::r,y::t=>(f x y).bind λb=>(FM f r t).bind λc=>some (b&&c)
 |_,_=>some false
def wN:Nat->D->D->Option Bool
 |0,_,_=>none
 |_+1,.non,.non=>some true
 |_+1,.bl a,.bl b=>some (a==b)
 |_+1,.int a,.int b=>some (a==b)
 |_+1,.str a,.str b=>some (a==b)
 |_+1,.bl a,.int b=>some ((if a then 1 else 0)==b)
 |_+1,.int a,.bl b=>some (a==(if b then 1 else 0))
 |n+1,.lst xs,.lst ys=>FM (wN n) xs ys
 |n+1,.tup xs,.tup ys=>FM (wN n) xs ys
 |_+1,.dct _,_=>none
 |_+1,.cl _,_=>none
 |_+1,.ob _ _ _,_=>none
 |_+1,.dt _ _,_=>none
 |_+1,.er _ _ _,_=>none
 |_+1,_,.dct _=>none
 |_+1,_,.cl _=>none
 |_+1,_,.ob _ _ _=>none
 |_+1,_,.dt _ _=>none
 |_+1,_,.er _ _ _=>none
 |_+1,_,_=>some false
def Ci(f:D->D->Option Bool)(xs ys:List D)(j:Nat):Bool:=match xs[j]?,ys[j]? with
 |some d,some e=>(f d e).getD false
 |_,_=>false
theorem PY:∀{xs ys:List D}{b:Bool},FM f xs ys=some b->(∀(j:Nat) d e,xs[j]? = some d->ys[j]? = some e->∃c,f d e=some c)/\
 b=((List.range<|min xs.length ys.length).all (Ci f xs ys)&&xs.length==ys.length)
 | [],[],b,h=>by cases h;exact⟨λj d e h=>by simp at h,by simp⟩
 | [],y::t,b,h=>by cases h;exact⟨λj d e h=>by simp at h,by simp⟩
 |x::r,[],b,h=>by cases h;exact⟨λj d e _ h=>by simp at h,by simp⟩
 |x::r,y::t,b,h=>by
  obtain⟨b1,h1,h⟩:=bS_<|h;obtain⟨c1,h2,h⟩:=bS_ h;cases h;obtain⟨k1,k2⟩:=PY h2;refine⟨λj d e hd he=>?_, ?_⟩
  . cases j with
    |zero=>simp at hd he;subst hd he;exact⟨b1,h1⟩
    |succ j=>exact k1 j d e (by simpa using hd) (by simpa using he)
  . have e0:min (x::r).length (y::t).length=min r.length t.length+1:=by simp only[zzT];omega
    rw[e0,List.range_succ_eq_map,List.all_cons,List.all_map,k2];have e1:Ci f (x::r) (y::t) 0=b1:=by show(f x y).getD false=b1;rw[h1];rfl
    have e2:(Ci f (x::r) (y::t)∘Nat.succ)=Ci f r t:=by
     funext j;unfold Ci;simp
    have e3:((x::r).length==(y::t).length)=(r.length==t.length):=by
     by_cases hh:r.length=t.length<;>simp[hh]
    rw[e1,e2,e3,Bool.and_assoc]
structure EqAll(A:Around)(s:Shared)(u v:Value)(b:Bool):Prop where
 rc:SeqAt.RcAt A s u v b
 ne:SeqAt.RcNeAt A s u v (!b)
 eq:SeqAt.EqAt A s u v b
section
variable{X:Cx}{kd:KD}{pins:List (Addr×Obj)}{σ:St}{H:Hp}{s:Shared}{O:Addr->Prop}
def Fu(I:Inv X pins σ H s)(h:Qy X.K H a xs)(h':YM X.K H a ys):False:=by
 obtain⟨_,_,⟨o,e,c,_⟩,_⟩:=I.tuple h;obtain⟨_,_,⟨o',n,e',c',_⟩,_⟩:=I.list h';rw[e]at e';cases e';rw[c]at c';exact absurd c' (by decide)
theorem Bi(I:Inv X pins σ H s):∀(n:Nat) (v:V) (d e:D) (b:Bool),Vw X.K kd O H v d->Vw X.K kd O H v e->wN n d e=some b->b=true
 |0,_,_,_,_,_,_,h=>by cases h
 |n+1,v,d,e,b,h1,h2,h=>by
  have lst:∀(vs:List V) (ds es:List D) (b:Bool),RpL X.K kd O H vs ds->RpL X.K kd O H vs es->FM (wN n) ds es=some b->b=true:=by
   intro vs
   induction vs with
   |nil=>intro ds es b r1 r2 h;cases r1;cases r2;cases h;rfl
   |cons v vs ih=>
    intro ds es b r1 r2 h;cases r1 with
    |cons a1 r1=>
     cases r2 with
     | cons a2 r2=>
            obtain⟨b1,k1,h⟩:=bS_<|h;obtain⟨c1,k2,h⟩:=bS_ h;cases h;rw[Bi I n _ _ _ _ a1.vw a2.vw k1,ih _ _ _ r1 r2 k2];rfl
  cases h1 with
  |non=>cases h2;cases h;rfl
  |bl x=>cases h2;cases h;simp
  |int x=>cases h2;cases h;simp
  |str x=>cases h2;cases h;simp
  |tup r1 s1 l1=>
   cases h2 with
   |tup r2 s2 l2=>
    have:=I.tuple_inj s1 s2;subst this;exact lst _ _ _ _ l1 l2 h
   |lst s2 l2=>exact(Fu I s1 s2.sq).elim
   |_=>cases h
  |lst s1 l1=>
   cases h2 with
   |tup r2 s2 l2=>exact(Fu I s2 s1.sq).elim
   |lst s2 l2=>
    have:=I.list_inj s1.sq s2.sq;subst this;exact lst _ _ _ _ l1 l2 h
   |_=>cases h
  |_=>cases h
theorem KI(I:Inv X pins σ H s):∀(n:Nat) (A:Around) (x y:V) (d e:D) (u v:Value) (b:Bool),A.units+n<cLine->Vw X.K kd O H x d->Vw X.K kd O H y e->RelV x u->RelV y v->wN n d e=some b->EqAll A s u v b
 |0,_,_,_,_,_,_,_,_,_,_,_,_,_,h=>by cases h
 |n+1,A,x,y,d,e,u,v,b,hu,h1,h2,r1,r2,h=>by
  have hu0:A.units<cLine:=by omega
  have itm:∀{vs ws:List V}{its its2:List Value}{ds es:List D},RpL X.K kd O H vs ds->RpL X.K kd O H ws es->ya vs its->ya ws its2->(∀(j:Nat) d e,ds[j]? = some d->es[j]? = some e->∃c,wN n d e=some c)->
   ∀j h1 (h2:j<its2.toArray.size),SeqAt.EqAt A.in1 s its.toArray[j] its2.toArray[j] (Ci (wN n) ds es j):=by
   intro vs ws its its2 ds es l1 l2 v1 v2 hd j j1 j2;have q1:j<ds.length:=by rw[<-l1.length,v1.length];simpa using j1
   have q2:j<es.length:=by rw[<-l2.length,v2.length];simpa using j2
   obtain⟨a1,ha1,ra1⟩:=l1.get<|zzE q1;obtain⟨a2,ha2,ra2⟩:=l2.get<|zzE q2;obtain⟨u1,hu1,ru1⟩:=v1.get ha1;obtain⟨u2,hu2,ru2⟩:=v2.get ha2;obtain⟨c,hc⟩:=hd j _ _ (zzE q1)<|zzE q2;have e1:its.toArray[j]=u1:=by
    have:=(zzG.mp hu1).2;simpa using this
   have e2:its2.toArray[j]=u2:=by
    have:=(zzG.mp hu2).2;simpa using this
   rw[e1,e2];have e3:Ci (wN n) ds es j=c:=by
    unfold Ci;rw[zzE q1,zzE q2];show(wN n _ _).getD false=c;rw[hc];rfl
   rw[e3];exact(KI I n A.in1 a1 a2 _ _ u1 u2 c (by show A.units+1+n<cLine;omega) ra1.vw ra2.vw ru1 ru2 hc).eq
  have same:∀{a a':Addr},x = .ref a->y = .ref a'->a=a'->b=true:=by
   intro a a' e1 e2 e3;subst e1 e2 e3;exact Bi I (n+1) _ _ _ _ h1 h2 h
  cases h1 with
  |non=>
   cases r1;cases h2 with
   |non=>cases r2;cases h;exact⟨SeqAt.RcAt.none_none,SeqAt.RcNeAt.none_none,SeqAt.EqAt.same _⟩
   |bl=>cases r2;cases h;exact⟨SeqAt.RcAt.none_bool _,SeqAt.RcNeAt.none_bool _,SeqAt.EqAt.none_bool _⟩
   |int=>obtain⟨t,rfl⟩:=r2;cases h;exact⟨SeqAt.RcAt.none_int _ _,SeqAt.RcNeAt.none_int _ _,SeqAt.EqAt.none_int _ _⟩
   |str=>obtain⟨t,rfl⟩:=r2;cases h;exact⟨SeqAt.RcAt.none_str _ _,SeqAt.RcNeAt.none_str _ _,SeqAt.EqAt.none_str _ _⟩
   |tup r s2 l2=>
    cases r2;cases h;obtain⟨its,rv,p,_⟩:=I.tuple s2;exact⟨SeqAt.RcAt.none_tuple p hu0,SeqAt.RcNeAt.none_tuple p hu0,SeqAt.EqAt.none_tuple p hu0⟩
   |lst s2 l2=>
    cases r2;cases h;obtain⟨its,rv,p,_⟩:=I.list s2.sq;exact⟨SeqAt.RcAt.none_list p.isList hu0,SeqAt.RcNeAt.none_list p.isList hu0,SeqAt.EqAt.none_list p.isList hu0⟩
   |_=>cases h
  |bl c=>
   cases r1;cases h2 with
   |non=>cases r2;cases h;exact⟨SeqAt.RcAt.bool_none _,SeqAt.RcNeAt.bool_none _,SeqAt.EqAt.bool_none _⟩
   |bl=>cases r2;cases h;exact⟨SeqAt.RcAt.bool_bool _ _,SeqAt.RcNeAt.bool_bool _ _,SeqAt.EqAt.bool_bool _ _⟩
   |int=>obtain⟨t,rfl⟩:=r2;cases h;exact⟨SeqAt.RcAt.bool_int _ _ _,SeqAt.RcNeAt.bool_int _ _ _,SeqAt.EqAt.bool_int _ _ _⟩
   |str=>obtain⟨t,rfl⟩:=r2;cases h;exact⟨SeqAt.RcAt.bool_str _ _ _,SeqAt.RcNeAt.bool_str _ _ _,SeqAt.EqAt.bool_str _ _ _⟩
   |tup r s2 l2=>
    cases r2;cases h;obtain⟨its,rv,p,_⟩:=I.tuple s2;exact⟨SeqAt.RcAt.bool_tuple _ p hu0,SeqAt.RcNeAt.bool_tuple _ p hu0,SeqAt.EqAt.bool_tuple _ p hu0⟩
   |lst s2 l2=>
    cases r2;cases h;obtain⟨its,rv,p,_⟩:=I.list s2.sq;exact⟨SeqAt.RcAt.bool_list _ p.isList hu0,SeqAt.RcNeAt.bool_list _ p.isList hu0,SeqAt.EqAt.bool_list _ p.isList hu0⟩
   |_=>cases h
  |int c=>
   obtain⟨t0,rfl⟩:=r1;cases h2 with
   |non=>cases r2;cases h;exact⟨SeqAt.RcAt.int_none _ _,SeqAt.RcNeAt.int_none _ _,SeqAt.EqAt.int_none _ _⟩
   |bl=>cases r2;cases h;exact⟨SeqAt.RcAt.int_bool _ _ _,SeqAt.RcNeAt.int_bool _ _ _,SeqAt.EqAt.int_bool _ _ _⟩
   |int=>obtain⟨t,rfl⟩:=r2;cases h;exact⟨SeqAt.RcAt.int_int _ _ _ _,SeqAt.RcNeAt.int_int _ _ _ _,SeqAt.EqAt.int_int _ _ _ _⟩
   |str=>obtain⟨t,rfl⟩:=r2;cases h;exact⟨SeqAt.RcAt.int_str _ _ _ _,SeqAt.RcNeAt.int_str _ _ _ _,SeqAt.EqAt.int_str _ _ _ _⟩
   |tup r s2 l2=>
    cases r2;cases h;obtain⟨its,rv,p,_⟩:=I.tuple s2;exact⟨SeqAt.RcAt.int_tuple _ _ p hu0,SeqAt.RcNeAt.int_tuple _ _ p hu0,SeqAt.EqAt.int_tuple _ _ p hu0⟩
   |lst s2 l2=>
    cases r2;cases h;obtain⟨its,rv,p,_⟩:=I.list s2.sq;exact⟨SeqAt.RcAt.int_list _ _ p.isList hu0,SeqAt.RcNeAt.int_list _ _ p.isList hu0,SeqAt.EqAt.int_list _ _ p.isList hu0⟩
   |_=>cases h
  |str c=>
   obtain⟨t0,rfl⟩:=r1;cases h2 with
   |non=>cases r2;cases h;exact⟨SeqAt.RcAt.str_none _ _,SeqAt.RcNeAt.str_none _ _,SeqAt.EqAt.str_none _ _⟩
   |bl=>cases r2;cases h;exact⟨SeqAt.RcAt.str_bool _ _ _,SeqAt.RcNeAt.str_bool _ _ _,SeqAt.EqAt.str_bool _ _ _⟩
   |int=>obtain⟨t,rfl⟩:=r2;cases h;exact⟨SeqAt.RcAt.str_int _ _ _ _,SeqAt.RcNeAt.str_int _ _ _ _,SeqAt.EqAt.str_int _ _ _ _⟩
   |str=>obtain⟨t,rfl⟩:=r2;cases h;exact⟨SeqAt.RcAt.str_str _ _ _ _,SeqAt.RcNeAt.str_str _ _ _ _,SeqAt.EqAt.str_str _ _ _ _⟩
   |tup r s2 l2=>
    cases r2;cases h;obtain⟨its,rv,p,_⟩:=I.tuple s2;exact⟨SeqAt.RcAt.str_tuple _ _ p hu0,SeqAt.RcNeAt.str_tuple _ _ p hu0,SeqAt.EqAt.str_tuple _ _ p hu0⟩
   |lst s2 l2=>
    cases r2;cases h;obtain⟨its,rv,p,_⟩:=I.list s2.sq;exact⟨SeqAt.RcAt.str_list _ _ p.isList hu0,SeqAt.RcNeAt.str_list _ _ p.isList hu0,SeqAt.EqAt.str_list _ _ p.isList hu0⟩
   |_=>cases h
  | @tup a1 vs1 ds1 r s1 l1=>
   cases r1;obtain⟨its1,rv1,p1,_⟩:=I.tuple s1;cases h2 with
   |non=>cases r2;cases h;exact⟨SeqAt.RcAt.tuple_none p1 hu0,SeqAt.RcNeAt.tuple_none p1 hu0,SeqAt.EqAt.tuple_none p1 hu0⟩
   |bl=>cases r2;cases h;exact⟨SeqAt.RcAt.tuple_bool _ p1 hu0,SeqAt.RcNeAt.tuple_bool _ p1 hu0,SeqAt.EqAt.tuple_bool _ p1 hu0⟩
   |int=>obtain⟨t,rfl⟩:=r2;cases h;exact⟨SeqAt.RcAt.tuple_int _ _ p1 hu0,SeqAt.RcNeAt.tuple_int _ _ p1 hu0,SeqAt.EqAt.tuple_int _ _ p1 hu0⟩
   |str=>obtain⟨t,rfl⟩:=r2;cases h;exact⟨SeqAt.RcAt.tuple_str _ _ p1 hu0,SeqAt.RcNeAt.tuple_str _ _ p1 hu0,SeqAt.EqAt.tuple_str _ _ p1 hu0⟩
   | @tup a2 vs2 ds2 r' s2 l2=>
    cases r2;obtain⟨its2,rv2,p2,_⟩:=I.tuple s2;obtain⟨k1,k2⟩:=PY h;have he:=itm l1 l2 rv1 rv2 k1;have eb:((List.range<|min its1.toArray.size its2.toArray.size).all (Ci (wN n) ds1 ds2)&&its1.toArray.size==its2.toArray.size)=b:=by
     rw[k2,zzH,zzH,<-rv1.length,<-rv2.length,l1.length,l2.length]
    have b1:=SeqAt.RcAt.tuples p1 p2 hu0 he;have b2:=SeqAt.RcNeAt.tuples p1 p2 hu0 he;rw[eb]at b1 b2;refine⟨b1,b2, ?_⟩
    by_cases ha:a1=a2
    . have hb:=same rfl rfl ha;subst ha;rw[hb];exact SeqAt.EqAt.same _
    . exact SeqAt.EqAt.of_refs ha b1
   |lst s2 l2=>
    cases r2;cases h;obtain⟨its,rv,p,_⟩:=I.list s2.sq;exact⟨SeqAt.RcAt.tuple_list p1 p.isList hu0,SeqAt.RcNeAt.tuple_list p1 p.isList hu0,SeqAt.EqAt.tuple_list p1 p.isList hu0⟩
   |_=>cases h
  | @lst a1 vs1 ds1 s1 l1=>
   cases r1;obtain⟨its1,rv1,p1,_⟩:=I.list s1.sq;cases h2 with
   |non=>cases r2;cases h;exact⟨SeqAt.RcAt.list_none p1.isList hu0,SeqAt.RcNeAt.list_none p1.isList hu0,SeqAt.EqAt.list_none p1.isList hu0⟩
   |bl=>cases r2;cases h;exact⟨SeqAt.RcAt.list_bool _ p1.isList hu0,SeqAt.RcNeAt.list_bool _ p1.isList hu0,SeqAt.EqAt.list_bool _ p1.isList hu0⟩
   |int=>obtain⟨t,rfl⟩:=r2;cases h;exact⟨SeqAt.RcAt.list_int _ _ p1.isList hu0,SeqAt.RcNeAt.list_int _ _ p1.isList hu0,SeqAt.EqAt.list_int _ _ p1.isList hu0⟩
   |str=>obtain⟨t,rfl⟩:=r2;cases h;exact⟨SeqAt.RcAt.list_str _ _ p1.isList hu0,SeqAt.RcNeAt.list_str _ _ p1.isList hu0,SeqAt.EqAt.list_str _ _ p1.isList hu0⟩
   |tup r' s2 l2=>
    cases r2;cases h;obtain⟨its2,rv2,p2,_⟩:=I.tuple s2;exact⟨SeqAt.RcAt.list_tuple p1.isList p2 hu0,SeqAt.RcNeAt.list_tuple p1.isList p2 hu0,SeqAt.EqAt.list_tuple p1.isList p2 hu0⟩
   | @lst a2 vs2 ds2 s2 l2=>
    cases r2;obtain⟨its2,rv2,p2,_⟩:=I.list s2.sq;obtain⟨k1,k2⟩:=PY h;have he:=itm l1 l2 rv1 rv2 k1;have ez1:=zzH.trans<|rv1.length.symm.trans l1.length;have ez2:=zzH.trans<|rv2.length.symm.trans l2.length;have both:SeqAt.RcAt A s (.ref a1) (.ref a2) b/\SeqAt.RcNeAt A s (.ref a1) (.ref a2) (!b):=by
     by_cases hz:its1.toArray.size=its2.toArray.size
     . have b1:=SeqAt.RcAt.lists p1.isList p2.isList hz hu0 he;have b2:=SeqAt.RcNeAt.lists p1.isList p2.isList hz hu0 he;have eb:(List.range its1.toArray.size).all (Ci (wN n) ds1 ds2)=b:=by
        rw[k2,<-ez1,<-ez2,<-hz,Nat.min_self];simp
       rw[eb]at b1 b2;exact⟨b1,b2⟩
     . have hz':(its1.toArray.size != its2.toArray.size)=true:=by simpa using hz
       have eb:b=false:=by
        rw[k2,<-ez1,<-ez2];have:(its1.toArray.size==its2.toArray.size)=false:=by simpa using hz
        rw[this,Bool.and_false]
       rw[eb];exact⟨SeqAt.RcAt.lists_lengths p1.isList p2.isList hz' hu0,SeqAt.RcNeAt.lists_lengths p1.isList p2.isList hz' hu0⟩
    refine⟨both.1,both.2, ?_⟩
    by_cases ha:a1=a2
    . have hb:=same rfl rfl ha;subst ha;rw[hb];exact SeqAt.EqAt.same _
    . exact SeqAt.EqAt.of_refs ha both.1
   |_=>cases h
  |_=>cases h
end
structure DkAt(P:Program)(w:World)(h:Heap)(a:Addr)(kvs:List (Key×V)):Prop where
 le:kvs.length<=sizeLine
 ns:(a==sysModules)=false
 ex:∃vs,KV kvs vs/\h.DictOf (xf P w) a vs
structure KdOk(X:Cx)(kd:KD):Prop where
 inj:∀a k k',kd a k->kd a k'->k=k'
 inK:∀a k,kd a k->∃o,X.K.lookup a=some o
 at_:∀a k h,kd a k->X.K.In h->DkAt X.prog X.w h a k
section
variable{X:Cx}{kd:KD}{pins:List (Addr×Obj)}{σ:St}{H:Hp}{s:Shared}{O:Addr->Prop}
def Kj(I:Inv X pins σ H s)(hk:KdOk X kd)(h:Rd H a (.dK kvs)\/kd a kvs):DkAt X.prog X.w s.heap a kvs:=by
 rcases h with h|h
 . obtain⟨z,hd,vs,rel,dd⟩:=Fc I.hok h;exact⟨z,hd,vs,rel,dd⟩
 . exact hk.at_ _ _ _ h I.kIn
theorem OX(I:Inv X pins σ H s):∀(n:Nat) (v:V) (d e x:D) (b c:Bool),Vw X.K kd O H v d->Vw X.K kd O H v e->wN n d x=some b->wN n e x=some c->b=c
 |0,_,_,_,_,_,_,_,_,h,_=>by cases h
 |n+1,v,d,e,x,b,c,h1,h2,h,h'=>by
  have lst:∀(vs:List V) (ds es xs:List D) (b c:Bool),RpL X.K kd O H vs ds->RpL X.K kd O H vs es->FM (wN n) ds xs=some b->FM (wN n) es xs=some c->b=c:=by
   intro vs
   induction vs with
   |nil=>intro ds es xs b c r1 r2 h h';cases r1;cases r2;exact zzZ (h.symm.trans h')
   |cons v vs ih=>
    intro ds es xs b c r1 r2 h h';cases r1 with
    |cons a1 r1=>
     cases r2 with
     | cons a2 r2=>
            cases xs with
            |nil=>cases h;cases h';rfl
            |cons x xs=>
             obtain⟨b1,k1,h⟩:=bS_<|show(wN n _ _).bind _=_ from h;obtain⟨c1,k2,h⟩:=bS_ h;obtain⟨b2,k3,h'⟩:=bS_<|show(wN n _ _).bind _=_ from h';obtain⟨c2,k4,h'⟩:=bS_ h';cases h;cases h';rw[OX I n _ _ _ _ _ _ a1.vw a2.vw k1 k3,ih _ _ _ _ _ r1 r2 k2 k4]
  cases h1 with
  |tup r1 s1 l1=>
   cases h2 with
   |tup r2 s2 l2=>
    have:=I.tuple_inj s1 s2;subst this;cases x with
    |tup xs=>exact lst _ _ _ _ _ _ l1 l2 h h'
    |_=>exact zzZ (h.symm.trans h')
   |lst s2 l2=>exact(Fu I s1 s2.sq).elim
   |_=>cases h'
  |lst s1 l1=>
   cases h2 with
   |tup r2 s2 l2=>exact(Fu I s2 s1.sq).elim
   |lst s2 l2=>
    have:=I.list_inj s1.sq s2.sq;subst this;cases x with
    |lst xs=>exact lst _ _ _ _ _ _ l1 l2 h h'
    |_=>exact zzZ (h.symm.trans h')
   |_=>cases h'
  |dct s1 l1=>cases h
  |cl=>cases h
  |ob=>cases h
  |dt=>cases h
  |er=>cases h
  |_=>cases h2;exact zzZ<|h.symm.trans h'
end
def IY:D->Option Key
 | .int i=>some<|.inl i
 | .str x=>some (.inr x)
 |_=>none
def Lm(kvs:List (Key×D))(k:Key):Option D:=(kvs.find? λkv=>decide (kv.1=k)).map (·.2)
def Lk{K:zzA}{kd:KD}{O:Addr->Prop}{H:Hp}(k:Key){vs:List (Key×V)}{ds:List (Key×D)}(h:RpM K kd O H vs ds):(∃v d,wG vs k=some v/\Lm ds k=some d/\Rp K kd O H v d)\/(wG vs k=none/\Lm ds k=none):=
 RpM.ind (P:=λvs ds=>(∃v d,wG vs k=some v/\Lm ds k=some d/\Rp K kd O H v d)\/(wG vs k=none/\Lm ds k=none)) (.inr ⟨rfl,rfl⟩) (λ{k' v d vs ds} a _ ih=>by
  by_cases e:k'=k
  . left;refine⟨_,_, ?_, ?_,a⟩
    . unfold wG;simp[e]
    . unfold Lm;simp[e]
  . rcases ih with⟨v,d,h1,h2,h3⟩|⟨h1,h2⟩
    . left;refine⟨v,d, ?_, ?_,h3⟩
      . unfold wG at h1 ⊢;simpa[e]using h1
      . unfold Lm at h2 ⊢;simpa[e]using h2
    . right;refine⟨?_, ?_⟩
      . unfold wG at h1 ⊢;simpa[e]using h1
      . unfold Lm at h2 ⊢;simpa[e]using h2) h
def sC:D->Option Key
 | .bl b=>some (.inl (if b=true then 1 else 0))
 |d=>IY d
def UV:List D->Option (List Key)
 | []=>some []
 |d::r=>(sC d).bind λk=>(UV r).bind λks=>some (k::ks)
def QV:D->Option (List Key)
 | .tup ds=>UV ds
 |_=>none
def Gm(ks:List (List Key))(ds:List D)(k:List Key):Option D:=((ks.zip ds).find? λkv=>decide (kv.1=k)).map (·.2)
def O2{K:zzA}{kd:KD}{O:Addr->Prop}{H:Hp}{vs:List V}{ds:List D}(h:RpL K kd O H vs ds):∀{k:List Key},UV ds=some k->vs.map kO=k.map some:=
 RpL.ind (P:=λvs ds=>∀{k:List Key},UV ds=some k->vs.map kO=k.map some) (λe=>by cases e;rfl) (λ{v d vs ds} a _ ih k e=>by
  obtain⟨k1,h1,e⟩:=bS_<|show(sC d).bind _=_ from e;obtain⟨k2,h2,e⟩:=bS_ e;cases e;have hv:kO v=some k1:=by
   cases a with
   |int i=>cases h1;rfl
   |str i=>cases h1;rfl
   |bl b=>cases h1;rfl
   |_=>cases h1
  rw[zyS,zyS,hv,ih h2]) h
def RM{K:zzA}{kd:KD}{O:Addr->Prop}{H:Hp}{v:V}{d:D}{k:List Key}(h:Vw K kd O H v d)(e:QV d=some k):∃b,v = .ref b/\KC H b k:=by
 cases h with
 |tup rp hs rl=>
  cases rp with
  |tup n h r=>exact⟨_,rfl,_,h,O2 r e⟩
 |_=>cases e
def Td{K:zzA}{kd:KD}{O:Addr->Prop}{H:Hp}(k:List Key){vs:List V}{ds:List D}(h:RpL K kd O H vs ds):∀{ks:List (List Key)},ks.length=vs.length->(∃v d,wG (ks.zip vs) k=some v/\Gm ks ds k=some d/\Rp K kd O H v d)\/(wG (ks.zip vs) k=none/\Gm ks ds k=none):=
 RpL.ind (P:=λvs ds=>∀{ks:List (List Key)},ks.length=vs.length->(∃v d,wG (ks.zip vs) k=some v/\Gm ks ds k=some d/\Rp K kd O H v d)\/(wG (ks.zip vs) k=none/\Gm ks ds k=none)) (λ{ks} e=>by
  cases ks with
  |nil=>exact .inr ⟨rfl,rfl⟩
  |cons=>simp at e) (λ{v d vs ds} a _ ih ks e=>by
  cases ks with
  |nil=>simp at e
  |cons k1 ks=>
   have e':ks.length=vs.length:=by simpa using e
   unfold wG Gm;rw[List.zip_cons_cons,List.zip_cons_cons]
   by_cases hk:k1=k
   . rw[List.find?_cons_of_pos (by simpa using hk),List.find?_cons_of_pos<|by simpa using hk];exact .inl ⟨_,_,rfl,rfl,a⟩
   . rw[List.find?_cons_of_neg (by simpa using hk),List.find?_cons_of_neg<|by simpa using hk];exact ih e') h
def anyF(f:D->Option Bool):List D->Option Bool
 | []=>some false
 |x::r=>(f x).bind λb=>(anyF f r).bind λc=>some (b||c)
def Sl(b:Bool):R0:=.im<|.bl b
def Am(x:D):D->Option Bool
 | .lst ys=>anyF (λy=>wN 50 y x) ys
 | .tup ys=>anyF (λy=>wN 50 y x) ys
 | .str y=>match x with | .str i=>some (!(Builtin.Str.occurrences y i 0 y.length 1).isEmpty)|_=>none
 | .dct kvs=>(IY x).bind λk=>some (Lm kvs k).isSome
 | .dt ks ds=>(QV x).bind λk=>some (Gm ks ds k).isSome
 |_=>none
def u6:D->D->Option Bool
 |d,.non=>some (match d with | .non=>true|_=>false)
 |d,.bl b=>match d with | .bl c=>some (c==b)|_=>some false
 |_,_=>none
def Gh(f:Int->Int->Bool):D->D->Option R0:=Sn λi j=>some<|Sl<|f i j
def zt(o:CmpOp)(d e:D):Option R0:=match o with
 | .Eq=>(wN 60 d e).bind λb=>some<|Sl b
 | .NotEq=>(wN 60 d e).bind λb=>some<|Sl !b
 | .Lt=>Gh (λi j=>decide (i<j)) d e
 | .LtE=>Gh (λi j=>decide (i<=j)) d e
 | .Gt=>Gh (λi j=>decide (j<i)) d e
 | .GtE=>Gh (λi j=>decide (j<=i)) d e
 | .In=>(Am d e).bind λb=>some<|Sl b
 | .NotIn=>(Am d e).bind λb=>some<|Sl !b
 | .Is=>(u6 d e).bind λb=>some<|Sl b
 | .IsNot=>(u6 d e).bind λb=>some<|Sl !b
def X0{o:Option Bool}{f:Bool->Bool}{r:R0}(h:(o.bind λb=>some<|Sl<|f b)=some r):∃k,r = .im (.bl k):=by
 obtain⟨b,_,h⟩:=bS_ h;cases h;exact⟨_,rfl⟩
def RK(h:Gh f x y=some r):∃k,r = .im (.bl k):=by
 obtain⟨i,_,h⟩:=bS_<|show(T_ x).bind _=_ from h;obtain⟨j,_,h⟩:=bS_ h;cases h;exact⟨_,rfl⟩
def L0(op:CmpOp)(x y:D)(r:R0)(h:zt op x y=some r):∃k,r = .im (.bl k):=by
 cases op with
 |Eq=>exact X0 (f:=id) h
 |NotEq=>exact X0 (f:=not) h
 |Lt=>exact RK h
 |LtE=>exact RK h
 |Gt=>exact RK h
 |GtE=>exact RK h
 |In=>exact X0 (f:=id) h
 |NotIn=>exact X0 (f:=not) h
 |Is=>exact X0 (f:=id) h
 |IsNot=>exact X0 (f:=not) h
section
variable{X:Cx}{kd:KD}{pins:List (Addr×Obj)}{σ:St}{H:Hp}{s:Shared}{O:Addr->Prop}
noncomputable def Ni(K:zzA)(kd:KD)(O:Addr->Prop)(H:Hp)(n:Nat)(x:D)(u:Value):Bool:=@decide (∃v d,RelV v u/\Rp K kd O H v d/\wN n d x=some true)<|Classical.propDecidable _
def LL(I:Inv X pins σ H s)(hk:KdOk X kd)(r:RelV v u)(p:Rp X.K kd O H v d)(e:wN n d x=some b):Ni X.K kd O H n x u=b:=by
 unfold Ni;cases b with
 |true=>exact @zyO _ (Classical.propDecidable _) ⟨v,d,r,p,e⟩
 |false=>
  refine @zyG _ (Classical.propDecidable _) λ⟨v',d',r',p',e'⟩=>?_;have:=r.inj r';subst this;exact Bool.noConfusion<|OX I n _ _ _ _ _ _ p.vw p'.vw e e'
def Rz(I:Inv X pins σ H s)(hk:KdOk X kd)(hv:ya vs us)(h:RpL X.K kd O H vs ds)(e:anyF (λy=>wN n y x) ds=some b):us.any (Ni X.K kd O H n x)=b:=
 RpL.ind (P:=λvs ds=>∀us b,ya vs us->anyF (λy=>wN n y x) ds=some b->us.any (Ni X.K kd O H n x)=b) (λus b hv e=>by cases e;cases hv;rfl) (λ{v d vs ds} a _ ih us b hv h=>by
  cases hv with
  |cons r t=>
   obtain⟨b1,h1,h⟩:=bS_<|show(wN n _ x).bind _=_ from h;obtain⟨c1,h2,h⟩:=bS_ h;cases h;rw[List.any_cons,LL I hk r a h1,ih _ _ t h2]) h us b hv e
theorem Z8:∀{ds:List D}{b:Bool},anyF f ds=some b->∀d ∈ ds,∃c,f d=some c
 | [],_,_,d,hd=>by simp at hd
 |x::r,b,h,d,hd=>by
  obtain⟨b1,h1,h⟩:=bS_<|show(f x).bind _=_ from h;obtain⟨c1,h2,h⟩:=bS_ h
  rcases zzC.mp hd with e|e
  . subst e;exact⟨b1,h1⟩
  . exact Z8 h2 d e
def Vp(I:Inv X pins σ H s)(hk:KdOk X kd)(hu:A.units+n<cLine)(vx:Vw X.K kd O H x d)(rx:RelV x v)(hv:ya vs us)(h:RpL X.K kd O H vs ds)(k:∀e ∈ ds,∃c,wN n e d=some c):∀u ∈ us,SeqAt.EqAt A s u v (Ni X.K kd O H n d u):=
 RpL.ind (P:=λvs ds=>∀us,ya vs us->(∀e ∈ ds,∃c,wN n e d=some c)->∀u ∈ us,SeqAt.EqAt A s u v<|Ni X.K kd O H n d u) (λus hv _ u hu=>by cases hv;simp at hu) (λa q ih us hv h u hm=>by
  cases hv with
  |cons r t=>
   rcases zzC.mp hm with e|e
   . subst e;obtain⟨c,hc⟩:=h _ zzF;rw[LL I hk r a hc];exact(KI I n A _ _ _ _ _ _ _ hu a.vw vx r rx hc).eq
   . exact ih _ t (λe he=>h e<|zzD _ he) u e) h us hv k
def PD(vx:Vw X.K kd O H x d)(rx:RelV x v)(e:u6 d (.bl b)=some c)(h:Q c s):wpAny (model X.prog X.w) A (isSame v<|.bool b) Q E s:=by
 cases vx with
 |non=>cases rx;cases e;exact zxH h
 |bl k=>
  cases rx;have e:some (k==b)=some c:=e;cases e;refine zxH ?_;cases k<;>cases b<;>exact h
 |int=>obtain⟨t,rfl⟩:=rx;cases e;exact zxH h
 |str=>obtain⟨t,rfl⟩:=rx;cases e;exact zxH h
 |tup=>cases rx;cases e;exact zxH h
 |lst=>cases rx;cases e;exact zxH h
 |dct=>cases rx;cases e;exact zxH h
 |cl=>cases rx;cases e;exact zxH h
 |ob=>cases rx;cases e;exact zxH h
 |dt=>cases rx;cases e;exact zxH h
 |er=>cases rx;cases e;exact zxH h
def Zk(hk:KdOk X kd)(hu:X.A.units+100<cLine)(op:CmpOp):ID X kd (compareOp op) (zt op):=by
 intro pins s σ H x y v u Q I rx ry h;obtain⟨O,d,e,r,ht,vx,vy,he,q⟩:=h;cases op with
 |Eq=>
  obtain⟨b,h1,he⟩:=bS_<|show(wN 60 d e).bind _=_ from he;cases he;exact(KI I 60 X.A x y d e v u b (by omega) vx vy rx ry h1).rc _ _ _ _ (xp I (ym q<|.bl _) rfl)
 |NotEq=>
  obtain⟨b,h1,he⟩:=bS_<|show(wN 60 d e).bind _=_ from he;cases he;exact(KI I 60 X.A x y d e v u b (by omega) vx vy rx ry h1).ne _ _ _ _ (xp I (ym q<|.bl _) rfl)
 |Lt=>
  obtain⟨i,j,rfl,rfl,he⟩:=Yu vx vy he;cases he;exact u4 pins s σ H _ _ v u Q I rx ry ⟨_,_,rfl,rfl,ym q<|.bl _⟩
 |LtE=>
  obtain⟨i,j,rfl,rfl,he⟩:=Yu vx vy he;cases he;exact u9 pins s σ H _ _ v u Q I rx ry ⟨_,_,rfl,rfl,ym q<|.bl _⟩
 |Gt=>
  obtain⟨i,j,rfl,rfl,he⟩:=Yu vx vy he;cases he;exact tO pins s σ H _ _ v u Q I rx ry ⟨_,_,rfl,rfl,ym q<|.bl _⟩
 |GtE=>
  obtain⟨i,j,rfl,rfl,he⟩:=Yu vx vy he;cases he;exact uY pins s σ H _ _ v u Q I rx ry ⟨_,_,rfl,rfl,ym q<|.bl _⟩
 |In=>
  obtain⟨b,h1,he⟩:=bS_<|show(Am d e).bind _=_ from he;cases he;cases vy with
  |lst hs rl=>
   cases ry;obtain⟨its,rv,p,_⟩:=I.list hs.sq;refine SeqAt.in_listAt (Ni X.K kd O H 50 d) p.isList (λw hw=>Vp I hk (by show X.A.units+1+50<cLine;omega) vx rx rv rl (Z8 h1) w<|by simpa using hw) ?_;have:=Rz I hk rv rl h1;rw[show its.toArray.any (Ni X.K kd O H 50 d)=b by rw[<-this];simp];exact xp (I) (ym q<|.bl _) rfl
  |tup rp hs rl=>
   cases ry;obtain⟨its,rv,p,_⟩:=I.tuple hs;refine SeqAt.in_tupleAt (Ni X.K kd O H 50 d) p (λw hw=>Vp I hk (by show X.A.units+1+50<cLine;omega) vx rx rv rl (Z8 h1) w<|by simpa using hw) ?_;have:=Rz I hk rv rl h1;rw[show its.toArray.any (Ni X.K kd O H 50 d)=b by rw[<-this];simp];exact xp (I) (ym q<|.bl _) rfl
  |str z=>
   cases vx with
   |str i=>cases h1;exact BS pins s σ H _ _ v u Q I rx ry ⟨_,_,rfl,rfl,ym q<|.bl _⟩
   |_=>cases h1
  |dct hs rm=>
   cases ry;obtain⟨k,k1,h1⟩:=bS_ h1;cases h1;obtain⟨z,hd,vs,rel,dd⟩:=Kj I hk hs;have ek:x=kV k:=by
    cases vx with
    |int i=>cases k1;rfl
    |str i=>cases k1;rfl
    |_=>cases k1
   subst ek;refine wpAny_in_of (Us rx) hd dd.mapOf ?_;rw[<-(rel.val k).isSome_eq]
   rcases Lk k rm with⟨v1,d1,e1,e2,_⟩|⟨e1,e2⟩
   . rw[e1];rw[e2]at q;exact xp (I.tok _) (ym q<|.bl _) rfl
   . rw[e1];rw[e2]at q;exact xp (I.tok _) (ym q<|.bl _) rfl
  |dt hH l rl=>
   cases ry;obtain⟨k,k1,h1⟩:=bS_ h1;cases h1;obtain⟨b,rfl,hb⟩:=RM vx k1;refine qz (by show X.A.units+1<cLine;omega) I (NV.t hH hb) rx λs' I'=>?_
   rcases Td k rl l with⟨v1,d1,e1,e2,_⟩|⟨e1,e2⟩
   . rw[e1];rw[e2]at q;exact xp I' (ym q<|.bl _) rfl
   . rw[e1];rw[e2]at q;exact xp I' (ym q<|.bl _) rfl
  |_=>cases h1
 |NotIn=>
  obtain⟨b,h1,he⟩:=bS_<|show(Am d e).bind _=_ from he;cases he;cases vy with
  |lst hs rl=>
   cases ry;obtain⟨its,rv,p,_⟩:=I.list hs.sq;refine SeqAt.notIn_listAt (Ni X.K kd O H 50 d) p.isList (λw hw=>Vp I hk (by show X.A.units+1+50<cLine;omega) vx rx rv rl (Z8 h1) w<|by simpa using hw) ?_;have:=Rz I hk rv rl h1;rw[show its.toArray.any (Ni X.K kd O H 50 d)=b by rw[<-this];simp];exact xp (I) (ym q<|.bl _) rfl
  |tup rp hs rl=>
   cases ry;obtain⟨its,rv,p,_⟩:=I.tuple hs;refine SeqAt.notIn_tupleAt (Ni X.K kd O H 50 d) p (λw hw=>Vp I hk (by show X.A.units+1+50<cLine;omega) vx rx rv rl (Z8 h1) w<|by simpa using hw) ?_;have:=Rz I hk rv rl h1;rw[show its.toArray.any (Ni X.K kd O H 50 d)=b by rw[<-this];simp];exact xp (I) (ym q<|.bl _) rfl
  |str z=>
   cases vx with
   |str i=>cases h1;exact Le pins s σ H _ _ v u Q I rx ry ⟨_,_,rfl,rfl,ym q<|.bl _⟩
   |_=>cases h1
  |dct hs rm=>
   cases ry;obtain⟨k,k1,h1⟩:=bS_ h1;cases h1;obtain⟨z,hd,vs,rel,dd⟩:=Kj I hk hs;have ek:x=kV k:=by
    cases vx with
    |int i=>cases k1;rfl
    |str i=>cases k1;rfl
    |_=>cases k1
   subst ek;refine wpAny_notIn_of (Us rx) hd dd.mapOf ?_;rw[<-(rel.val k).isSome_eq]
   rcases Lk k rm with⟨v1,d1,e1,e2,_⟩|⟨e1,e2⟩
   . rw[e1];rw[e2]at q;exact xp (I.tok _) (ym q<|.bl _) rfl
   . rw[e1];rw[e2]at q;exact xp (I.tok _) (ym q<|.bl _) rfl
  |dt hH l rl=>
   cases ry;obtain⟨k,k1,h1⟩:=bS_ h1;cases h1;obtain⟨b,rfl,hb⟩:=RM vx k1;refine Cn (by show X.A.units+1<cLine;omega) I (NV.t hH hb) rx λs' I'=>?_
   rcases Td k rl l with⟨v1,d1,e1,e2,_⟩|⟨e1,e2⟩
   . rw[e1];rw[e2]at q;exact xp I' (ym q<|.bl _) rfl
   . rw[e1];rw[e2]at q;exact xp I' (ym q<|.bl _) rfl
  |_=>cases h1
 |Is=>
  obtain⟨b,h1,he⟩:=bS_<|show(u6 d e).bind _=_ from he;cases he;cases vy with
  |non=>
   refine uq pins s σ H _ _ v u Q I rx ry ⟨rfl, ?_⟩;have:decide (x=V.non)=b:=by cases vx<;>(cases h1;rfl)
   rw[this];exact ym q (.bl b)
  |bl c=>
   cases ry;exact zxG (PD vx rx h1<|zxH<|xp I (ym q<|.bl _) rfl)
  |_=>cases h1
 |IsNot=>
  obtain⟨b,h1,he⟩:=bS_<|show(u6 d e).bind _=_ from he;cases he;cases vy with
  |non=>
   refine Iv pins s σ H _ _ v u Q I rx ry ⟨rfl, ?_⟩;have:decide (x=V.non)=b:=by cases vx<;>(cases h1;rfl)
   rw[this];exact ym q (.bl _)
  |bl c=>
   cases ry;exact zxG (PD vx rx h1<|zxH<|xp I (ym q<|.bl _) rfl)
  |_=>cases h1
end
def Fi{K}{kd}{O}{H}{vs}{ds}{i}{d}(r:RpL K kd O H vs ds)(h:Es ds i=some d):∃v,Es vs i=some v/\Rp K kd O H v d:=by
 unfold Es at h ⊢;obtain⟨j,h1,h2⟩:=bS_ h;rw[r.length,h1];exact r.get h2
def SU(o:Option D):Option R0:=o.bind λd=>some<|.im d
def zk(x y:D):Option R0:=match x with
 | .lst xs=>(T_ y).bind λi=>SU<|Es xs i
 | .tup xs=>(T_ y).bind λi=>SU<|Es xs i
 | .str x=>(T_ y).bind λi=>if x.length<=sizeLine then(Es x.cps.toList i).bind λc=>some (.im<|.str ⟨#[c]⟩)else none
 | .dct kvs=>(IY y).bind λk=>SU (Lm kvs k)
 |_=>none
def Qm(h:SU o=some r):∃d,o=some d/\r = .im d:=by
 obtain⟨d,h1,h2⟩:=bS_<|h;cases h2;exact⟨d,h1,rfl⟩
section
variable{X:Cx}{kd:KD}
def uo{K}{O}{H}{x}{d}{k}(vx:Vw K kd O H x d)(e:IY d=some k):x=kV k:=by
 cases vx with
 |int i=>cases e;rfl
 |str i=>cases e;rfl
 |_=>cases e
def rV(hk:KdOk X kd):qr X kd zk:=by
 intro value slice pins s σ H x y v u Q I rx ry h hs;obtain⟨O,d,e,r,ht,vx,vy,he,q⟩:=h;cases vx with
 |lst hr rl=>
  obtain⟨i,h0,he⟩:=bS_<|he;obtain⟨rfl,rfl⟩:=Ym vy h0;obtain⟨d,h1,rfl⟩:=Qm he;obtain⟨w,hw,rw'⟩:=Fi rl h1;exact V3 value slice pins s σ H _ _ v u Q I rx ry ⟨_,_,_,w,rfl,rfl,hr.sq,hw,ym q rw'⟩ hs
 |tup rp hr rl=>
  obtain⟨i,h0,he⟩:=bS_<|he;obtain⟨rfl,rfl⟩:=Ym vy h0;obtain⟨d,h1,rfl⟩:=Qm he;obtain⟨w,hw,rw'⟩:=Fi rl h1;exact Cb value slice pins s σ H _ _ v u Q I rx ry ⟨_,_,_,w,rfl,rfl,hr,hw,ym q rw'⟩ hs
 |str z=>
  obtain⟨i,h0,he⟩:=bS_<|he;obtain⟨rfl,rfl⟩:=Ym vy h0;obtain⟨hz,he⟩:=ite_some' he;obtain⟨c,h1,he⟩:=bS_ he;cases he;exact uu value slice pins s σ H _ _ v u Q I rx ry ⟨_,_,c,rfl,rfl,hz,h1,ym q<|.str _⟩ hs
 |dct hr rm=>
  obtain⟨k,h1,he⟩:=bS_<|he;obtain⟨d,h2,rfl⟩:=Qm he;cases rx;obtain⟨z,hd,vs,rel,dd⟩:=Kj I hk hr;have:=uo vy h1;subst this
  rcases Lk k rm with⟨v1,d1,e1,e2,rp⟩|⟨e1,e2⟩
  . rw[h2]at e2;cases e2;obtain⟨w',hw,rw'⟩:=T7.some_of (by rw[<-e1];exact rel.val k);exact tail_any dd.typeIs PySem.F.slot_dict_getitem.lookup (wpAny_getItem_of (Us ry) dd.mapOf hw ⟨v1,H,I.tok _,rw',ym q rp⟩) hs
  . rw[h2]at e2;cases e2
 |_=>cases he
def cutD(xs:List D)(lo hi:Option Int):List D:=(xs.drop<|HT.sIx xs.length 0 lo).take<|HT.sIx xs.length xs.length hi-HT.sIx xs.length 0 lo
def FB{K}{O}{H}{vs}{ds}(r:RpL K kd O H vs ds)(lo hi):RpL K kd O H (BE vs lo hi) (cutD ds lo hi):=by
 unfold BE cutD;rw[r.length];exact(r.drop _).take _
def Qa(x:D)(lo hi:Option Int):Option R0:=match x with
 | .lst xs=>some<|.fl<|cutD xs lo hi
 | .tup xs=>if HT.sIx xs.length 0 lo=0/\HT.sIx xs.length xs.length hi=xs.length then none else some (.im<|.tup<|cutD xs lo hi)
 |_=>none
abbrev OF:=AS->Option (Option Int×AS)
def oN:OF:=λas=>some (none,as)
def oS(f:EF):OF:=λas=>(f as).bind λp=>(pR p.1).bind λi=>some (some i,p.2)
def ZW(fa:EF)(fl fh:OF)(g:D->Option Int->Option Int->Option R0):EF:=λas=>(fa as).bind λp=>(fl p.2).bind λl=>(fh l.2).bind λh=>(p.1.frz.view h.2).bind λx=>(g x.1 l.1 h.1).bind λr=>(wrap x.2 r).bind λz=>some (z,h.2)
def oF(K:zzA)(kd:KD)(f:OF):TO:=λσ H Q=>∃F B ad as o as',Rel K kd F B [] ad as σ H/\f as=some (o,as')/\
 ∀ad' H',Rel K kd F B [] ad' as' σ H'->Grow (Gw [] ad) H (Gw [] ad') H'->Q o H'
@[irreducible] def AO(X:Cx)(kd:KD)(e:Option Expr)(f:OF):Prop:=PO X e<|oF X.K kd f
def Hb(h:PO X e t)(k:∀σ H Q,t' σ H Q->t σ H Q):PO X e t':=λpins s σ H Q I q=>h pins s σ H Q I<|k σ H Q q
def Jg:AO X kd none oN:=by with_unfolding_all exact(Hb IL λσ H Q h=>by
 obtain⟨F,B,ad,as,o,as',R,e,q⟩:=h;cases e;exact q ad H R Grow.refl)
def J4{K}{F B}{T}{ad}{σ}{H}{v}{st}{c}(h:xh K kd F B T ad σ H v (.ow<|.lf st<|.int c)):T=[]/\v = .int c:=by
 have h:=h;generalize hT:Gw T ad=G at h;cases h with
 |lf rp=>cases rp;exact⟨rfl,rfl⟩
def FO{a}{fa}(ha:AE X kd a fa):AO X kd (some a) (oS fa):=by with_unfolding_all exact(Hb (CN ha) λσ H Q h=>by
 obtain⟨F,B,ad,as,o,as',R,e,q⟩:=h;obtain⟨⟨p,as1⟩,h1,e⟩:=bS_<|e;obtain⟨i,e1,e⟩:=bS_ e;obtain⟨st,rfl⟩:=Af e1;cases e;refine⟨F,B,ad,as,_,_,R,h1,λv T' ad1 H1 R1 rv1 g1=>?_⟩;obtain⟨rfl,rfl⟩:=J4 rv1;exact⟨i,rfl,q ad1 H1 R1 g1⟩)
def qB:ux X (λx lo hi H Q=>∃O d r,(∀a,O a->H a≠none)/\Vw X.K kd O H x d/\Qa d lo hi=some r/\RQ X.K kd O H Q r):=by
 intro pins s σ H x v vl vu lo hi sl Q I rx hs pl pu h;obtain⟨O,d,r,ht,vx,he,q⟩:=h;cases vx with
 |lst hr rl=>cases he;exact IK pins s σ H _ v vl vu lo hi sl Q I rx hs pl pu ⟨_,_,rfl,hr.sq,W8 q<|FB rl lo hi⟩
 |tup rp hr rl=>
  have he:(if _ then none else some _:Option R0)=_:=he
  split at he
  . cases he
  . rename_i hw;cases he;exact Ai pins s σ H _ v vl vu lo hi sl Q I rx hs pl pu ⟨_,_,rfl,hr,by rw[rl.length];exact hw,Tv ht q<|FB rl lo hi⟩
 |_=>cases he
def Hn{a}{lo hi}{fa}{fl fh}{pos p2}(ha:AE X kd a fa)(hl:AO X kd lo fl)(hh:AO X kd hi fh):AE X kd (.Subscript a (.Slice lo hi none p2) pos) (ZW fa fl fh Qa):=by with_unfolding_all exact(yH (NA qB ha hl hh) λσ H Q h=>by
 obtain⟨F,B,ad,as,r,as',R,e,q⟩:=h;obtain⟨⟨p,as1⟩,h1,e⟩:=bS_<|e;obtain⟨⟨l,as2⟩,h2,e⟩:=bS_ e;obtain⟨⟨u,as3⟩,h3,e⟩:=bS_ e;obtain⟨⟨d,lv⟩,h4,e⟩:=bS_ e;obtain⟨r',h5,e⟩:=bS_ e;obtain⟨z,h6,e⟩:=bS_ e;cases e;refine x_ R h1 λv ad1 H1 R1 rv1 g1=>⟨F,B,ad1,as1,l,as2,R1,h2,λad2 H2 R2 g2=>⟨F,B,ad2,as2,u,_,R2,h3,λad3 H3 R3 g3=>?_⟩⟩;exact⟨_,d,r',R3.tr _,xh.vw R3 ((rv1.grow g2).grow g3) h4,h5,wJ R3 h6 λw T' H' R' rv' g'=>q w T' ad3 H' R' rv'<|((g1.trans g2).trans g3).trans g'⟩)
def Rm:D->Option R0
 | .int i=>some (.im<|.int (-i))
 |_=>none
def rR:pK X kd (unaryOp .USub) Rm:=by
 intro pins s σ H x v Q I rx h;obtain⟨O,d,r,ht,vx,he,q⟩:=h;cases vx with
 |int i=>cases he;exact DV pins s σ H _ v Q I rx ⟨i,rfl,ym q<|.int _⟩
 |_=>cases he
def J8:D->String
 | .non=>"NoneType" | .bl _=>"bool" | .int _=>"int" | .str _=>"str" | .tup _=>"tuple" | .lst _=>"list" | .dct _=>"dict"|_=>""
def EJ:D->Bool
 | .cl _=>false | .ob _ _ _=>false | .dt _ _=>false | .er _ _ _=>false|_=>true
def GU(t c:String):Bool:=t==c||(t=="bool"&&c=="int")
def Qi(c:String):Bool:=c=="int"||c=="bool"||c=="str"||c=="list"||c=="tuple"||c=="dict"
def Dd(K)(d)(c)(h:Qi c=true)(ho:EJ d=true):W.kitOne K (.type<|J8 d) (.type c)=some (GU (J8 d) c):=by
 have:c="int"\/c="bool"\/c="str"\/c="list"\/c="tuple"\/c="dict":=by
  unfold Qi at h;simp only[Bool.or_eq_true,beq_iff_eq]at h
  rcases h with((((h|h)|h)|h)|h)|h<;>simp[h]
 rcases this with rfl|rfl|rfl|rfl|rfl|rfl<;>cases d<;>first|rfl|cases ho
def DJ(hk:KdOk X kd){pins}{σ}{H}{s}{O}{A}{E}{Q}{c}{x}{u}{d}(I:Inv X pins σ H s)(rx:RelV x u)(vx:Vw X.K kd O H x d)(hc:Qi c=true)(ho:EJ d=true)
 (h:∀tk,Q (.bool<|GU (J8 d) c) {s with toks:=tk}):wpAny (model X.prog X.w) A (call (.builtin "isinstance") [u,.type c]) Q E s:=by
 have e:=Dd X.K d c hc ho;cases vx with
 |non=>cases rx;exact W.kia_one W.kitx_none I.kIn True.intro e (λz=>nomatch z) h
 |bl y=>cases rx;exact W.kia_one W.kitx_bool I.kIn True.intro e (λz=>nomatch z) h
 |int i=>obtain⟨t,rfl⟩:=rx;exact W.kia_one W.kitx_int I.kIn True.intro e (λz=>nomatch z) h
 |str y=>obtain⟨t,rfl⟩:=rx;exact W.kia_one W.kitx_str I.kIn True.intro e (λz=>nomatch z) h
 |lst hr rl=>
  cases rx;obtain⟨its,rv,⟨o,n,h1,h2,_⟩,_⟩:=I.list hr.sq;exact W.kia_one W.kitx_list I.kIn ⟨o,h1,h2⟩ e (λz=>nomatch z) h
 |tup rp hr rl=>
  cases rx;obtain⟨its,rv,⟨o,h1,h2,_⟩,_⟩:=I.tuple hr;exact W.kia_one W.kitx_tuple I.kIn ⟨o,h1,h2⟩ e (λz=>nomatch z) h
 |dct hr rm=>
  cases rx;obtain⟨z,hd,vs,rel,⟨o,es,ep,h1,h2,_⟩⟩:=Kj I hk hr;exact W.kia_one W.kitx_dict I.kIn ⟨o,h1,h2.1⟩ e (λz=>nomatch z) h
 |cl=>cases ho
 |ob=>cases ho
 |dt=>cases ho
 |er=>cases ho
end
def Zm:List D->Option (List Int)
 | []=>some []
 | .int i::r=>(Zm r).bind λs=>some (i::s)
 |_::_=>none
def AJ:List Int->Int
 | []=>0
 |x::r=>r.foldl (λa b=>if a<b then b else a) x
theorem GT:∀(r:List Int) (x:Int),r.foldl (λa b=>if a<b then b else a) x ∈ x::r/\∀a ∈ x::r,a<=r.foldl (λa b=>if a<b then b else a) x
 | [],x=>⟨by simp,by simp⟩
 |y::r,x=>by
  rw[List.foldl_cons];obtain⟨h1,h2⟩:=GT r (if x<y then y else x);refine⟨?_,λa ha=>?_⟩
  . rcases zzC.mp h1 with e|e
    . rw[e];split<;>simp
    . exact zzD _<|zzD _ e
  . have h3:=h2 _ zzF
    rcases zzC.mp ha with e|e
    . subst e;exact Int.le_trans (by split<;>omega) h3
    . rcases zzC.mp e with e|e
      . subst e;exact Int.le_trans (by split<;>omega) h3
      . exact h2 a<|zzD _ e
def CA(h1:M ∈ ns)(h2:∀a ∈ ns,a<=M):AJ ns=M:=by
 cases ns with
 |nil=>simp at h1
 |cons x r=>
  obtain⟨k1,k2⟩:=GT r x;have a1:=k2 M h1;have a2:=h2 _ k1;show r.foldl _ x=M;omega
def Dj(f:D->Option R0)(ds:List D):Option R0:=match ds with
 | [x]=>f x
 |_=>none
def Q2{K}{kd}{O}{H}{f}{xs}{ds}{r}(vl:VwL K kd O H xs ds)(h:Dj f ds=some r):∃x d,xs=[x]/\Vw K kd O H x d/\f d=some r:=by
 cases vl with
 |nil=>cases h
 |cons a b=>
  cases b with
  |nil=>exact⟨_,_,rfl,a,h⟩
  |cons _ _=>cases h
def qV:D->Option R0
 | .lst ds=>some<|.im<|.int ds.length
 | .tup ds=>some<|.im<|.int ds.length
 | .str x=>if x.length<=sizeLine then some (.im<|.int x.length)else none
 | .dct kvs=>some<|.im<|.int kvs.length
 | .dt _ ds=>some (.im<|.int ds.length)
 |_=>none
def xx:List D->Option R0:=Dj qV
def qo:D->Option R0
 | .int i=>some<|.im<|.int i
 | .bl b=>some (.im<|.int (if b then 1 else 0))
 |_=>none
def tupP:List D->Option R0
 | [.lst ds]=>some<|.im<|.tup ds
 | [.tup ds]=>some (.im<|.tup ds)
 |_=>none
def rC:D->Option R0
 | .lst ds=>some<|.fl ds
 | .tup ds=>some (.fl ds)
 |_=>none
def lstP:List D->Option R0:=Dj rC
def D_(ds:List D):Option R0:=match ds with
 | [x,y]=>Sn (λi j=>some<|.im<|.int (if j > i then j else i)) x y
 | [x]=>(Il x).bind λds=>(Zm ds).bind λns=>if 0<ns.length then some (.im<|.int<|AJ ns)else none
 |_=>none
def RD{K}{kd}{O}{H}{xs}{d}(h:VwL K kd O H xs [d]):∃x,xs=[x]/\Vw K kd O H x d:=by
 cases h with
 |cons a b=>cases b;exact⟨_,rfl,a⟩
def IQ{K}{kd}{O}{H}{xs}{d e}(h:VwL K kd O H xs [d,e]):∃x y,xs=[x,y]/\Vw K kd O H x d/\Vw K kd O H y e:=by
 cases h with
 |cons a b=>
  cases b with
  |cons b c=>cases c;exact⟨_,_,rfl,a,b⟩
def HB{K}{kd}{O}{H}{vs}{ds}{ns}(h:RpL K kd O H vs ds)(e:Zm ds=some ns):vs=ns.map V.int:=
 RpL.ind (P:=λvs ds=>∀ns,Zm ds=some ns->vs=ns.map V.int) (λns e=>by cases e;rfl) (λ{v d vs ds} a _ ih ns e=>by
  cases d with
  |int i=>
   obtain⟨s,h1,h2⟩:=bS_<|e;cases h2;cases a;rw[ih _ h1];rfl
  |_=>cases e) h ns e
section
variable{X:Cx}{kd:KD}
def JZ(I:Inv X pins σ H s)(hH:H a=some (.dT kvs))(q:∀t s',Inv X pins σ H s'->Q (.int kvs.length t) s'):wpAny (model X.prog X.w) A (call (.builtin "len") [.ref a]) Q E s:=by
 obtain⟨hz,hd,xs,rel,dd⟩:=Jp I.hok hH;have ty:=dd.typeIs;obtain⟨o,es,ep,ho,_,hdat,h4,_,_⟩:=dd;have sz:es.size=kvs.length:=by rw[show kvs.length=xs.length from Paired.length rel,<-zyT,h4,zzB]
 have body:MeetsIn X.prog X.w (Builtin.«dict.__len__» ⟨[.ref a],[]⟩) (λ_ R s'=>s'=s/\R (.ok<|.ret<|.int kvs.length s.toks) {s with toks:=s.toks+1}):=.of_wp λA' R s' z=>by
  obtain⟨rfl,z⟩:=z;show wpAny _ _ (dictSize a >>= _) _ _ s';unfold dictSize;exact zxG (zxG<|wpAny_dictEntries ho hdat<|zxH<|zxG<|wpAny_pendingCount_other hd<|wpAny_ret_mkInt<|by rw[Nat.add_zero,sz];exact z)
 refine Calls.call_function_entry kind_len plain_len entry_len (args_len1 _) ?_;unfold Builtin.«len»;exact zxG<|zxH<|zxG<|wpAny_callSpecial?_slot ty PySem.F.slot_dict_len<|call_meetsIn PySem.F.slot_dict_len ty PySem.F.entry_dict_len (PySem.F.args_dict_len_1 _) body ⟨rfl,show wpAny _ _ _ _ _ {s with toks:=s.toks+1}from zxG<|zxM<|zxH<|zxG<|wpAny_letGo<|by
  rw[if_neg<|by omega];rw[if_neg<|by rw[sizeLine_eq]at hz;omega];exact zxG<|wpAny_mkInt<|zxH ⟨_,rfl,q _ _<|(I.tok _).tok _⟩⟩
def Kw(hk:KdOk X kd):Y8 X kd (.builtin "len") xx:=by
 intro pins s σ H xs us Q I r h;obtain⟨O,ds,z,ht,vl,he,q⟩:=h;obtain⟨x,d,rfl,vx,he⟩:=Q2 vl he;cases vx with
 |lst hr rl=>cases he;exact Yv pins s σ H _ us Q I r ⟨_,_,rfl,.inl hr.sq,by rw[rl.length];exact ym q<|.int _⟩
 |tup rp hr rl=>cases he;exact Yv pins s σ H _ us Q I r ⟨_,_,rfl,.inr hr,by rw[rl.length];exact ym q<|.int _⟩
 |str y=>
  obtain⟨c,rfl⟩:=zT he;exact Ln pins s σ H _ us Q I r ⟨_,rfl,c,ym q<|.int _⟩
 |dct hr rm=>
  cases he;obtain⟨u,rfl,ru⟩:=vals1 r;cases ru;obtain⟨z,hd,vs,rel,dd⟩:=Kj I hk hr;refine call_len_dict hd dd (by rw[<-rel.length];rw[sizeLine_eq]at z;omega) ?_;rw[<-rel.length,rm.length];exact⟨.int _,H,I.tok _,⟨_,rfl⟩,ym q<|.int _⟩
 |dt hH l rl=>
  cases he;obtain⟨u,rfl,ru⟩:=vals1 r;cases ru;refine JZ I hH λt s' I'=>⟨.int _,H,I',⟨_,rfl⟩, ?_⟩;rw[List.length_zip,l,Nat.min_self,rl.length];exact ym q (.int _)
 |_=>cases he
def BH:Y8 X kd (.type "tuple") tupP:=by
 intro pins s σ H xs us Q I r h;obtain⟨O,ds,z,ht,vl,he,q⟩:=h;unfold tupP at he
 split at he
 . cases he;obtain⟨x,rfl,vx⟩:=RD vl;cases vx with
   |lst hr rl=>exact Wn pins s σ H _ us Q I r ⟨_,_,rfl,.inl ⟨hr.sq,Tv ht q rl⟩⟩
 . cases he;obtain⟨x,rfl,vx⟩:=RD vl;cases vx with
   |tup rp hr rl=>exact Wn pins s σ H _ us Q I r ⟨_,_,rfl,.inr ⟨hr,ym q rp⟩⟩
 . cases he
def BN:Y8 X kd (.type "list") lstP:=by
 intro pins s σ H xs us Q I r h;obtain⟨O,ds,z,ht,vl,he,q⟩:=h;obtain⟨x,d,rfl,vx,he⟩:=Q2 vl he;cases vx with
 |lst hr rl=>cases he;exact V7 pins s σ H _ us Q I r ⟨_,_,rfl,.inl hr.sq,W8 q rl⟩
 |tup rp hr rl=>cases he;exact V7 pins s σ H _ us Q I r ⟨_,_,rfl,.inr hr,W8 q rl⟩
 |_=>cases he
def BM(hc:X.calm=true):Y8 X kd (.builtin "max") D_:=by
 intro pins s σ H xs us Q I r h;obtain⟨O,ds,z,ht,vl,he,q⟩:=h;cases vl with
 |nil=>cases he
 |cons vx vl=>
  cases vl with
  |nil=>
   obtain⟨ds,h0,he⟩:=bS_<|he;cases Xj h0;obtain⟨ns,h1,he⟩:=bS_ he;obtain⟨c,rfl⟩:=zT he;cases vx with
   |lst hr rl=>
    obtain⟨u,rfl,ru⟩:=vals1 r;cases ru;obtain⟨its,rv,p,_⟩:=I.list hr.sq;rw[HB rl h1]at rv;have hi:=intsAre_of rv;obtain⟨ys,e⟩:=hi.allInts.items;have hns:ns=ys.toList.map (·.1):=by rw[<-hi.numsOf,<-nums_intItems,<-e]
    have hsz:0<ys.size:=by
     have h3:=c;rw[hns,zzB,zyT]at h3;exact h3
    have hl:=p.isList;rw[e]at hl;refine max_intList (I.ok.hd hc) hl hsz λv h' tk hv kp=>?_;obtain⟨t,rfl⟩:=intItems_at hv;obtain⟨k1,k2⟩:=argBest_gt (numAt ys)<|ys.size-1;refine⟨.int<|AJ ns,H,I.kept kp,⟨t, ?_⟩,ym q<|.int _⟩
    congr 1
    refine(CA ?_ λa ha=>?_).symm
    . rw[hns,numAt_eq];have hlt:argBest (λi j=>decide (numAt ys i > numAt ys j)) (ys.size-1)<(ys.toList.map (·.1)).length:=by rw[zzB,zyT];omega
      rw[zyF,zzE hlt];exact zxA hlt
    . rw[hns]at ha;obtain⟨j,hj,rfl⟩:=List.getElem_of_mem ha;have hj':=hj;rw[zzB,zyT]at hj;have:=k2 j (by omega);rw[numAt_eq ys j,zyF,zzE hj']at this;exact this
  |cons vy vl=>
   cases vl with
   |nil=>
    obtain⟨i,j,rfl,rfl,he⟩:=Yu vx vy he;cases he;exact Sk hc pins s σ H _ us Q I r ⟨_,_,rfl,ym q<|.int _⟩
   |cons _ _=>cases he
end
def wW(env:Env):List (Str×NameKind)->List (Str×Addr)->List (Str×Addr)
 | [],cs=>cs
 |(n,k)::r,cs=>wW env r (if k == .free then((n,(env.cells.lookup n).getD 0)::cs)else cs)
def Wh(h:∀x ∈ scope.names,x.2 = .free->∃c,env.cells.lookup x.1=some c):closureFor scope env=pure (wW env scope.names []):=by
 have s:∀b i f,
  (∀d g i,f (d,g) i=if g == .free then(do let a <-cellOf env d;pure (.yield ((d,a)::i)))else pure<|.yield i)->
  (∀x ∈ b,x.2 = .free->∃c,env.cells.lookup x.1=some c)->(forIn b i f:Sem _)=pure (wW env b i):=by
  intro b
  induction b with
  |nil=>intro i f _ _;rfl
  |cons x r p=>
   intro i f l m;obtain⟨n,k⟩:=x;rw[List.forIn_cons,l];unfold wW
   by_cases j:(k == .free)=true
   . obtain⟨c,q⟩:=m (n,k) zzF (by simpa using j);rw[if_pos j,if_pos j];have e:cellOf env n=pure c:=by unfold cellOf;rw[q]
     rw[e,q];exact p _ f l λy o=>m y<|zzD _ o
   . rw[if_neg j,if_neg j];exact p _ f l λy o=>m y<|zzD _ o
 simp only[closureFor];rw[s scope.names [] _ (λd g i=>?_) h]
 . rfl
 . rfl
theorem Kq:∀(names:List (Str×NameKind)) (cs:List (Str×Addr)) (p:Str×Addr),p ∈ wW env names cs->p ∈ cs\/((p.1,NameKind.free) ∈ names/\p.2=(env.cells.lookup p.1).getD 0)
 | [],_,_,h=>.inl h
 |(n,k)::r,b,p,h=>by
  unfold wW at h
  rcases Kq r _ p h with h|h
  . by_cases a:(k == .free)=true
    . rw[if_pos a]at h
      rcases zzC.mp h with e|h
      . subst e;have:k = .free:=by simpa using a
        subst this;exact .inr ⟨zzF,rfl⟩
      . exact .inl h
    . rw[if_neg a]at h;exact .inl h
  . exact .inr ⟨zzD _ h.1,h.2⟩
theorem P9:∀(names:List (Str×NameKind)) (cs:List (Str×Addr)) (p:Str×Addr),p ∈ cs->p ∈ wW env names cs
 | [],_,_,h=>h
 |(n,k)::r,a,p,h=>by
  unfold wW;refine P9 r _ p ?_
  split
  . exact zzD _ h
  . exact h
theorem Ka:∀(names:List (Str×NameKind)) (cs:List (Str×Addr)) (x:Str),(x,NameKind.free) ∈ names->(x,(env.cells.lookup x).getD 0) ∈ wW env names cs
 |(n,k)::r,a,x,h=>by
  unfold wW
  rcases zzC.mp h with e|h
  . cases e;exact P9 r _ _ (by simp)
  . exact Ka r _ x h
theorem ZS:∀{l:List (Str×α)},(∀p ∈ l,p.1=x->p.2=a)->(∃b,(x,b) ∈ l)->l.lookup x=some a
 | [],_,h=>by obtain⟨_,h⟩:=h;cases h
 |(k,v)::r,u,h=>by
  rw[List.lookup_cons];cases hb:x==k with
  |true=>
   have:=u (k,v) zzF (beq_iff_eq.mp hb).symm;exact congrArg some this
  |false=>
   refine ZS (λp c=>u p<|zzD _ c) ?_;obtain⟨b,h⟩:=h
   rcases zzC.mp h with e|h
   . cases e;simp at hb
   . exact⟨b,h⟩
theorem Q1:∀(names:List (Str×NameKind)) (h:Heap) (acc:List (Str×Addr)) (p:Str×Addr),p ∈ cellsFrom h.objs.size names acc->
 p ∈ acc\/((p.1,NameKind.cell) ∈ names/\(pushCells h names).IsCell p.2 none/\h.objs.size<=p.2)
 | [],_,_,_,m=>.inl m
 |(n,k)::r,h,b,p,m=>by
  unfold cellsFrom at m;unfold pushCells
  split at m
  . rename_i a;rw[if_pos a];have e:(h.push {cls:=.type "cell",data:=.cell none}).objs.size=h.objs.size+1:=zxN ..;rw[<-e]at m
    rcases Q1 r _ _ p m with m|⟨c,d,f⟩
    . rcases zzC.mp m with g|m
      . subst g;have:k = .cell:=by simpa using a
        subst this;refine .inr ⟨zzF, ?_,zzN _⟩;have z:(h.push {cls:=.type "cell",data:=.cell none}).IsCell h.objs.size none:=⟨_,zxK _ rfl,rfl⟩;exact z.keeps<|pushCells_keeps r _
      . exact .inl m
    . exact .inr ⟨zzD _ c,d,by rw[e]at f;omega⟩
  . rename_i a;rw[if_neg a]
    rcases Q1 r h b p m with m|⟨c,d,f⟩
    . exact .inl m
    . exact .inr ⟨zzD _ c,d,f⟩
theorem YI:∀(names:List (Str×NameKind)) (n:Nat) (acc:List (Str×Addr)) (p:Str×Addr),p ∈ acc->p ∈ cellsFrom n names acc
 | [],_,_,_,m=>m
 |(_,k)::r,n,a,p,m=>by
  unfold cellsFrom
  split
  . exact YI r _ _ p<|zzD _ m
  . exact YI r _ _ p m
theorem QS:∀(names:List (Str×NameKind)) (n:Nat) (acc:List (Str×Addr)) (x:Str),(x,NameKind.cell) ∈ names->∃c,(x,c) ∈ cellsFrom n names acc
 |(y,k)::r,n,a,x,m=>by
  unfold cellsFrom
  rcases zzC.mp m with e|m
  . cases e;rw[if_pos<|by decide];exact⟨n,YI r _ _ _ zzF⟩
  . split
    . exact QS r _ _ x m
    . exact QS r _ _ x m
theorem Q3:∀(names:List (Str×NameKind)) (n:Nat) (acc:List (Str×Addr)),(∀p ∈ acc,p.2<n)->(∀p ∈ acc,∀q ∈ acc,p.2=q.2->p.1=q.1)->∀p ∈ cellsFrom n names acc,∀q ∈ cellsFrom n names acc,p.2=q.2->p.1=q.1
 | [],_,_,_,h=>h
 |(y,k)::r,n,c,b,h=>by
  unfold cellsFrom
  split
  . refine Q3 r (n+1) _ (λp m=>?_) λp m q a e=>?_
    . rcases zzC.mp m with z|m
      . subst z;exact Nat.lt_succ_self _
      . exact zxB<|b p m
    . rcases zzC.mp m with z|m
      . rcases zzC.mp a with d|a
        . rw[z,d]
        . subst z;have:=b q a;rw[<-e]at this;exact absurd this<|Nat.lt_irrefl _
      . rcases zzC.mp a with d|a
        . subst d;have:=b p m;rw[e]at this;exact absurd this<|Nat.lt_irrefl _
        . exact h p m q a e
  . exact Q3 r n c b h
section
variable{M:Model}{A:Around}{E:Value->Shared->Prop}{s:Shared}
def Xo(scope:Scope)(env:Env)(cl:List (Str×Addr))(L:Addr):Env:=
 {scope:=relabel scope env,locals:=L,globals:=env.globals,cells:=cellsFrom (L+1) scope.names cl,qual:=env.qual,func:=none,code:=env.code,frame:=env.frame,builtins:=env.builtins}
def L3
 (h:∀h' env',{env' with scope:=relabel scope env}=Xo scope env cl s.heap.objs.size->env'.locals=s.heap.objs.size->(∀b o,s.heap.get? b=some o->h'.get? b=some o)->h'.Ns s.heap.objs.size (λ_=>none)->
  (∀p ∈ cellsFrom (s.heap.objs.size+1) scope.names cl,p ∈ cl\/((p.1,NameKind.cell) ∈ scope.names/\h'.IsCell p.2 none/\s.heap.objs.size+1<=p.2))->Q env' {s with heap:=h'}):
 wpAny M A (newFunctionEnv scope env.globals cl [] env.qual none .none<|some env) Q E s:=by
 simp only[newFunctionEnv,Option.isSome_some,if_true];refine zxG<|wpAny_alloc ?_;refine zxG<|wpAny_layCells _ (λd a c=>by cases hkc:a==NameKind.cell<;>simp[hkc]) _ _ _ _ ?_;have e:(s.heap.push {cls:=.type "dict",data:=.dict #[]}).objs.size=s.heap.objs.size+1:=zxN ..;refine zxG<|zxH<|zxH<|h _ _ ?_ rfl (λb o q=>pushCells_keeps _ _ b o<|zxI _ q) ((Heap.Ns.new s.heap _).keeps<|pushCells_keeps _ _) λp m=>?_
 . unfold Xo;rw[<-e]
 . rw[<-e]at m
   rcases Q1 _ _ _ p m with m|⟨g,i,f⟩
   . exact .inl m
   . exact .inr ⟨g,i,by rw[e]at f;exact f⟩
end
abbrev yZ(X:Cx)(N:List Str)(scope:Scope)(cl:List (Str×Addr))(s:Shared)(H:Hp)(fp:List Addr):Cx:=
 {X with N:=N,s₀:=s,H₀:=H,env:=Xo scope X.env cl<|s.heap.objs.size+1,outer:=X.stack,ex:=fp,fn:=λx=>scope.names.lookup x==some .cell,pn:=[],xe:=λ_ _=>False}
def sM(σ:St):Option Nat->Option V
 |none=>none
 |some j=>(σ[j]?).getD none
def vN(cap:List (Option Nat))(σ:St):St:=cap.map<|sM σ
def Xy(N XN:List Str)(names:List (Str×NameKind))(envNames:List (Str×NameKind))(cap:List (Option Nat)):Bool:=
 N.length==cap.length&&(N.zip cap).all (λp=>match p.2 with|none=>true|some j=>XN[j]? == some p.1&&names.contains (p.1,NameKind.free)) &&
 names.all (λp=>p.2 != .free||envNames.lookup p.1==some .cell||envNames.lookup p.1==some .free)&&decide (names.map (·.1)).Nodup
def So(X:Cx)(ifs:List Expr)(t:TT):Prop:=
 ∀(pins:List (Addr×Obj)) (s:Shared) (σ:St) (H:Hp) (Q:Bool->Hp->Prop),Inv X pins σ H s->t σ H Q->
  wpAny (model X.prog X.w) X.A (forIn ifs true λc r=>if r=true then do let ok <-isTrue c X.env (eval c X.env);pure (ForInStep.yield ok)else pure<|ForInStep.yield r) (TP X pins σ Q) X.xe s
def CC:So X [] (λ_ H Q=>Q true H):=λa s σ H Q I h=>wpAny_tests_nil ⟨H,I,h⟩
def Iu(h:PT X c t):So X [c] t:=λa s σ H Q I q=>wpAny_tests_one<|h a s σ H Q I q
def Hc(wi:TI)(cap:List (Option Nat))(g:TG)(tt:TT)(te:TE):TE:=λσ H Q=>wi σ H λJ H1=>∃W:Nat->Nat->List V->Hp->Prop,(∃m,W 0 m [] H1)/\∀i m ys H,W i m ys H->ys.length<=sizeLine/\
 ((J.stop i H/\∀p,H p=none->Q (.ref p) (upd H p<|.lst ys))\/(J.go i H/\∀x H',J.yld i H x H'->g x (vN cap σ) H' λσ2 H2=>(∀(j:Nat) v,(vN cap σ)[j]? = some (some v)->σ2[j]? = some (some v))/\
   tt σ2 H2 λb H3=>if b=true then ys.length<sizeLine/\te σ2 H3 λy H4=>∃m',m'<m/\W (i+1) m' (ys++[y]) H4 else ∃m',m'<m/\W (i+1) m' ys H3))
section
variable{prog:Program}{w:World}{A:Around}{E:Value->Shared->Prop}{R:Result->Shared->Prop}{s:Shared}
def L_(I:Nat->Shared->Prop)
 (turn:∀n s (E:Value->Shared->Prop),I n s->wpAny (model prog w) A (pyNext it) (λr s₁=>match r with
  |none=>R (.ok .next) s₁
  |some v=>wpAny (model prog w) A (letOwnedTupleGo target it v) (λ_ s₁=>wpAny (model prog w) A (assign target env v) (λ_ s₂=>
   wpAny (model prog w) A (forIn ifs true λc r=>if r=true then do let ok <-isTrue c env (eval c env);pure (ForInStep.yield ok)else pure<|ForInStep.yield r) (λok s₃=>
            if ok=true then wpAny (model prog w) A (eval elt env) (λx s₄=>
             wpAny (model prog w) A (call (.builtin "list.append") [acc,x]) (λ_ s₅=>∃m,m<n/\I m s₅) E s₄) E s₃
            else ∃m,m<n/\I m s₃) E s₂) E s₁) E s₁) E s)
 (n:Nat) (h:I n s):
 codeAny (model prog w) A (.compLoop (.ListComp elt [⟨target,iter,ifs,0⟩] scope pos) 0 it acc env) R s:=by
 refine codeAny_loop rfl I (λn s e=>?_) n h;refine wpAny_noted ?_;rw[compTurn_list];refine zxG<|wpAny_standAt<|zxG<|zxP (turn n s _ e) (λr f b=>?_) λ_ _ a=>a;cases r with
 |none=>exact zxH b
 |some v=>
  refine zxG<|zxP b (λ_ f b=>?_) λ_ _ a=>a;refine zxG<|zxP b (λ_ k g=>zxG<|zxP g (λok l d=>?_) λ_ _ a=>a) λ_ _ a=>a;cases ok with
  |false=>exact zxH ⟨rfl,d⟩
  |true=>
   exact zxG<|zxG<|zxP d (λx o i=>zxG<|zxP i (λ_ p j=>zxH<|zxH ⟨rfl,j⟩) λ_ _ a=>a) λ_ _ a=>a
end
structure CapOk(N XN:List Str)(names:List (Str×NameKind))(envNames:List (Str×NameKind))(cap:List (Option Nat)):Prop where
 len:N.length=cap.length
 at_:∀(i:Nat) x (j:Nat),N[i]? = some x->cap[i]? = some (some j)->XN[j]? = some x/\(x,NameKind.free) ∈ names
 fr:∀p ∈ names,p.2 = .free->envNames.lookup p.1=some .cell\/envNames.lookup p.1=some .free
 nd:(names.map (·.1)).Nodup
def Mq(h:Xy N XN names envNames cap=true):CapOk N XN names envNames cap:=by
 unfold Xy at h;simp only[zyC,beq_iff_eq,List.all_eq_true,decide_eq_true_eq]at h;obtain⟨⟨⟨a,b⟩,c⟩,d⟩:=h;refine⟨a,λi x j f g=>?_,λp k e=>?_,d⟩
 . have m:(x,some j) ∈ N.zip cap:=zyA (by rw[List.getElem?_zip_eq_some];exact⟨f,g⟩);have:=b _ m;simp only[zyC,beq_iff_eq]at this;exact⟨this.1,by simpa using this.2⟩
 . have:=c p k;rw[e]at this;simpa using this
def KR{names:List (Str×NameKind)}(h:(names.map (·.1)).Nodup)(m:(x,k) ∈ names)(m':(x,k') ∈ names):k=k':=by
 induction names with
 |nil=>cases m
 |cons p r ih=>
  obtain⟨h1,h2⟩:=zzW.mp<|h
  rcases zzC.mp m with e|m
  . rcases zzC.mp m' with e'|m'
    . rw[<-e]at e';cases e';rfl
    . exact absurd (zxE.mpr ⟨_,m',by rw[<-e]⟩) h1
  . rcases zzC.mp m' with e'|m'
    . exact absurd (zxE.mpr ⟨_,m,by rw[<-e']⟩) h1
    . exact ih h2 m m'
def Q8{names:List (Str×NameKind)}(h:(names.map (·.1)).Nodup)(m:(x,k) ∈ names):names.lookup x=some k:=
 ZS (λp a e=>by obtain⟨y,b⟩:=p;cases(e);exact KR h a m) ⟨k,m⟩
def XO(x):(relabel scope env).names.lookup x=(scope.names.lookup x).map λk=>if(k == .free&&env.scope.kind == .function&&env.kindOf x==some .cell)=true then NameKind.cell else k:=by
 unfold relabel;generalize scope.names=a
 induction a with
 |nil=>rfl
 |cons p r b=>
  obtain⟨n,k⟩:=p;rw[zyS,List.lookup_cons (k:=n)];cases hb:x==n with
  |true=>
   have e:=beq_iff_eq.mp hb;subst e;show List.lookup x ((if _=true then _ else _)::_)=_;show _=some (if _=true then NameKind.cell else k)
   split
   . rw[List.lookup_cons,hb]
   . rw[List.lookup_cons,hb]
  |false=>
   show List.lookup x ((if _=true then _ else _)::_)=_
   split
   . rw[List.lookup_cons,hb];exact b
   . rw[List.lookup_cons,hb];exact b
def EZ(I:Inv X pins σ H s)(C:CapOk N X.N scope.names X.env.scope.names cap)(hk:scope.kind = .function)
 (hf:∀b ∈ fp,Rh X pins H b) (ho:∀b ∈ fp,∃o,s.heap.get? b=some o)
 (old:∀b o,s.heap.get? b=some o->h'.get? b=some o) (ns:h'.Ns (s.heap.objs.size+1) (λ_=>none))
 (hc:∀p ∈ cellsFrom (s.heap.objs.size+1+1) scope.names (wW X.env scope.names []),p ∈ wW X.env scope.names []\/((p.1,NameKind.cell) ∈ scope.names/\h'.IsCell p.2 none/\s.heap.objs.size+1+1<=p.2)):
 Inv (yZ X N scope (wW X.env scope.names []) s H fp) [] (vN cap σ) H {s with heap:=h'}:=by
 have has:∀x,(x,NameKind.free) ∈ scope.names->∃c,X.env.cells.lookup x=some c:=λx m=>I.ok.has x<|C.fr _ m rfl;have clo:∀p ∈ wW X.env scope.names [],X.env.cells.lookup p.1=some p.2/\(p.1,NameKind.free) ∈ scope.names:=λp m=>by
  rcases Kq _ _ p m with z|⟨z1,z2⟩
  . cases z
  . obtain⟨c,e⟩:=has _ z1;rw[e]at z2;exact⟨by rw[e];exact congrArg some z2.symm,z1⟩
 have look:∀x c,(cellsFrom _ scope.names _).lookup x=some c->_\/_:=λx c e=>by
  rcases hc _ (mem_of_lookup e)with m|m
  . exact .inl<|clo _ m
  . exact .inr m
 have lt:∀x c,X.env.cells.lookup x=some c->c<s.heap.objs.size:=λx c e=>by obtain⟨v,z⟩:=I.cell x c e;exact z.lt
 have lookF:∀x,(x,NameKind.free) ∈ scope.names->∃c,(cellsFrom _ scope.names _).lookup x=some c/\X.env.cells.lookup x=some c:=λx m=>by
  obtain⟨c,e⟩:=has x m;have m1:=YI scope.names (s.heap.objs.size+1+1) _ _<|Ka (env:=X.env) scope.names [] x m;refine⟨c,ZS (λp hp ep=>?_) ⟨_,m1⟩,e⟩
  rcases hc p hp with z|z
  . have:=(clo p z).1;rw[ep,e]at this;exact(zzZ this).symm
  . rw[ep]at z;exact absurd (KR C.nd z.1 m) (by decide)
 have kinds:∀x,((relabel scope X.env).names.lookup x=some .cell\/(relabel scope X.env).names.lookup x=some .free)->(x,NameKind.free) ∈ scope.names\/(x,NameKind.cell) ∈ scope.names:=λx h=>by
  rw[XO]at h;cases e:scope.names.lookup x with
  |none=>rw[e]at h;rcases h with h|h<;>cases h
  |some k=>
   have m:=mem_of_lookup e;cases k with
   |free=>exact .inl m
   |cell=>exact .inr m
   |_=>rw[e]at h;rcases h with h|h<;>(simp at h)
 have lsz:=ns.lt;refine⟨⟨I.ok.mod,hk,I.ok.glob,I.ok.blt,zyX _, ?_, ?_, ?_,I.ok.hd,I.ok.frames,.inl rfl, ?_,I.bs,zzO I.ok.bsz I.sz, ?_, ?_,I.stack,I.stkFree⟩,rfl,I.bare,(Un.kept old),⟨_,ns, ?_⟩, ?_,I.hok.fresh<|zyX _, ?_,(λ_ z=>nomatch z),I.hok.kept old, ?_⟩
 . intro x y c e1 e2;refine Q3 scope.names _ _ (λp m=>?_) (λp m q m' e=>?_) (x,c) (mem_of_lookup e1) (y,c) (mem_of_lookup e2) rfl
   . exact zxB<|zxB<|lt _ _ (clo p m).1
   . refine I.ok.inj _ _ _ (clo p m).1 ?_;rw[e];exact(clo q m').1
 . intro x h
   rcases kinds x h with m|m
   . obtain⟨c,e,_⟩:=lookF x m;exact⟨c,e⟩
   . obtain⟨c,e⟩:=QS scope.names _ _ x m;cases q:(cellsFrom _ scope.names _).lookup x with
     |some c'=>exact⟨c',q⟩
     |none=>
      exfalso;have:=List.lookup_eq_none_iff.mp q (x,c) e;simp at this
 . intro x c hx e;have hx:=hx;have m:=mem_of_lookup<|beq_iff_eq.mp hx
   rcases look x c e with z|z
   . exact absurd (KR C.nd z.2 m) (by decide)
   . exact zzO (zzO (zyX _)<|zyX _) z.2.2
 . intro b hb;obtain⟨o,e⟩:=ho b hb;refine⟨zzQ<|zxB<|zxJ e,λx c ec=>?_⟩
   rcases look x c ec with z|z
   . exact(hf b hb).2.2.2.2.1 x c z.1
   . have:=zxJ e;intro q;subst q;exact absurd (zzK this<|zzO (zzO (zyX _)<|zyX _) z.2.2)<|Nat.lt_irrefl _
 . intro b o e hb
   rcases(hf b hb).2.2.2.1 with z|z
   . exact I.ok.noex b o e z
   . exact absurd (zzK (zxJ e)<|zzO I.ok.bsz z)<|Nat.lt_irrefl _
 . intro b hb hm
   rcases zzC.mp (I.stkSub b hm)with z|z
   . exact(hf b hb).2.1 z
   . exact(hf b hb).2.2.1 z
 . intro i x v e1 e2 e3;have e2:=e2;unfold vN at e2;rw[zzI]at e2;cases ec:cap[i]? with
   |none=>rw[ec]at e2;cases e2
   |some c=>
    cases c with
    |none=>rw[ec]at e2;cases e2
    |some j=>
     rw[ec]at e2;have e2:(σ[j]?).getD none=some v:=zzZ e2;obtain⟨xn,m⟩:=C.at_ i x j e1 ec;have es:σ[j]? = some (some v):=by
      cases q:σ[j]? with
      |none=>rw[q]at e2;cases e2
      |some y=>rw[q]at e2;exact congrArg some e2
     have kf:=C.fr _ m rfl;obtain⟨mm,hn,hl⟩:=I.loc;obtain⟨u,r,l⟩:=hl j x v xn es (by rcases kf with k|k;exact .inr<|.inl k;exact .inr<|.inr k);refine⟨u,r,.inr ⟨?_, ?_⟩⟩
     . show(relabel scope X.env).names.lookup x=some .cell\/(relabel scope X.env).names.lookup x=some .free;rw[XO,Q8 C.nd m];show some (if _ then _ else _)=_\/some (if _ then _ else _)=_
       split
       . exact .inl rfl
       . exact .inr rfl
     . obtain⟨c,ec,eo⟩:=lookF x m;refine⟨c,ec, ?_⟩
       rcases l with⟨k1,_⟩|⟨_,c2,e4,z⟩
       . have k1:X.env.scope.names.lookup x=some .local:=k1
         rcases kf with k|k<;>(rw[k1]at k;cases k)
       . rw[eo]at e4;cases e4;exact z.keeps old
 . intro x c e
   rcases look x c e with z|z
   . obtain⟨v,q⟩:=I.cell x c z.1;exact⟨v,q.keeps old⟩
   . exact⟨none,z.2.1⟩
 . intro x c e
   rcases look x c e with z|z
   . exact I.freeC x c z.1
   . exact I.hok.fresh<|zzO (zzO (zyX _)<|zyX _) z.2.2
 . show _=_;unfold vN;rw[zzB,C.len]
abbrev lobj(its:List Value):Obj:={cls:=.type "list",data:=.seq its.toArray its.length}
section
variable{X:Cx}{pins:List (Addr×Obj)}{σ:St}{H2:Hp}{s2:Shared}{elt tg iter:Expr}{ifs:List Expr}{scope:Scope}{pos:Pos}{N:List Str}{cap:List (Option Nat)}{g:TG}{tt:TT}{te:TE}{wi:TI}
set_option maxHeartbeats 1000000
def To{Q:VK}{R:Value->Addr->Result->Shared->Prop}
 (hc:X.calm=true) (C:CapOk N X.N scope.names X.env.scope.names cap) (hk:scope.kind = .function)
 (hg:∀cl s H fp,PG (yZ X N scope cl s H fp) tg g) (ht:∀cl s H fp,So (yZ X N scope cl s H fp) ifs tt) (he:∀cl s H fp,PE (yZ X N scope cl s H fp) elt te)
 (I2:Inv X pins σ H2 s2) (T:Turn X.prog X.w X.K tg J fp it tn) (st2:tn 0 s2.heap) (f2:∀b ∈ fp,Rh X pins H2 b)
 (W:Nat->Nat->List V->Hp->Prop) (m0:Nat) (w0:W 0 m0 [] H2)
 (turn:∀i m ys H,W i m ys H->ys.length<=sizeLine/\((J.stop i H/\∀p,H p=none->Q (.ref p) (upd H p<|.lst ys))\/(J.go i H/\∀x H',J.yld i H x H'->g x (vN cap σ) H' λσ2 H2=>(∀(j:Nat) v,(vN cap σ)[j]? = some (some v)->σ2[j]? = some (some v))/\
  tt σ2 H2 λb H3=>if b=true then ys.length<sizeLine/\te σ2 H3 λy H4=>∃m',m'<m/\W (i+1) m' (ys++[y]) H4 else ∃m',m'<m/\W (i+1) m' ys H3)))
 (fin:∀ys H3 s1 m,Inv X pins σ (upd H3 s2.heap.objs.size<|.lst ys) s1->s1.heap.Ns (s2.heap.objs.size+1) m->Rh X pins (upd H3 s2.heap.objs.size<|.lst ys) (s2.heap.objs.size+1)->
  Q (.ref s2.heap.objs.size) (upd H3 s2.heap.objs.size<|.lst ys)->R (.ref s2.heap.objs.size) (s2.heap.objs.size+1) (.ok .next) s1):
 wpAny (model X.prog X.w) X.A (newList []) (λacc s₃=>wpAny (model X.prog X.w) X.A (newFunctionEnv scope X.env.globals (wW X.env scope.names []) [] X.env.qual none .none<|some X.env) (λcenv s₄=>
  codeAny (model X.prog X.w) X.A (.compStart (.ListComp elt [⟨tg,iter,ifs,0⟩] scope pos) 0 (.ref it) acc {cenv with scope:=relabel scope X.env}) (R acc cenv.locals) s₄) E s₃) E s2:=by
 refine zxL<|L3 λh' env' eE eL old hns hcells=>?_;have e1:(s2.heap.push {cls:=.type "list",dict:=none,data:=.seq ([]:List Value).toArray}).objs.size=s2.heap.objs.size+1:=zxN ..;dsimp only at eE eL old hns hcells;rw[e1]at eE eL hns hcells;have hD0:(s2.heap.push {cls:=.type "list",dict:=none,data:=.seq ([]:List Value).toArray}).get? s2.heap.objs.size=some (lobj []):=zxK _ rfl;have hD:=old _ _ hD0;have old':∀b o,s2.heap.get? b=some o->h'.get? b=some o:=λb o q=>old b o<|zxI _ q;have fex:∀b ∈ fp,∃o,s2.heap.get? b=some o:=λb hb=>by obtain⟨o,e,_⟩:=T.obj _ _ st2 b hb;exact⟨o,e⟩
 have flt:∀b ∈ fp,b<s2.heap.objs.size:=λb hb=>by obtain⟨o,e⟩:=fex b hb;exact zxJ e
 have I':=EZ I2 C hk f2 fex old' hns hcells;rw[eE,eL];generalize hX:yZ X N scope (wW X.env scope.names []) s2 H2 fp=X' at I';have xP:X'.prog=X.prog:=by rw[<-hX]
 have xw:X'.w=X.w:=by rw[<-hX]
 have xK:X'.K=X.K:=by rw[<-hX]
 have xA:X'.A=X.A:=by rw[<-hX]
 have xe:X'.env=Xo scope X.env (wW X.env scope.names []) (s2.heap.objs.size+1):=by rw[<-hX]
 have xL:X'.env.locals=s2.heap.objs.size+1:=by rw[xe];rfl
 have xfs:X'.fs=Sq X.stack:=by rw[<-hX]
 have xex:X'.ex=fp:=by rw[<-hX]
 have xs:X'.s₀=s2:=by rw[<-hX]
 have xH:X'.H₀=H2:=by rw[<-hX]
 have xpn:X'.pn=[]:=by rw[<-hX]
 have xc:X'.calm=true:=by rw[<-hX];exact hc
 have xE:X'.xe=λ_ _=>False:=by rw[<-hX]
 have hg':PG X' tg g:=by rw[<-hX];exact hg _ _ _ _
 have ht':So X' ifs tt:=by rw[<-hX];exact ht _ _ _ _
 have he':PE X' elt te:=by rw[<-hX];exact he _ _ _ _
 have H2D:=I2.hok.fresh<|zzN _;have Dfs:s2.heap.objs.size ∉ X'.fs:=by
  rw[xfs];intro hm
  rcases zzC.mp (I2.stkSub _ hm)with z|z
  . exact absurd I2.lt (by rw[<-z];exact Nat.lt_irrefl _)
  . exact I2.nofs (zzN _) z
 have DL:s2.heap.objs.size≠X'.env.locals:=by rw[xL];exact zzQ<|Nat.lt_succ_self _
 have pinD:∀{σ':St}{H':Hp}{s':Shared}{its:List Value}{ps:List (Addr×Obj)},Inv X' ps σ' H' s'->s'.heap.get? s2.heap.objs.size=some (lobj its)->H' s2.heap.objs.size=none->Inv X' [(s2.heap.objs.size,lobj its)] σ' H' s':=λI e n=>
  I.pins_of λp hp=>by
   cases zzR.mp hp;exact⟨e,n,DL,Dfs,λv z=>by cases z⟩
 have stat:∀{H':Hp}{its:List Value},(∀b ∈ fp,H' b=none)->∀b ∈ fp,Rh X' [(s2.heap.objs.size,lobj its)] H' b:=λhn b hb=>by
  refine⟨hn b hb, ?_, ?_,.inl (by rw[xex];exact hb),(I'.ok.exf b<|by rw[xex];exact hb).2,λp hp=>?_⟩
  . exact(I'.ok.exf b<|by rw[xex];exact hb).1
  . exact I'.ok.exfs b (by rw[xex];exact hb)
  . rw[xpn,List.nil_append]at hp;cases zzR.mp hp;exact Nat.ne_of_gt<|flt b hb
 have loop:∀n s',(∃i ys its H3,Inv X' [(s2.heap.objs.size,lobj its)] (vN cap σ) H3 s'/\tn i s'.heap/\(∀b ∈ fp,H3 b=none)/\ya ys its/\W i n ys H3)->
  codeAny (model X.prog X.w) X.A (.compLoop (.ListComp elt [⟨tg,iter,ifs,0⟩] scope pos) 0 (.ref it) (.ref s2.heap.objs.size)<|Xo scope X.env (wW X.env scope.names [])<|s2.heap.objs.size+1)
   (R (.ref s2.heap.objs.size)<|s2.heap.objs.size+1) s':=by
  intro n s' h0;refine L_ (λn s'=>∃i ys its H3,Inv X' [(s2.heap.objs.size,lobj its)] (vN cap σ) H3 s'/\tn i s'.heap/\(∀b ∈ fp,H3 b=none)/\ya ys its/\W i n ys H3) ?_ n h0;clear h0 n s'
  rintro n s3 E' ⟨i,ys,its,H3,I3,st3,fr3,rv3,w3⟩
  obtain⟨hz,hstep⟩:=turn i n ys H3 w3
  rcases hstep with⟨stop,qn⟩|⟨go,step⟩
  . have:=T.done X' xP xw xK xc i _ s3 _ H3 E' I3 (stat fr3) st3 stop;rw[xA]at this;refine zxP this (λr s4 ⟨hr,I4⟩=>?_) λ_ _ z=>z;subst hr;obtain⟨gD,nD,_⟩:=I4.pin (s2.heap.objs.size,lobj its) (by rw[xpn];simp);obtain⟨m,hn,_⟩:=I4.loc;rw[xL]at hn;have b4:=I4.base;rw[xfs,xex,xH,xs]at b4;have nL:H3 (s2.heap.objs.size+1)=none:=by have:=I4.free;rw[xL]at this;exact this
    have neD:∀b o,s2.heap.get? b=some o->b≠s2.heap.objs.size:=λb o e=>zzQ<|zxJ e;have neH:∀b u,H2 b=some u->b≠s2.heap.objs.size:=λb u e z=>by rw[z,H2D]at e;cases e
    have ne3:∀b u,H3 b=some u->b≠s2.heap.objs.size:=λb u e z=>by rw[z,nD]at e;cases e
    have hok4:=I4.hok;rw[xP,xw]at hok4;refine fin ys H3 s4 m (I2.call' ?_ ⟨b4.keep,b4.slot,λb o e n hx=>?_,b4.there,λb xs e=>?_,λb o u e=>?_,λb ps e=>?_⟩ ?_ I4.bare λb hb=>?_) hn (I2.fpOk (zyX _)<|by rw[zX<|Nat.ne_of_gt<|Nat.lt_succ_self _];exact nL)<|qn _ nD
    . have:=I4.os;rw[xs]at this;exact this
    . rw[zX<|neD b o e];exact b4.free b o e n hx
    . rw[zX<|neH b _ e];exact b4.tups b xs e
    . rw[zX<|neH b _ e];exact b4.frzs b o u e
    . rw[zX<|neH b _ e];exact b4.tbls b ps e
    . intro b u e
      by_cases hb:b=s2.heap.objs.size
      . subst hb;rw[yy]at e;cases e;exact⟨hz,its,its.length,rv3,gD⟩
      . rw[zX hb]at e;exact(hok4 b u e).stay (λc v _ q=>q) (λc q=>by rw[zX<|ne3 c _ q];exact q) λc xs q=>by rw[zX<|ne3 c _ q];exact q
    . obtain⟨f0,f1,f3,f4,f5,f6⟩:=f2 b hb;exact⟨f4,f1,f5,f6⟩
  . have:=T.item X' xP xw xK xc i _ s3 _ H3 E' I3 (stat fr3) st3 go;rw[xA]at this;refine zxP this (λr s4 ⟨u,hr,h4⟩=>?_) λ_ _ z=>z;subst hr;refine zxP h4 (λ_ s5 ⟨x,H5,I5,r5,y5,st5,fr5⟩=>?_) λ_ _ z=>z;have I5':=I5.pinned (stat fr5)<|T.obj _ _ st5;have h6:=hg' _ s5 _ H5 x u _ I5' r5<|step x H5 y5;rw[xP,xw,xA,xe,xE]at h6;refine zxP h6 (λ_ s6 ⟨σ6,H6,I6,cap6,q6⟩=>?_) λ_ _ z=>z.elim;have h7:=ht' _ s6 σ6 H6 _ I6 q6;rw[xP,xw,xA,xe,xE]at h7;refine zxP h7 (λb s7 ⟨H7,I7,q7⟩=>?_) λ_ _ z=>z.elim;have keep:∀{H8:Hp}{s8:Shared},Inv X' _ σ6 H8 s8->Inv X' [(s2.heap.objs.size,lobj its)] (vN cap σ) H8 s8/\tn (i+1) s8.heap/\∀b ∈ fp,H8 b=none:=λ{H8 s8} I8=>by
     refine⟨I8.unpinned.weak ?_ cap6,T.keep _ _ _ st5 λb hb o e=>(I8.pin (b,o)<|zzL _<|zzL _<|Yh hb e).1,λb hb=>?_⟩
     . rw[I3.len];exact I8.len.symm
     . obtain⟨o,e,d⟩:=T.obj _ _ st5 b hb;exact(I8.pin (b,o)<|zzL _<|zzL _<|Yh hb e).2.1
    cases b with
    |false=>
     obtain⟨m',hm,w7⟩:=q7;obtain⟨k1,k2,k3⟩:=keep I7;exact⟨m',hm,i+1,ys,its,H7,k1,k2,k3,rv3,w7⟩
    |true=>
     obtain⟨hz2,q7⟩:=q7;have h8:=he' _ s7 σ6 H7 _ I7 q7;rw[xP,xw,xA,xe,xE]at h8;refine zxP h8 (λyv s8 ⟨y,H8,I8,ry,m',hm,w8⟩=>?_) λ_ _ z=>z.elim;obtain⟨k1,k2,k3⟩:=keep I8;obtain⟨gD,nD,_⟩:=k1.pin (s2.heap.objs.size,lobj its) (by rw[xpn];simp);have hl:=rv3.length;refine append_at gD (λh9 sb gD9=>?_) (by rw[zzH];omega);have I9:=(k1.pins_of (pins':=[]) (λ_ z=>nomatch z)).turned (t':=s8.toks) (λb o hb e=>(sb.2 b hb).trans e) nD DL (.inr<|by rw[xs];exact zzN _) (λx c ec z=>by
      obtain⟨v,o,ho,hd⟩:=k1.cell x c ec;rw[z,gD]at ho;cases ho;cases hd) (λp hp=>by rw[xpn]at hp;cases hp)
     have gD9':h9.get? s2.heap.objs.size=some (lobj<|its++[yv]):=by
      rw[gD9]
      congr 1
      show({cls:=.type "list",data:=.seq _ _}:Obj)={cls:=.type "list",data:=.seq (its++[yv]).toArray (its++[yv]).length};rw[zzJ,List.length_singleton,List.push_toArray]
     refine⟨m',hm,i+1,ys++[y],its++[yv],H8,pinD I9 gD9' nD,T.keep _ _ _ k2 λb hb o e=>(sb.2 b<|zzQ<|flt b hb).trans e,k3,rv3.append<|.cons ry .nil,w8⟩
 have start:∃i ys its H3,Inv X' [(s2.heap.objs.size,lobj its)] (vN cap σ) H3 {s2 with heap:=h'}/\tn i h'/\(∀b ∈ fp,H3 b=none)/\ya ys its/\W i m0 ys H3:=
  ⟨0,[],[],H2,pinD I' hD H2D,T.keep _ _ _ st2 λb hb o e=>old' b o e,λb hb=>(f2 b hb).1,.nil,w0⟩
 exact codeAny_compStart_list (loop m0 _ start)<|T.self _ 0 _ _ _ (T.keep _ _ _ st2 λb hb o e=>old' b o e)<|loop m0 _ start
def CY(hc:X.calm=true)(hi:PI X tg iter wi)(hk:scope.kind = .function)(hcap:Xy N X.N scope.names X.env.scope.names cap=true)
 (hg:∀cl s H fp,PG (yZ X N scope cl s H fp) tg g) (ht:∀cl s H fp,So (yZ X N scope cl s H fp) ifs tt) (he:∀cl s H fp,PE (yZ X N scope cl s H fp) elt te)
 (hs:∀x,foldedSetIterable iter X.env x=pure x):PE X (.ListComp elt [⟨tg,iter,ifs,0⟩] scope pos) (Hc wi cap g tt te):=by
 intro a s σ H Q I h;have C:=Mq hcap;rw[eval_ListComp];refine wpAny_comprehension_free rfl hs (Wh λx m e=>I.ok.has x.1<|C.fr x m e) hk (λy m e=>Q8 C.nd<|by rw[<-e];exact m) ?_;refine thn (hi a s σ H _ I h) λv O i=>thn i λj k l=>?_;obtain⟨P,S,U,J,V,e,n,T,d,f2,W,⟨p,t⟩,c⟩:=l;subst e;refine To hc C hk hg ht he n T d f2 W p t c λY Z z m B D fl q=>?_;refine⟨m,D,λh' E=>?_⟩;obtain⟨F,f1,f3,G,K,L⟩:=fl;exact⟨.ref k.heap.objs.size,_,B.turned (t':=z.toks) (λb o M e=>(E.2 b M).trans e) F f1 G K L,rfl,q⟩
def Ih(hN:X.N.Nodup)(hiy:X.N[i]? = some y)(hy:Loc X.env.scope y)(hf:X.fn y=true\/X.env.scope.names.lookup y=some .local)
 (hsw:swapsWith (.ListComp elt [⟨tg,iter,ifs,0⟩] scope pos) (some<|.Name y py) spos.line X.env=pure true)
 (hc:X.calm=true) (hi:PI X tg iter wi) (hk:scope.kind = .function) (hcap:Xy N X.N scope.names X.env.scope.names cap=true)
 (hg:∀cl s H fp,PG (yZ X N scope cl s H fp) tg g) (ht:∀cl s H fp,So (yZ X N scope cl s H fp) ifs tt) (he:∀cl s H fp,PE (yZ X N scope cl s H fp) elt te)
 (hs:∀x,foldedSetIterable iter X.env x=pure x):PS X (.Assign [.Name y py] (.ListComp elt [⟨tg,iter,ifs,0⟩] scope pos) spos) (J9 (Hc wi cap g tt te)<|FP i):=by
 intro c s σ H D I h;have C:=Mq hcap;rw[exec_Assign_Name_used _ _ _ _ hsw];refine zxG<|wpAny_standAt<|zxG ?_;refine zxG<|zxP (wpAny_comprehension_free rfl hs (Wh λx m e=>I.ok.has x.1<|C.fr x m e) hk (λy m e=>Q8 C.nd<|by rw[<-e];exact m) ?_) (λ_ d t=>zxH<|zxH t) λ_ _ e=>e;refine thn (hi c s σ H _ I h) λv s1 u=>thn u λB E F=>?_;obtain⟨it,fp,tn,J,H2,e,G,T,k,f2,W,⟨K,L⟩,f⟩:=F;subst e;refine To (Q:=λx M=>FP i x σ M D.nx) hc C hk hg ht he G T k f2 W K L f λys H3 s3 m O P fl q=>?_;obtain⟨S,f1,f3,U,p,V⟩:=fl;refine wpAny_assign_Name<|G2 O hN hiy hy (v:=.ref E.heap.objs.size) rfl (λY Z ⟨a,sb,j⟩=>?_) hf;refine⟨m,P.sameBut sb λz=>?_,λh' n=>?_⟩
 . rcases j with j|j
   . exact f1<|z.trans j
   . exact p y a j z.symm
 . exact⟨_,_,Z.turned (t':=Y.toks) (λb o hb e=>(n.2 b hb).trans e) S f1 U p V,q⟩
end
structure ItC(K:zzA)(kd:KD)(F:Addr->Prop)(H:Hp)(J:It)(ds:List ZV):Prop where
 all:∀(H2:Hp) (T:Addr->Prop),(∀b u,H b=some u->H2 b=some u)->(∀a,T a->H a=none/\H2 a≠none)->∀i,(i<ds.length->J.go i H2)/\(ds.length<=i->J.stop i H2)/\
  ∀v H3,J.yld i H2 v H3->(∀b o,H2 b=some o->H3 b=some o)/\∀x,ds[i]? = some x->Rp K kd (λa=>x.1=true/\(F a\/T a)) H3 v x.2
def pj(K:zzA)(kd:KD)(f:IF):TI:=λσ H R=>∃F B ad as ds as',Rel K kd F B [] ad as σ H/\f as=some (ds,as')/\
 ∀J ad' H',Rel K kd F B [] ad' as' σ H'->Grow (Gw [] ad) H (Gw [] ad') H'->ItC K kd (Lv F B (Gw [] ad') true) H' J ds->R J H'
@[irreducible] def CV(X:Cx)(kd:KD)(tg iter:Expr)(f:IF):Prop:=PI X tg iter<|pj X.K kd f
def QB(os:List O):List ZV:=os.map λo=>match o with | .lf st d=>(st,d)|o=>(false,o.toD)
def rN(as:AS):RV->Option (List ZV)
 | .ow o=>Mr (o.str,o.toD)
 | .bo i=>match as[i]? with
  |some (some (.nd .ls os))=>some (QB os)
  |some (some (.nd .tp os))=>some (QB os)
  |_=>none
def yu(f:EF):IF:=λas=>(f as).bind λp=>(rN p.2 p.1).bind λds=>some (ds,p.2)
section
variable{K:zzA}{kd:KD}{F B:Addr->Prop}{G:Addr->Prop}{T:List Addr}{ad:Ad}{as:AS}{σ:St}{H H':Hp}
inductive RpC(K:zzA)(kd:KD)(F:Addr->Prop)(H:Hp):List V->List ZV->Prop
 |nil:RpC K kd F H [] []
 |cons {v:V}{x:ZV}{vs:List V}{ds:List ZV}:Rp K kd (λa=>x.1=true/\F a) H v x.2->RpC K kd F H vs ds->RpC K kd F H (v::vs) (x::ds)
theorem RpC.length(h:RpC K kd F H vs ds):vs.length=ds.length:=by
 induction h with
 |nil=>rfl
 |cons _ _ ih=>exact congrArg (· + 1) ih
def RpC.get{vs}{ds}{i:Nat}{x}(h:RpC K kd F H vs ds)(e:ds[i]? = some x):∃v,vs[i]? = some v/\Rp K kd (λa=>x.1=true/\F a) H v x.2:=by
 induction h generalizing i with
 |nil=>simp at e
 |cons h r ih=>
  cases i with
  |zero=>simp at e;subst e;exact⟨_,rfl,h⟩
  |succ i=>
   obtain⟨v,h1,h2⟩:=ih (by simpa using e);exact⟨v,by simpa using h1,h2⟩
def Rp.since{Ob}{v}{d}{T}(k:∀b u,H b=some u->H' b=some u)(hT:∀a,T a->H a=none)(h:Rp K kd Ob H v d):Rp K kd (QA Ob T) H' v d:=
 Rp.grow (W':=T) (H':=H') ⟨λb u q _=>k b u q,λb z=>.inr<|hT b z⟩ (h.less λa z=>z.elim id False.elim)
def RN{st}{vs}{ds}(h:RpL K kd (Lv F B G st) H vs ds):RpC K kd (Lv F B G true) H vs (kids st ds):=
 RpL.ind (P:=λvs ds=>RpC K kd (Lv F B G true) H vs<|kids st ds) .nil (λ{v d vs ds} h _ ih=>by
  refine .cons (x:=(yr d||st,d)) ?_ ih;cases e:yr d with
  |true=>exact h.flat e
  |false=>
   refine h.less λa z=>?_;have zs:st=true:=z.1;rw[zs];exact z.2) h
def JR{vs}{os}{fp}(h:vQ K kd F B G H vs os fp):RpC K kd (Lv F B G true) H vs (QB os):=
 RoL.ind (P:=λvs os _=>RpC K kd (Lv F B G true) H vs<|QB os) .nil (λ{v o vs os fp fq} h _ ih=>by
  have ha:=KO h;refine .cons ?_ ih;cases h with
  |lf rp=>exact rp.less λa z=>(by have zs:=z.1;dsimp only at zs;rw[zs];exact z.2)
  |ls=>exact ha.less λa z=>nomatch z.1
  |dc=>exact ha.less λa z=>nomatch z.1
  |ob=>exact ha.less λa z=>nomatch z.1
  |dt=>exact ha.less λa z=>nomatch z.1
  |tp=>exact ha.less λa z=>nomatch z.1) h
def T5{a}{vs}{ds}(h:YM K H a vs)(r:RpC K kd F H vs ds):ItC K kd F H (sQ K a) ds:=⟨λH3 T k hT i=>by
 have hr3:YM K H3 a vs:=by
  rcases h with(h|⟨o,h⟩)|h
  . exact .inl<|.inl<|k _ _ h
  . exact .inl<|.inr ⟨o,k _ _ h⟩
  . exact .inr h
 refine⟨λhi=>?_,λhi=>⟨_,hr3,by rw[r.length];exact hi⟩,λv H4 hy=>?_⟩
 . obtain⟨u,hu,_⟩:=r.get<|zzE hi;exact⟨_,u,hr3,hu⟩
 . obtain⟨rfl,hv⟩:=hy;refine⟨λ_ _ z=>z,λd hd=>?_⟩;obtain⟨u,hu,ru⟩:=r.get hd;have:=hv _ hr3;rw[hu]at this;cases this;exact(ru.since k λa z=>(hT a z).1).less λa z=>z.2.elim (λy=>.inl ⟨z.1,y⟩) .inr⟩
def FA{a}{vs}{ds}(h:Qy K H a vs)(r:RpC K kd F H vs ds):ItC K kd F H (sZ K a) ds:=⟨λH3 T k hT i=>by
 have hr3:Qy K H3 a vs:=by
  rcases h with(h|⟨o,h⟩)|h
  . exact .inl<|.inl<|k _ _ h
  . exact .inl<|.inr ⟨o,k _ _ h⟩
  . exact .inr h
 refine⟨λhi=>?_,λhi=>⟨_,hr3,by rw[r.length];exact hi⟩,λv H4 hy=>?_⟩
 . obtain⟨u,hu,_⟩:=r.get<|zzE hi;exact⟨_,u,hr3,hu⟩
 . obtain⟨rfl,hv⟩:=hy;refine⟨λ_ _ z=>z,λd hd=>?_⟩;obtain⟨u,hu,ru⟩:=r.get hd;have:=hv _ hr3;rw[hu]at this;cases this;exact(ru.since k λa z=>(hT a z).1).less λa z=>z.2.elim (λy=>.inl ⟨z.1,y⟩) .inr⟩
def I_(lo)(n:Nat):ItC K kd F H (sd lo n) (xk lo n):=⟨λH2 T k hT i=>by
 have hl:(xk lo n).length=n:=by unfold xk;simp
 refine⟨λhi=>by rw[hl]at hi;exact hi,λhi=>by rw[hl]at hi;exact hi,λv H3 hy=>?_⟩;obtain⟨rfl,rfl⟩:=hy;refine⟨λ_ _ z=>z,λd hd=>?_⟩;have hi:i<n:=by rw[<-hl];exact(zzG.mp hd).1
 unfold xk at hd;rw[zzI,List.getElem?_range hi]at hd;cases hd;exact .int _⟩
end
def ET(he:AE X kd e fa):CV X kd tg e (yu fa):=by
 with_unfolding_all (
 intro pins s σ H R I h;obtain⟨F,B,ad,as,ds,as',Rl,e,q⟩:=h;obtain⟨⟨p,as1⟩,h1,e⟩:=bS_<|e;obtain⟨ys,h2,e⟩:=bS_ e;cases e;cases p with
 |ow o=>
  have h2:Mr (o.str,o.toD)=some ds:=h2;generalize hd:o.toD=d at h2;cases d with
  |lst xs=>
   cases h2;refine K3 he pins s σ H R I ⟨F,B,ad,as,_,as1,Rl,h1,λv T1 ad1 H1 R1 rv1 g1=>?_⟩;have rp:=ES R1 rv1;rw[hd]at rp;cases rp with
   |lst hn hr rl=>exact⟨_,rfl,⟨_,.inl hr⟩,q _ ad1 H1 R1.drop (g1.trans<|Grow.less Gw.drop)<|T5 (.inl hr)<|RN rl⟩
   |lstK a b c rl=>exact⟨_,rfl,⟨_,.inr ⟨_,_,_,a,rfl,rfl,rfl,b,c⟩⟩,q _ ad1 H1 R1.drop (g1.trans<|Grow.less Gw.drop)<|T5 (.inr ⟨_,_,_,a,rfl,rfl,rfl,b,c⟩)<|RN rl⟩
  |tup xs=>
   cases h2;refine Ew he pins s σ H R I ⟨F,B,ad,as,_,as1,Rl,h1,λv T1 ad1 H1 R1 rv1 g1=>?_⟩;have rp:=ES R1 rv1;rw[hd]at rp;have go:∃a ys,v = .ref a/\Qy X.K H1 a ys/\RpL X.K kd (Lv F B (Gw [] ad1) o.str) H1 ys xs:=by
    cases rp with
    |tup n h r=>exact⟨_,_,rfl,.inl<|.inl h,r⟩
   obtain⟨a,ys,rfl,hs,rl⟩:=go;exact⟨_,rfl,⟨_,hs⟩,q _ ad1 H1 R1.drop (g1.trans<|Grow.less Gw.drop)<|FA hs<|RN rl⟩
  |_=>cases h2
 |bo i=>
  have h2:(match as1[i]? with|some (some<|.nd .ls os)=>some (QB os)|some (some<|.nd .tp os)=>some (QB os)|_=>none)=some ds:=h2;cases k:as1[i]? with
  |none=>rw[k]at h2;cases h2
  |some s0=>
   rw[k]at h2
   match s0,h2,k with
   |some (.nd .ls os),h2,k=>
    cases h2;refine K3 he pins s σ H R I ⟨F,B,ad,as,_,as1,Rl,h1,λv T1 ad1 H1 R1 rv1 g1=>?_⟩;obtain⟨rfl,hs⟩:=rv1;obtain⟨w,hw,ro⟩:=R1.sl i _ k;rw[hs]at hw;cases hw;generalize hfp:ad1 i=fp at ro;cases ro with
    |ls hH rl=>exact⟨_,rfl,⟨_,.inl<|.inl hH⟩,q _ ad1 H1 R1 g1<|T5 (.inl<|.inl hH)<|JR rl⟩
   |some (.nd .tp os),h2,k=>
    cases h2;refine Ew he pins s σ H R I ⟨F,B,ad,as,_,as1,Rl,h1,λv T1 ad1 H1 R1 rv1 g1=>?_⟩;obtain⟨rfl,hs⟩:=rv1;obtain⟨w,hw,ro⟩:=R1.sl i _ k;rw[hs]at hw;cases hw;generalize hfp:ad1 i=fp at ro;cases ro with
    |tp n hH rl=>exact⟨_,rfl,⟨_,.inl<|.inl hH⟩,q _ ad1 H1 R1 g1<|FA (.inl<|.inl hH)<|JR rl⟩)
def Kl(hg:Gl X "range")(hm:X.mg "range"=none)(ha:AA X kd [a] fr)(hs:starEach [a] X.env=[(false,eval a X.env)]):CV X kd tg (.Call (.Name "range" p) [a] [] pos) (zY fr z_):=by
 with_unfolding_all (
 intro pins s σ H R I h;obtain⟨F,B,ad,as,ds,as',Rl,e,q⟩:=h;obtain⟨⟨ps,as1⟩,h1,e⟩:=bS_<|e;obtain⟨⟨xs,lv⟩,h2,e⟩:=bS_ e;obtain⟨ys,h3,e⟩:=bS_ e;cases e;obtain⟨j,rfl,h3⟩:=Fx h3
 . obtain⟨hj,e3⟩:=zT h3;cases e3;refine Kr hg hm ha hs pins s σ H R I ⟨F,B,ad,as,ps,_,Rl,h1,λvs ad1 H1 R1 rv1 g1=>?_⟩;have vl:=XR R1 rv1 h2;cases vl with
   |cons v1 v2=>
    cases v2;cases v1;exact⟨j,rfl,hj.1,hj.2,q _ ad1 H1 R1 g1<|I_ 0 _⟩)
def r9(as:AS):Option Nat->Option O
 |none=>none
 |some j=>match as[j]? with
  |some (some (.lf st d))=>some (.lf st d)
  |some (some o)=>some (.lf false o.toD)
  |_=>none
def vB(cap:List (Option Nat))(as:AS):AS:=cap.map<|r9 as
def xv(g:GF)(tt:TF)(fe:EF)(as0:AS):List ZV->Option (List O)
 | []=>some []
 |x::r=>(g x as0).bind λas1=>(tt as1).bind λb=>if b.1=true then(fe b.2).bind λp=>(HL p.2 p.1).bind λq=>if q.1.str=true then(xv g tt fe as0 r).bind λos=>some (q.1::os)else none
  else xv g tt fe as0 r
def zr(fi:IF)(cap:List (Option Nat))(g:GF)(tt:TF)(fe:EF):EF:=λas=>(fi as).bind λp=>if p.1.length<=sizeLine then(xv g tt fe (vB cap p.2) p.1).bind λos=>some (.ow<|.nd .ls os,p.2)else none
def zN:TF:=λas=>some (true,as)
section
variable{K:zzA}{kd:KD}{F B:Addr->Prop}{T:List Addr}{ad:Ad}{as:AS}{σ:St}{H H':Hp}{cap:List (Option Nat)}
def IU(R:Rel K kd F B [] ad as σ H)(k:∀b u,H b=some u->H' b=some u)(hT:∀a ∈ T,H a=none)(hT':∀a ∈ T,H' a≠none):
 Rel K kd (QA (Lv F B (Gw [] ad) true) (· ∈ T)) (λ_=>False) [] (λ_=>[]) (vB cap as) (vN cap σ) H':=by
 have no:∀a,¬Gw [] (λ_=>[]) a:=λa z=>z.elim (λy=>nomatch y) λ⟨_,y⟩=>nomatch y;have kn:∀a,H a≠none->H' a≠none:=λa z=>by
  cases e:H a with
  |none=>exact absurd e z
  |some u=>rw[k a u e];simp
 have up:∀{st:Bool}{v:V}{d:D},Rp K kd (λa=>st=true/\Lv F B (Gw [] ad) true a) H v d->Rp K kd (Lv (QA (Lv F B (Gw [] ad) true) (· ∈ T)) (λ_=>False) (Gw [] λ_=>[]) st) H' v d:=λ{st v d} h=>by
  have:=Rp.grow (W':=(· ∈ T)) (H':=H') ⟨λb u q _=>k b u q,λb z=>.inr<|hT b z⟩<|h.less λa z=>z.elim id False.elim;refine this.less λa z=>?_
  rcases z with(⟨z1,z2⟩|z)|z
  . rcases z2 with z2|z2
    . exact .inl ⟨z1,z2⟩
    . exact .inr z2
  . exact z.elim
  . exact(no a z).elim
 refine⟨by unfold vB vN;rw[zzB,zzB],λ_ _=>rfl,λ_=>zyJ,(λ_ _ _ z=>nomatch z),zyJ,(λ_ _ _ z=>nomatch z),λa z=>z.elim (λy=>kn a<|R.trk true a y)<|hT' a,(λ_ z=>z.elim),λa z=>(no a z).elim,λi s e=>?_⟩;unfold vB at e;rw[zzI]at e;obtain⟨c,hc,rfl⟩:=zzX.mp e;have es:(vN cap σ)[i]? = some (sM σ c):=by
  unfold vN;rw[zzI,hc];rfl
 rw[es];cases c with
 |none=>rfl
 |some j=>
  show P2 _ _ _ _ _ _ (match as[j]? with|some (some<|.lf st d)=>some _|some (some o)=>some _|_=>none) _ _;cases k2:as[j]? with
  |none=>rfl
  |some s0=>
   cases s0 with
   |none=>rfl
   |some o=>
    obtain⟨v,hv,ro⟩:=R.sl j _ k2;cases o with
    |lf st d=>
     have e0:ad j=[]:=by
            generalize hfp:ad j=fp at ro;cases ro;rfl
     rw[e0]at ro;refine⟨v,by show some ((σ[j]?).getD none)=_;rw[hv];rfl,.lf<|up ?_⟩;exact(KY ro).less λa z=>by have zs:=z.1;rw[zs];exact z.2
    |nd kk os=>exact⟨v,by show some ((σ[j]?).getD none)=_;rw[hv];rfl,.lf<|up ((KO ro).less λa z=>nomatch z.1)⟩
def Hr{S}{fi}{g}{tt}{fe}{Q}(hS:∀i ∈ S,cap[i]? = some none)(h:al K kd (zr fi cap g tt fe) σ H Q):
 Hc (pj K kd fi) cap (rf K kd S g) (C9 K kd tt) (al K kd fe) σ H Q:=by
 obtain⟨F,B,ad,as,r,as',R,e,q⟩:=h;obtain⟨⟨ds,as1⟩,h1,e⟩:=bS_<|e
 by_cases hz:ds.length<=sizeLine
 . have e:(if ds.length<=sizeLine then(xv g tt fe (vB cap as1) ds).bind λos=>some (RV.ow<|.nd .ls os,as1)else none)=some (r,as'):=e;rw[if_pos hz]at e;obtain⟨os,h2,e⟩:=bS_ e;cases e;refine⟨F,B,ad,as,ds,as',R,h1,λJ ad1 H1 R1 g1 it=>?_⟩;refine⟨λi m ys H3=>m+i=ds.length/\∃T os1 os2,os=os1++os2/\xv g tt fe (vB cap as') (ds.drop i)=some os2/\os1.length<=i/\T.Nodup/\(∀a ∈ T,H1 a=none/\H3 a≠none)/\(∀b u,H1 b=some u->H3 b=some u)/\
    RoL (λ_ v d=>Rp K kd (QA (Lv F B (Gw [] ad1) true) (· ∈ T)) H3 v d) (λa=>¬QA (Lv F B (Gw [] ad1) true) (· ∈ T) a) H3 ys os1 T,⟨ds.length,rfl,[],[],os,rfl,h2,zzN _,zyJ,(λ_ m=>nomatch m),(λ_ _ z=>z),.nil⟩, ?_⟩
   rintro i m ys H3 ⟨hm,T,os1,os2,eo,ec,hl,tnd,tf,k3,rl⟩
   obtain⟨i1,i2,i3⟩:=it.all H3 (· ∈ T) k3 tf i;have yl:=rl.length;refine⟨by omega, ?_⟩
   by_cases hi:i<ds.length
   . refine .inr ⟨i1 hi,λv H4 hy=>?_⟩;obtain⟨k4,rp⟩:=i3 v H4 hy;rw[zyQ hi]at ec;obtain⟨as2,e2,ec⟩:=bS_<|ec;obtain⟨⟨b,as3⟩,e3,ec⟩:=bS_ ec;have k14:=λb u h=>k4 b u<|k3 b u h;have kn4:∀a,H3 a≠none->H4 a≠none:=λa z=>by
      cases e:H3 a with
      |none=>exact absurd e z
      |some u=>rw[k4 a u e];simp
     have R4:=IU (cap:=cap) R1 k14 (λa z=>(tf a z).1) λa z=>kn4 a (tf a z).2;have no:∀a,¬Gw [] (λ_=>[]) a:=λa z=>z.elim (λy=>nomatch y) λ⟨_,y⟩=>nomatch y;refine⟨_,_,_,_,ds[i],as2,R4,(rp _<|zzE hi).less λa z=>?_,e2,λσ5 ad5 H5 R5 g5 keep5=>⟨λj w hw=>?_,_,_,ad5,as2,b,as3,R5,e3,λad6 H6 R6 g6=>?_⟩⟩
     . rcases z with(z|z)|z
       . exact z
       . exact z.elim
       . exact(no a z).elim
     . rw[keep5 j λz=>?_]
       . exact hw
       . have:=hS j z;unfold vN at hw;rw[zzI,this]at hw;cases hw
     . -- what stood is kept
       have g46:=g5.trans g6;have k46:=λb u h=>g46.keep b u h<|no b;have k36:=λb u h=>k46 b u<|k4 b u h;have kn6:∀a,H3 a≠none->H6 a≠none:=λa z=>by
        cases e:H3 a with
        |none=>exact absurd e z
        |some u=>rw[k36 a u e];simp
       have up:∀{H7:Hp}{T2:List Addr},(∀b u,H3 b=some u->H7 b=some u)->(∀a ∈ T2,H3 a=none)->RoL (λ_ v d=>Rp K kd (QA (Lv F B (Gw [] ad1) true) (· ∈ T++T2)) H7 v d) (λa=>¬QA (Lv F B (Gw [] ad1) true) (· ∈ T++T2) a) H7 ys os1 T:=λ{H7 T2} k7 f7=>
        RoL.mono (λst v d r=>(r.since k7 f7).less λa z=>z.elim (λy=>.inl<|.inl y) λy=>(zzM.mp y).elim (λx=>.inl<|.inr x) .inr)
         (λa vs n e=>⟨λz=>z.elim (λy=>n<|.inl y) λy=>(zzM.mp y).elim (λx=>n<|.inr x) λx=>(by have:=f7 a x;rw[this]at e;cases e),k7 _ _ e⟩) (λa _ u h=>k7 a u h) rl
       cases b with
       |false=>
        have:=up (T2:=[]) k36 (λ_ m=>nomatch m);rw[zyE]at this;exact⟨m-1,by omega,by omega,T,os1,os2,eo,ec,Nat.le_succ_of_le hl,tnd,λa z=>⟨(tf a z).1,kn6 a (tf a z).2⟩,λb u h=>k36 b u<|k3 b u h,this⟩
       |true=>
        rw[if_pos rfl]at ec;obtain⟨⟨p,as7⟩,e7,ec⟩:=bS_ ec;obtain⟨⟨o,as8⟩,e8,ec⟩:=bS_ ec
        by_cases hs:o.str=true
        . have ec:=ec;rw[if_pos hs]at ec;obtain⟨os3,e9,ec⟩:=bS_ ec;cases ec;refine⟨by omega,_,_,ad6,as3,p,as7,R6,e7,λy T2 ad7 H7 R7 rv7 g7=>?_⟩;obtain⟨ad8,R8,ro8,le8⟩:=RR R7 rv7 e8;have g47:=g46.trans g7;have k47:=λb u h=>g47.keep b u h<|no b;have k37:=λb u h=>k47 b u<|k4 b u h;have f42:=λa z=>(g47.own a<|.inl z).resolve_left<|no a;have f32:∀a ∈ T2,H3 a=none:=λa z=>by
             cases e:H3 a with
             |none=>rfl
             |some u=>have:=k4 a u e;rw[f42 a z]at this;cases this
          have rt:=M0 R8 R8.tnd (λa z=>.inl z) ro8 hs;have ro9:Ro (λ_ v d=>Rp K kd (QA (Lv F B (Gw [] ad1) true) (· ∈ T++T2)) H7 v d) (λa=>¬QA (Lv F B (Gw [] ad1) true) (· ∈ T++T2) a) H7 y o T2:=
             Ro.mono (λst v d r=>r.less λa z=>z.elim (λy=>.inl<|.inl y) λy=>(zzM.mp y).elim (λx=>.inl<|.inr x) .inr)
              (λa vs n e=>⟨λz=>n<|z.elim (λy=>.inl<|.inl y) λy=>(zzM.mp y).elim (λx=>.inl<|.inr x) .inr,e⟩) (λ_ _ _ h=>h) rt.ro
          refine⟨m-1,by omega,by omega,T++T2,os1++[o],os3,by rw[eo,zxD];rfl,e9,by rw[zzJ,List.length_singleton];omega,zxF.mpr ⟨tnd,rt.nd,λa z b z' e=>?_⟩,λa z=>?_,λb u h=>k37 b u<|k3 b u h,(up k37 f32).append<|RoL.one ro9⟩
          . subst e;exact(tf a z).2<|f32 a z'
          . rcases zzM.mp z with z|z
            . refine⟨(tf a z).1, ?_⟩;cases e:H3 a with
              |none=>exact absurd e (tf a z).2
              |some u=>rw[k37 a u e];simp
            . refine⟨?_,rt.tr a z⟩;cases e:H1 a with
              |none=>rfl
              |some u=>have:=k3 a u e;rw[f32 a z]at this;cases this
        . have ec:=ec;rw[if_neg hs]at ec;cases ec
   . refine .inl ⟨i2 (by omega),λp hp=>?_⟩;rw[List.drop_eq_nil_of_le<|by omega]at ec;cases ec;rw[zyE]at eo;subst eo;have pT:=λz=>(tf p z).2 hp;have H1p:H1 p=none:=by
      cases e:H1 p with
      |none=>rfl
      |some u=>have:=k3 p u e;rw[hp]at this;cases this
     have kp:∀b u,H3 b=some u->upd H3 p (.lst ys) b=some u:=λb u h=>by rw[zX<|yC h hp];exact h
     obtain⟨R9,g9⟩:=R1.news (T':=p::T) (H':=upd H3 p<|.lst ys) (zzW.mpr ⟨pT,tnd⟩) (λa z=>(zzC.mp z).elim (λe=>by rw[e];exact H1p) λz=>(tf a z).1) (λb u h=>kp b u<|k3 b u h) (λa z=>by
      rcases zzC.mp z with e|z
      . rw[e,yy];simp
      . cases e:H3 a with
        |none=>exact absurd e (tf a z).2
        |some u=>rw[kp a u e];simp)
     refine q _ (p::T) ad1 _ R9 (.ls yy ?_)<|g1.trans g9;have le:∀st a,Lv F B (Gw (p::T) ad1) st a->QA (QA (Lv F B (Gw [] ad1) true) (· ∈ T)) (· = p) a:=λst a z=>by
      rcases z with(z|z)|z|z
      . exact .inl<|.inl<|.inl<|.inl ⟨rfl,z.2⟩
      . exact .inl<|.inl<|.inl<|.inr z
      . exact(zzC.mp z).elim .inr λy=>.inl<|.inr y
      . exact .inl<|.inl<|.inr<|.inr z
     exact RoL.mono (λst v d r=>(r.since kp λa z=>by rw[z];exact hp).less<|le st) (λa vs n e=>⟨λz=>(le true a z).elim n λy=>(by rw[y,hp]at e;cases e),kp _ _ e⟩) (λa _ u h=>kp a u h) rl
 . have e:=e;rw[if_neg hz]at e;cases e
end
section
variable{X:Cx}{kd:KD}{elt tg iter e a b c:Expr}{es ifs:List Expr}{scope:Scope}{pos:Pos}{N:List Str}{cap:List (Option Nat)}{g:GF}{tt:TF}{fe fa fb:EF}{fi:IF}{S:List Nat}{fr:AF}{fd:DF}
def K2:So X [] (C9 X.K kd zN):=λa s σ H Q I h=>by
 obtain⟨F,B,c,as,b,d,R,e,q⟩:=h;cases e;exact CC a s σ H Q I<|q c H R Grow.refl
def E8(h:AT X kd c tt):So X [c] (C9 X.K kd tt):=by with_unfolding_all exact(Iu h)
def Rw(hc:X.calm=true)(hi:CV X kd tg iter fi)(hk:scope.kind = .function)(hcap:Xy N X.N scope.names X.env.scope.names cap=true)(hS:S.all (λi=>cap[i]? == some none)=true)
 (hg:∀cl s H fp,AG (yZ X N scope cl s H fp) kd tg S g) (ht:∀cl s H fp,So (yZ X N scope cl s H fp) ifs<|C9 X.K kd tt) (he:∀cl s H fp,AE (yZ X N scope cl s H fp) kd elt fe)
 (hs:∀x,foldedSetIterable iter X.env x=pure x):AE X kd (.ListComp elt [⟨tg,iter,ifs,0⟩] scope pos) (zr fi cap g tt fe):=by with_unfolding_all exact(yH (CY (g:=rf X.K kd S g) (te:=al X.K kd fe) hc hi hk hcap hg ht he hs) λσ H Q h=>Hr (λi m=>by simpa using List.all_eq_true.mp hS i m) h)
def CK(hN:X.N.Nodup)(hiy:X.N[i]? = some y)(hy:Loc X.env.scope y)(hf:X.fn y=true\/X.env.scope.names.lookup y=some .local)
 (hsw:swapsWith (.ListComp elt [⟨tg,iter,ifs,0⟩] scope pos) (some<|.Name y py) spos.line X.env=pure true)
 (hc:X.calm=true) (hi:CV X kd tg iter fi) (hk:scope.kind = .function) (hcap:Xy N X.N scope.names X.env.scope.names cap=true) (hS:S.all (λi=>cap[i]? == some none)=true)
 (hg:∀cl s H fp,AG (yZ X N scope cl s H fp) kd tg S g) (ht:∀cl s H fp,So (yZ X N scope cl s H fp) ifs<|C9 X.K kd tt) (he:∀cl s H fp,AE (yZ X N scope cl s H fp) kd elt fe)
 (hs:∀x,foldedSetIterable iter X.env x=pure x):Ks X kd (.Assign [.Name y py] (.ListComp elt [⟨tg,iter,ifs,0⟩] scope pos) spos) (zz z i<|zr fi cap g tt fe):=by with_unfolding_all exact(vM (Ih (g:=rf X.K kd S g) (te:=al X.K kd fe) hN hiy hy hf hsw hc hi hk hcap hg ht he hs) λD σ H h=>by
 obtain⟨F,B,c,as,o,R,e,q⟩:=h;obtain⟨⟨p,a⟩,d,e⟩:=bS_<|e;obtain⟨⟨y,f⟩,j,e⟩:=bS_ e;obtain⟨k,e⟩:=zT e;cases e;refine Hr (λi m=>by simpa using List.all_eq_true.mp hS i m) ⟨F,B,c,as,p,a,R,d,λv A n r t u g=>?_⟩;obtain⟨b,R2,w⟩:=H0 t u j k;exact q _ b r R2<|g.trans<|Grow.less w)
def IC(F:FnOk X.prog X.w X.K X.mg X.base Sm k f fdt ps (ui X.K kd gg))(hr:Room k X.A)(hg:Gl X x)(hm:X.mg x=some (.ref f))(hk:W.keepIn X.K (.ref f)=true)
 (hb:Binds X.K fdt ps []) (hx:LK Sm X (λ_ _ _=>False)) (ha:AA X kd (e::es) fr) (hdb:(x==("__debug__":Str))=false) (he:starEach (e::es) X.env=(false,eval e X.env)::starEach es X.env) (hpl:(backTo pos<|starEach es X.env).any (·.1)=false):
 AE X kd (.Call (.Name x p) (e::es) [] pos) (zx fr gg):=by with_unfolding_all exact(yH (Cj F hr hg hm hk hb .nil hx ha hdb he hpl) λσ H Q h=>D5 h)
def Dh{id}(hc:Y8 X kd (.builtin id) gg)(hg:Gl X x)(hm:X.mg x=none)(hv:bootBuiltins x=some (.builtin id))(ha:AA X kd (e::es) fr)(hn:x≠"__name__")(hdb:(x==("__debug__":Str))=false)
 (he:starEach (e::es) X.env=(false,eval e X.env)::starEach es X.env) (hpl:(backTo pos<|starEach es X.env).any (·.1)=false):AE X kd (.Call (.Name x p) (e::es) [] pos) (fP fr gg):=by with_unfolding_all exact(yH (T8 hc hg hm hv ha hn hdb he hpl) λσ H Q h=>p6 (λ_ _ _ z=>z) h)
def Al(hc:Y8 X kd (.type T) gg)(hg:Gl X x)(hm:X.mg x=none)(hv:bootBuiltins x=some (.type T))(ha:AA X kd (e::es) fr)(hn:x≠"__name__")(hdb:(x==("__debug__":Str))=false)
 (he:starEach (e::es) X.env=(false,eval e X.env)::starEach es X.env) (hpl:(backTo pos<|starEach es X.env).any (·.1)=false):AE X kd (.Call (.Name x p) (e::es) [] pos) (fP fr gg):=by with_unfolding_all exact(yH (BV hc hg hm hv ha hn hdb he hpl) λσ H Q h=>p6 (λ_ _ _ z=>z) h)
def GH(fa:EF)(c:String):EF:=λas=>(fa as).bind λp=>(p.1.frz.view p.2).bind λx=>if EJ x.1=true then some (.ow<|.lf true<|.bl<|GU (J8 x.1) c,p.2)else none
def S_(hk:KdOk X kd):Xv X (.builtin "isinstance") (λxs H Q=>∃x c O d,xs=[x,.ty c]/\Qi c=true/\Vw X.K kd O H x d/\EJ d=true/\Q (.bl<|GU (J8 d) c) H):=by
 intro b s σ H l m Q I r h;obtain⟨x,c,O,d,rfl,e,f,g,q⟩:=h;cases r with
 |cons i a=>
  cases a with
  |cons a j=>
   cases j;cases(a);exact DJ hk I i f e g λk=>⟨.bl _,H,I.tok k,rfl,q⟩
def Er{c}(hkd:KdOk X kd)(hc:Qi c=true)(hg:Gl X x)(hm:X.mg x=none)(hv:bootBuiltins x=some (.builtin "isinstance"))(hg2:Gl X y)(hm2:X.mg y=none)(hv2:bootBuiltins y=some (.type c))(ha:AE X kd a fa)
 (hn:x≠"__name__") (hdb:(x==("__debug__":Str))=false) (hn2:y≠"__name__") (hdb2:(y==("__debug__":Str))=false)
 (he:starEach [a,.Name y p2] X.env=(false,eval a X.env)::starEach [.Name y p2] X.env) (he2:starEach [.Name y p2] X.env=(false,eval (.Name y p2) X.env)::starEach [] X.env) (hpl:(backTo pos<|starEach [.Name y p2] X.env).any (·.1)=false):
 AE X kd (.Call (.Name x p) [a,.Name y p2] [] pos) (GH fa c):=by with_unfolding_all exact(yH (T8 (S_ hkd) hg hm hv (Yt ha (Yt (Je (v:=.ty c) hg2 hm2 hv2 rfl hn2 hdb2) QX he2) he) hn hdb he hpl) λσ H Q h=>by
 obtain⟨F,B,s,as,r,i,R,e,q⟩:=h;obtain⟨⟨p,j⟩,k,e⟩:=bS_<|e;obtain⟨⟨d,t⟩,l,e⟩:=bS_ e;obtain⟨m,e⟩:=zT e;cases e;exact x_ R k λv b n g f o=>⟨v,c,_,d,rfl,hc,xh.vw g f l,m,q _ [] b n g (.lf<|.bl _) o⟩)
def xF:MG:=λos es=>match es with | [o]=>if os.length<sizeLine then some (os++[o],.lf true .non)else none|_=>none
def Vb:MG:=λos es=>match es with | [.lf _<|.int i]=>if -(2 ^ 63)<=i/\i<2 ^ 63 then(seqIndex? i os.length).bind λk=>(os[k]?).bind λo=>some (os.eraseIdx k,o)else none|_=>none
def BB:MG:=λos es=>match es with | [.nd .ls ps]=>if os.length+ps.length<=sizeLine then some (os++ps,.lf true .non)else none|_=>none
def IH{l f fo g:List Addr}(h:l.Nodup)(e:l=f++(fo++g)):((f++g)++fo).Nodup/\∀a ∈ (f++g)++fo,a ∈ l:=by
 subst e;have p:(f++(fo++g)).Perm ((f++g)++fo):=by
  rw[zxD];exact(List.perm_append_comm).append_left f
 exact⟨p.nodup_iff.mp h,λa m=>p.mem_iff.mpr m⟩
def J6:se X kd FV xF:=by
 intro F B G l f p q r g o s t H Q h c b d e k;unfold xF at e
 split at e
 . obtain⟨i,e⟩:=zT e;cases e;cases b with
   |cons j n=>
    cases n;rw[zyE]at d k;exact⟨l,f,_,rfl,rfl,h,by rw[c.length];exact i,k _ _ _ [] (c.append<|RoL.one j) (.lf .non) (λa m=>by rwa [zyE]at m)<|by rw[zyE];exact d⟩
 . cases e
def HJ:se X kd HW Vb:=by
 intro F B G l g E I J h o K L H Q m b a c e k;unfold Vb at e
 split at e
 . rename_i M i
   split at e
   . rename_i d;obtain⟨j,n,e⟩:=bS_ e;obtain⟨N,p,e⟩:=bS_ e;cases e;obtain⟨v,f,q,r,s,t,u,w,x⟩:=b.at_ p;cases a with
     |cons y z=>
      cases z;cases y with
      |lf A=>
       cases A;rw[zyE,zyE]at c k;obtain⟨C,D⟩:=IH c t;refine⟨l,g,i,j,v,rfl,rfl,m,d.1,d.2,by rw[b.length];exact n,s,k v _ (f++r) q ?_ u D C⟩;rw[Ue,Ue];exact w.append x
   . cases e
 . cases e
def DW:se X kd Ff BB:=by
 intro F B G l h y z A i o C D H Q j d c f e k;unfold BB at e
 split at e
 . rename_i E;obtain⟨n,e⟩:=zT e;cases e;cases c with
   |cons p q=>
    cases q;cases p with
    |ls r g=>
     rename_i b s I;rw[zyE]at f k;obtain⟨t,u,v⟩:=zxF.mp f;obtain⟨J,w⟩:=zzW.mp u;refine⟨l,b,h,s,rfl,rfl,j,r,by rw[d.length,g.length];exact n,k .non _ _ [] (d.append g) (.lf .non) (λa m=>?_) ?_⟩
     . rw[zyE]at m
       rcases zzM.mp m with m|m
       . exact zzP _ m
       . exact zzL _<|zzD _ m
     . rw[zyE];exact zxF.mpr ⟨t,w,λa m b x=>v a m b<|zzD _ x⟩
 . cases e
def MR{i:Nat}{id}(hm:tZ X id r)(hr:se X kd r gg)(slot:Slot "list" name id)(hty:typeOf (.builtin id)=pure (.type "method_descriptor"))(ho:PE X (.Name x p) (QM i))(ha:AD X kd (e::es) fd)
 (hbase:attributeBase (.Name x p) name X.env (eval (.Name x p) X.env)=eval (.Name x p) X.env)
 (hfew:((backTo cpos<|starEach (e::es) X.env).all (λx=>!x.1)&&(backToKw cpos<|keywordEach [] X.env).all (λx=>x.1.isSome)
  && decide ((e::es).length+([]:List Keyword).length+(if([]:List Keyword).isEmpty then 0 else 1)<30))=true)
 (hline:(apos.endLine==cpos.line)=true) (hs:starEach (e::es) X.env=(false,eval e X.env)::starEach es X.env) (hplain:(backTo cpos<|starEach es X.env).any (·.1)=false):
 AE X kd (.Call (.Attribute (.Name x p) name apos) (e::es) [] cpos) (xt i fd gg):=by with_unfolding_all exact(yH (Jo PySem.F.plainAttrs_list slot hty hm ho ha hbase hfew hline hs hplain) λσ H Q h=>uA hr h)
end
inductive Ty where
 |str|lst|dct|int
def Ty.nm:Ty->String
 | .str=>"str" | .lst=>"list" | .dct=>"dict" | .int=>"int"
def CL:Ty->D->Bool
 | .str,.str _=>true
 | .lst,.lst _=>true
 | .dct,.dct _=>true
 | .int,.int _=>true
 |_,_=>false
def p7(X:Cx)(T:String)(x:V)(H:Hp):Prop:=∀(pins:List (Addr×Obj)) (σ:St) (s:Shared) (v:Value),Inv X pins σ H s->RelV x v->s.TypeIs v T/\∀a,v = .ref a->∃ob,s.heap.get? a=some ob/\ob.dict=none
def pX(X:Cx)(T:String)(r:V->List V->Hp->VK->Prop)(to:TE)(t:TA):TE:=λσ H Q=>to σ H λx H1=>p7 X T x H1/\t σ H1 λxs H2=>r x xs H2 Q
section
variable{X:Cx}{kd:KD}{o e:Expr}{es:List Expr}{to:TE}{t:TA}{name:Str}{apos cpos:Pos}{T id:String}{r:V->List V->Hp->VK->Prop}
def sJ(pa:PlainAttrs T)(slot:Slot T name id)(hty:typeOf (.builtin id)=pure (.type "method_descriptor"))(hm:qm X id r)(ho:PE X o to)(ha:PA X (e::es) t)
 (hbase:attributeBase o name X.env (eval o X.env)=eval o X.env)
 (hfew:((backTo cpos<|starEach (e::es) X.env).all (λx=>!x.1)&&(backToKw cpos<|keywordEach [] X.env).all (λx=>x.1.isSome)
  && decide ((e::es).length+([]:List Keyword).length+(if([]:List Keyword).isEmpty then 0 else 1)<30))=true)
 (hline:(apos.endLine==cpos.line)=true) (hs:starEach (e::es) X.env=(false,eval e X.env)::starEach es X.env) (hplain:(backTo cpos<|starEach es X.env).any (·.1)=false):
 PE X (.Call (.Attribute o name apos) (e::es) [] cpos) (pX X T r to t):=by
 intro pins s σ H Q I h;refine wpAny_Call_method_late hbase hfew hline rfl<|thn (ho pins s σ H _ I h) λv s1 ⟨x,H1,I1,r1,ty,q1⟩=>?_;obtain⟨h1,h2⟩:=ty _ _ _ _ I1 r1;refine⟨T,id,pa,slot,hty,h1,h2, ?_⟩;have hA:=ha cpos pins s1 σ H1 _ I1 q1;rw[hs]at hA ⊢;refine Calls.callWith_builtin (by show(false||(backTo cpos<|starEach es X.env).any (·.1))=false;rw[hplain]<;>rfl)<|Calls.evalArgs_plain ?_;exact thn hA λus s2 ⟨vs,H2,I2,r2,q2⟩=>hm pins s2 σ H2 x vs v us Q I2 r1 r2 q2
def rQ(X:Cx)(kd:KD)(id:String)(g:D->List D->Option R0):Prop:=
 qm X id (λx xs H Q=>∃O d ds r,(∀a,O a->H a≠none)/\Vw X.K kd O H x d/\VwL X.K kd O H xs ds/\g d ds=some r/\RQ X.K kd O H Q r)
def t9(hk:KdOk X kd){O}{H}{x}{d}{ty}(h:Vw X.K kd O H x d)(e:CL ty d=true):p7 X ty.nm x H:=by
 intro pins σ s v I rx;cases h with
 |str z=>
  obtain⟨t,rfl⟩:=rx;cases ty<;>first|(cases e;done)|exact⟨typeIs_str s z t,λ_ e=>nomatch e⟩
 |int z=>
  obtain⟨t,rfl⟩:=rx;cases ty<;>first|(cases e;done)|exact⟨typeIs_int s z t,λ_ e=>nomatch e⟩
 |lst hr rl=>
  cases rx;obtain⟨its,_,pl,_⟩:=I.list hr.sq;cases ty<;>first|(cases e;done)|skip
  refine⟨pl.isList.typeIs,λa e=>?_⟩;cases e;obtain⟨o,n,e,c,hd,_⟩:=pl;exact⟨o,e,hd⟩
 |dct hr rm=>
  cases rx;obtain⟨z,hd,vs,rel,dd⟩:=Kj I hk hr;cases ty<;>first|(cases e;done)|skip
  refine⟨dd.typeIs,λb q=>?_⟩;cases q;obtain⟨ob,_,_,h1,h2,_⟩:=dd;exact⟨ob,h1,h2.2.1⟩
 |non=>cases ty<;>cases e
 |bl=>cases ty<;>cases e
 |tup=>cases ty<;>cases e
 |cl=>cases ty<;>cases e
 |er=>cases ty<;>cases e
 |ob=>cases ty<;>cases e
 |dt=>cases ty<;>cases e
def wV(ty:Ty)(fa:EF)(fr:AF)(g:D->List D->Option R0):EF:=λas=>(fa as).bind λp=>(p.1.frz.view p.2).bind λw=>if CL ty w.1=true then(fr p.2).bind λq=>(p.1.frz.view q.2).bind λx=>(views q.2 q.1).bind λy=>(g x.1 y.1).bind λr=>(wrap (meet x.2 y.2) r).bind λz=>some (z,q.2)else none
def De(hk:KdOk X kd)(h:al X.K kd (wV ty fa fr g) σ H Q):
 pX X ty.nm (λx xs H Q=>∃O d ds r,(∀a,O a->H a≠none)/\Vw X.K kd O H x d/\VwL X.K kd O H xs ds/\g d ds=some r/\RQ X.K kd O H Q r) (al X.K kd fa) (sO X.K kd fr) σ H Q:=by
 obtain⟨F,B,ad,as,r,as',R,e,q⟩:=h;obtain⟨⟨p,as1⟩,h1,e⟩:=bS_<|e;obtain⟨⟨d0,l0⟩,h0,e⟩:=bS_ e;obtain⟨hty,e⟩:=ite_some' e;obtain⟨⟨ps,as2⟩,h2,e⟩:=bS_ e;obtain⟨⟨d,lv⟩,h3,e⟩:=bS_ e;obtain⟨⟨ds,lv2⟩,h4,e⟩:=bS_ e;obtain⟨r0,h5,e⟩:=bS_ e;obtain⟨z,h6,e⟩:=bS_ e;cases e;refine x_ R h1 λv ad1 H1 R1 rv1 g1=>⟨t9 hk (xh.vw R1 rv1 h0) hty,F,B,ad1,as1,ps,_,R1,h2,λvs ad2 H2 R2 rv2 g2=>?_⟩;exact⟨_,d,ds,r0,R2.tr _,(xh.vw R2 (rv1.grow g2) h3).less Vd.meet1,(XR R2 rv2 h4).less Vd.meet2,h5,wJ R2 h6 λw T' H' R' rv' g'=>q w T' ad2 H' R' rv'<|(g1.trans g2).trans g'⟩
def Fs(hk:KdOk X kd)(hm:rQ X kd id g)(pa:PlainAttrs ty.nm)(slot:Slot ty.nm name id)(hty:typeOf (.builtin id)=pure (.type "method_descriptor"))(ho:AE X kd a fa)(ha:AA X kd (e::es) fr)
 (hbase:attributeBase a name X.env (eval a X.env)=eval a X.env)
 (hfew:((backTo cpos<|starEach (e::es) X.env).all (λx=>!x.1)&&(backToKw cpos<|keywordEach [] X.env).all (λx=>x.1.isSome)
  && decide ((e::es).length+([]:List Keyword).length+(if([]:List Keyword).isEmpty then 0 else 1)<30))=true)
 (hline:(apos.endLine==cpos.line)=true) (hs:starEach (e::es) X.env=(false,eval e X.env)::starEach es X.env) (hplain:(backTo cpos<|starEach es X.env).any (·.1)=false):
 AE X kd (.Call (.Attribute a name apos) (e::es) [] cpos) (wV ty fa fr g):=by with_unfolding_all exact(yH (sJ pa slot hty hm ho ha hbase hfew hline hs hplain) λσ H Q h=>De hk h)
end
section
variable{K:zzA}{kd:KD}{F B G:Addr->Prop}{T:List Addr}{ad:Ad}{as:AS}{σ:St}{H H':Hp}
inductive RPs(K:zzA)(kd:KD)(F B G:Addr->Prop)(H:Hp):List (V×V)->List (Key×O)->Prop
 |nil:RPs K kd F B G H [] []
 |cons {k:Key}{v:V}{o:O}{ps:List (V×V)}{kos:List (Key×O)}:Zj K kd F B G H v o []->RPs K kd F B G H ps kos->RPs K kd F B G H ((kV k,v)::ps) ((k,o)::kos)
end
section
variable{X:Cx}{kd:KD}{e a b c o i:Expr}{pos pos':Pos}{fa fb fk fv:EF}
def KP{κ:Type}[DecidableEq κ](ks:List κ)(k:κ):Bool:=ks.any λx=>decide (x=k)
def F_{κ:Type}[DecidableEq κ](ks:List κ)(k:κ):List κ:=if KP ks k=true then ks else ks++[k]
def Bg{κ α:Type}[DecidableEq κ](ks:List κ)(os:List α)(k:κ)(o:α):List α:=if KP ks k=true then(ks.zip os).map (λp=>if p.1=k then o else p.2)else os++[o]
theorem LQ[DecidableEq κ](k):∀(ks:List κ) (vs:List α),ks.length=vs.length->((ks.zip vs).any λkv=>decide (kv.1=k))=KP ks k
 | [],_,_=>rfl
 |x::r,[],h=>by simp at h
 |x::r,v::vs,h=>by
  show(decide _||(r.zip vs).any _)=_;rw[LQ k r vs<|by simpa using h];rfl
theorem Fw[DecidableEq κ]:∀(ks:List κ) (vs:List V),ks.length=vs.length->(ks.zip vs).map (λkv=>if kv.1=k then(kv.1,v)else kv)=ks.zip ((ks.zip vs).map λp=>if p.1=k then v else p.2)
 | [],_,_=>rfl
 |x::r,[],h=>by simp at h
 |x::r,w::vs,h=>by
  show _::(r.zip vs).map _=_;rw[Fw r vs<|by simpa using h]
  congr 1
  by_cases e:x=k
  . simp[e]
  . simp[e]
def Hd{κ:Type}[DecidableEq κ]{ks}{vs}{k:κ}{v}(h:ks.length=vs.length):putK (ks.zip vs) k v=(F_ ks k).zip (Bg ks vs k v):=by
 unfold putK F_ Bg;rw[LQ k ks vs h]
 split
 . exact Fw ks vs h
 . rw[List.zip_append h];rfl
end
abbrev Fn:=List (Bool×D)->Option O
section
variable{P:Program}{w:World}{K:zzA}{mg:Str->Option Value}{base:Heap}{kd:KD}
def YS(hr:Room k A):A.units+100<cLine:=by have:=hr.un;omega
def vk(P:Program)(w:World)(K:zzA)(kd:KD):Prop:=∀X:Cx,X.prog=P->X.w=w->X.K=K->KdOk X kd
theorem Xw{O}:∀ns:List Int,RpL K kd O H (ns.map V.int)<|ns.map D.int
 | []=>.nil
 |_::r=>.cons (.int _)<|Xw r
def As{ns:List Int}(hg:g [(true,.lst<|ns.map D.int)]=some (.lf true<|.bl true))(hS:Sw K H a (ns.map V.int)):ui K kd g [.ref a] H (λv _=>v = .bl true) E:=by
 refine⟨λ_=>False,[(true,.lst _)],.lf true _,(λ_ z=>z.elim),.cons ?_ .nil,hg,λv T e _ _ _ _ b=>?_⟩
 . rcases hS with h|⟨c,n,k,z,r⟩
   . exact .lst (λz=>z.2) h<|Xw ns
   . exact .lstK k z r<|Xw ns
 . cases b with
   |lf d=>cases d;rfl
end
namespace Bt
theorem len:bootBuiltins "len"=some (.builtin "len"):=by decide +kernel
theorem max:bootBuiltins "max"=some (.builtin "max"):=by decide +kernel
theorem sorted:bootBuiltins "sorted"=some (.builtin "sorted"):=by decide +kernel
theorem divmod:bootBuiltins "divmod"=some (.builtin "divmod"):=by decide +kernel
theorem isinstance:bootBuiltins "isinstance"=some (.builtin "isinstance"):=by decide +kernel
theorem all:bootBuiltins "all"=some (.builtin "all"):=by decide +kernel
theorem int:bootBuiltins "int"=some (.type "int"):=by decide +kernel
theorem bool:bootBuiltins "bool"=some (.type "bool"):=by decide +kernel
theorem list:bootBuiltins "list"=some (.type "list"):=by decide +kernel
theorem tuple:bootBuiltins "tuple"=some (.type "tuple"):=by decide +kernel
def n(x)(h:(x==("__name__":Str))=false):x≠"__name__":=λe=>by subst e;simp at h
end Bt
def WD(f:EF)(as:AS)(st:Bool)(d:D):Prop:=f as=some (.ow<|.lf st d,as)
def WT(f:TF)(as:AS)(b:Bool):Prop:=f as=some (b,as)
def WA(f:AF)(as:AS)(rs:List (Bool×D)):Prop:=f as=some (rs.map λx=>.ow<|.lf x.1 x.2,as)
def WO(f:DF)(as:AS)(os:List O):Prop:=f as=some (os,as)
section
variable{as:AS}{f a b:EF}{s t:Bool}{x y z:D}{i j:Int}
def zb:WD (fC x) as true x:=rfl
def za{i:Nat}(h:as[i]? = some (some<|.lf s x)):WD (fV i) as s x:=by unfold WD fV;rw[h]
def Js(ha:WD a as s x)(hb:WD b as t y)(hg:g x y=some (.im z)):WD (f2 a b g) as (yr z||(s&&t)) z:=by
 unfold WD f2 at *;rw[ha];show((b as).bind _)=_;rw[hb];show((g x y).bind _)=_;rw[hg];show(if _=true then _ else _:Option RV).bind _=_;rw[if_pos<|by unfold meet;simp];rfl
def uN(ha:a as=some (.ow oa,as))(hb:b as=some (.ow ob,as))(hg:g oa.toD ob.toD=some (.im z)):WD (f2 a b g) as (yr z||(oa.str&&ob.str)) z:=by
 unfold WD f2 at *;rw[ha];show((b as).bind _)=_;rw[hb];show((g oa.toD ob.toD).bind _)=_;rw[hg];show(if _=true then _ else _:Option RV).bind _=_;rw[if_pos<|by unfold meet;simp];rfl
def zj(ha:WD a as s x)(hb:WD b as t y)(hg:g x y=some (.im z))(e:yr z=true):WD (f2 a b g) as true z:=by
 have:=Js ha hb hg;rw[e]at this;exact this
def yD(ha:WD a as s (.int i))(hb:WD b as t (.int j)):WD (f2 a b<|Vc .Add) as true (.int<|i+j):=zj ha hb rfl rfl
def QT(ha:WD a as s (.int i))(hb:WD b as t (.int j)):WD (f2 a b<|Vc .Sub) as true (.int<|i-j):=zj ha hb rfl rfl
def y6(ha:WD a as s (.int i))(hb:WD b as t (.int j))(h1:i.natAbs<big)(h2:j.natAbs<big):WD (f2 a b<|Vc .Mult) as true (.int<|i*j):=zj ha hb (by show(if _ then _ else _)=_;rw[if_pos ⟨h1,h2⟩]) rfl
def wd(ha:WD a as s (.int i))(hb:WD b as t (.int j))(h1:0<j)(h2:j.natAbs<big):WD (f2 a b<|Vc .FloorDiv) as true (.int<|i/j):=zj ha hb (by show(if _ then _ else _)=_;rw[if_pos ⟨h1,h2⟩]) rfl
def yb(ha:WD a as s (.int i))(hb:WD b as t (.int j))(h1:0<j):WD (f2 a b<|Vc .Mod) as true (.int<|i%j):=zj ha hb (by show(if _ then _ else _)=_;rw[if_pos h1]) rfl
def yt(ha:WD a as s x)(hb:WD b as t y)(h:wN 60 x y=some c):WD (f2 a b<|zt .Eq) as true (.bl c):=zj ha hb (by show(wN 60 x y).bind _=_;rw[h];rfl) rfl
def Ur(ha:WD a as s x)(hb:WD b as t y)(h:wN 60 x y=some c):WD (f2 a b<|zt .NotEq) as true (.bl<|!c):=zj ha hb (by show(wN 60 x y).bind _=_;rw[h];rfl) rfl
def NQ(ha:WD a as s (.int i))(hb:WD b as t (.int j)):WD (f2 a b<|zt .Lt) as true (.bl<|decide (i<j)):=zj ha hb rfl rfl
def Vs(ha:WD a as s (.int i))(hb:WD b as t (.int j)):WD (f2 a b<|zt .Gt) as true (.bl<|decide (j<i)):=zj ha hb rfl rfl
def Lb(ha:WD a as s (.int i)):WD (f1 a Rm) as true (.int (-i)):=by
 unfold WD f1 at *;rw[ha];rfl
def zJ(h:WD f as s x)(e:truth x=some c):WT (fT f) as c:=by
 unfold WT fT;unfold WD at h;rw[h];show((truth x).bind _)=_;rw[e];rfl
def ZP(h:WT c as k):WT (wU c) as (!k):=by unfold WT wU at *;rw[h];rfl
def Zl(h:WT c as k)(h2:k=true->WT e as l)(h3:k=false->l=false):WT (YW c e) as l:=by
 unfold WT YW at *;rw[h];cases k with
 |true=>exact h2 rfl
 |false=>rw[h3 rfl];rfl
def Vn(h:WT c as k)(h2:k=false->WT e as l)(h3:k=true->l=true):WT (vA c e) as l:=by
 unfold WT vA at *;rw[h];cases k with
 |false=>exact h2 rfl
 |true=>rw[h3 rfl];rfl
def Yw(h:WD a as s (.bl k))(h2:k=true->WD b as true (.bl l))(h3:k=false->l=false):WD (YF a b) as true (.bl l):=by
 unfold WD YF at *;rw[h];cases k with
 |true=>exact h2 rfl
 |false=>rw[h3 rfl];rfl
def zq:WA aN as []:=rfl
def ze(ha:WD a as s x)(hr:WA fr as rs):WA (aC a fr) as ((s,x)::rs):=by
 unfold WA aC at *;unfold WD at ha;rw[ha];show((fr as).bind _)=_;rw[hr];rfl
theorem QU:∀rs:List (Bool×D),Va as (rs.map λx=>.ow<|.lf x.1 x.2)=some (rs.map λx=>(yr x.2||x.1,x.2))
 | []=>rfl
 |r::rs=>by
  show(Va as _).bind _=_;rw[QU rs];rfl
theorem Xi:∀rs:List (Bool×D),views as (rs.map λx=>.ow<|.lf x.1 x.2)=some (rs.map (·.2),some (rs.all (·.1)))
 | []=>rfl
 |r::rs=>by
  show(views as _).bind _=_;rw[Xi rs];rfl
def yB(ha:WA fr as rs)(hg:g (rs.map λx=>(yr x.2||x.1,x.2))=some (.lf s x)):WD (zx fr g) as s x:=by
 unfold WD zx;unfold WA at ha;rw[ha];show(Va as _).bind _=_;rw[QU];show(g _).bind _=_;rw[hg];rfl
def Z9(ha:WA fr as rs)(hg:g (rs.map λx=>(yr x.2||x.1,x.2))=some o):zx fr g as=some (.ow o,as):=by
 unfold zx;unfold WA at ha;rw[ha];show(Va as _).bind _=_;rw[QU];show(g _).bind _=_;rw[hg];rfl
def Fo(ha:WA fr as rs)(hg:g (rs.map (·.2))=some (.im x)):WD (fP fr g) as (yr x||rs.all (·.1)) x:=by
 unfold WD fP;unfold WA at ha;rw[ha];show(views as _).bind _=_;rw[Xi];show(g _).bind _=_;rw[hg];show(if _=true then _ else _:Option RV).bind _=_;rw[if_pos<|by simp];rfl
def xb(ha:WA fr as rs)(hg:g (rs.map (·.2))=some (.im x))(e:yr x=true):WD (fP fr g) as true x:=by
 have:=Fo ha hg;rw[e]at this;exact this
def zR:WO dN as []:=rfl
def zh{fr}{os}(ha:WD a as s x)(hr:WO fr as os):WO (dC a fr) as (.lf s x::os):=by
 unfold WO dC at *;unfold WD at ha;rw[ha];show((fr as).bind _)=_;rw[hr];rfl
def xS{fr}{os}(h:WO fr as os)(hl:os.length<=sizeLine):yA fr as=some (.ow<|.nd .ls os,as):=by
 unfold yA;unfold WO at h;rw[h];show(if os.length<=sizeLine then _ else _)=_;rw[if_pos hl]
def zW{f g}{as1}{o}(h1:f as=some (.nx as1))(h2:g as1=o):zp f g as=o:=by unfold zp;rw[h1];exact h2
def RF{f g}{o}(h1:f as=some (.rt o)):zp f g as=some (.rt o):=by unfold zp;rw[h1];rfl
def wL{c}{f g}{o}(h:WT c as true)(h1:f as=o):xB c f g as=o:=by unfold xB;unfold WT at h;rw[h];exact h1
def zU{c}{f g}{o}(h:WT c as false)(h1:g as=o):xB c f g as=o:=by unfold xB;unfold WT at h;rw[h];exact h1
def yf{i:Nat}{st}(h:WD f as s x)(hi:i<as.length):zz st i f as=some (.nx<|as.set i<|some<|.lf s x):=by
 unfold zz;unfold WD at h;rw[h];cases st<;>exact if_pos hi
def y8{i:Nat}{o}(h:f as=some (.ow o,as))(hi:i<as.length):zz false i f as=some (.nx<|as.set i<|some o):=by
 unfold zz;rw[h];exact if_pos hi
def CD{i:Nat}{o}(h:f as=some (.ow o,as))(hi:i<as.length):zz true i f as=some (.nx<|as.set i<|some o.frz):=by
 unfold zz;rw[h];exact if_pos hi
def y_(h:WD f as true x):zV f as=some (.rt<|.lf true x):=by unfold zV;unfold WD at h;rw[h];rfl
def xR(hl:ds.length=m)(h:c (Yl n ds)=some (.rt o)):wQ n m c ds=some o:=by unfold wQ;rw[if_pos hl,h];rfl
theorem yM{g}{f}(I:Nat->AS->Prop):∀(xs:List ZV) (k:Nat) (as:AS),(∀i x as,xs[i]? = some x->I (k+i) as->∃as1,g x as=some as1/\∃as2,f as1=some (.nx as2)/\I (k+i+1) as2)->I k as->∃as',forL g f xs as=some (.nx as')/\I (k+xs.length) as'
 | [],k,as,_,h=>⟨as,rfl,h⟩
 |x::r,k,as,st,h=>by
  obtain⟨as1,h1,as2,h2,h3⟩:=st 0 x as rfl h;obtain⟨as',h4,h5⟩:=yM I r (k+1) as2 (λi y as e q=>by
   obtain⟨u,k1,v,k2,k3⟩:=st (i+1) y as e (by rw[show k+(i+1)=k+1+i by omega];exact q);exact⟨u,k1,v,k2,by rw[show k+1+i+1=k+(i+1)+1 by omega];exact k3⟩) h3
  refine⟨as', ?_,by rw[zzT,show k+(r.length+1)=k+1+r.length by omega];exact h5⟩;show(g x as).bind _=_;rw[h1];show(f as1).bind _=_;rw[h2];exact h4
def yF{fi}{g}{f}{xs}{as'}{o}(h:fi as=some (xs,as'))(h2:forL g f xs as'=o):yK fi g f as=o:=by unfold yK;rw[h];exact h2
def xJ{lo}{n i:Nat}{x}(h:(xk lo n)[i]? = some x):x=(true,.int<|lo+i)/\i<n:=by
 unfold xk at h;rw[zzI]at h;cases e:(List.range n)[i]? with
 |none=>rw[e]at h;cases h
 |some k=>
  rw[e]at h;obtain⟨h1,h2⟩:=zzG.mp e;rw[zyU]at h1;rw[List.getElem_range]at h2;subst h2;exact⟨(zzZ h).symm,h1⟩
def yU(h:WA fr as [(u,.int j)])(h0:0<=j)(h1:j<1000000):zY fr z_ as=some (xk 0 j.toNat,as):=by
 unfold zY;unfold WA at h;rw[h];simp only[zyL,Xi];show((if -_<=j/\j<2 ^ 62 then some _ else none).bind _)=_;rw[if_pos ⟨by omega,by omega⟩];rfl
def Oi(ha:a as=some (.ow o,as))(hr:WA fr as rs):WA (aC a fr) as ((o.str,o.toD)::rs):=by
 unfold WA aC at *;rw[ha];show((fr as).bind _)=_;rw[hr];rfl
def Rx{i:Nat}{o}(h:as[i]? = some (some o)):RV.view as (.bo i)=some (o.toD,o.kl):=by simp only[RV.view,h]
def MS{i:Nat}{o}(h:as[i]? = some (some o)):HL as (.bo i)=some (o.frz,as.set i<|some o.frz):=by simp only[HL,h]
def C0{i:Nat}{o}(h:as[i]? = some (some o))(hs:o.str=true):Ha as (.bo i)=some o:=by simp only[Ha,h,hs,if_true]
def UL{i:Nat}{k}{os}(h:as[i]? = some (some<|.nd k os)):fV i as=some (.bo i,as):=by unfold fV;rw[h]
def rz{i:Nat}{os}(h:as[i]? = some (some<|.nd .ls os)):WD (fP (aC (fV i) aN) xx) as true (.int os.length):=by
 have e:views as [.bo i]=some ([.lst<|O.toDs os],meet (O.nd .ls os).kl<|some true):=by
  show(RV.view as _).bind _=_;rw[Rx h];rfl
 unfold WD fP aC;rw[UL h];simp only[zyL,aN,RV.frz,e];rw[show xx [.lst<|O.toDs os]=some (.im<|.int os.length) by show some (R0.im<|.int ((O.toDs os).length:Nat))=_;rw[XD]];rfl
def xN{g}{f}{d}{r}{as1 as2}{o}(h1:g d as=some as1)(h2:f as1=some (.nx as2))(h3:forL g f r as2=o):forL g f (d::r) as=o:=by
 show(g d as).bind _=_;rw[h1];show(f as1).bind _=_;rw[h2];exact h3
def N_{g}{f}{d}{r}{as1}{o}(h1:g d as=some as1)(h2:f as1=some (.rt o)):forL g f (d::r) as=some (.rt o):=by
 show(g d as).bind _=_;rw[h1];show(f as1).bind _=_;rw[h2];rfl
def Az{i:Nat}{os}(h:as[i]? = some (some<|.nd .ls os))(hl:os.length<sizeLine)(ha:WD a as s x):yI (xt i (dC a dN) xF) as=some (.nx<|as.set i<|some<|.nd .ls<|os++[.lf s x]):=by
 unfold yI xt;rw[h];have e:=zh ha zR;rw[e];show(Option.bind (match as[i]? with|some (some<|.nd .ls os)=>_|_=>none) _)=_;rw[h];show((xF os _).bind _).bind _=_;have e2:xF os [.lf s x]=some (os++[.lf s x],.lf true .non):=by unfold xF;exact if_pos hl
 rw[e2];rfl
def HX{i:Nat}{os}{k}{o}(h:as[i]? = some (some<|.nd .ls os))(ha:WD a as s (.int k))(h0:0<=k)(h1:k<os.length)(hs:os.length<2 ^ 60)(ho:os[k.toNat]? = some o):xt i (dC a dN) Vb as=some (.ow o,as.set i<|some<|.nd .ls<|os.eraseIdx k.toNat):=by
 unfold xt;rw[h];have e:=zh ha zR;rw[e];show(match as[i]? with|some (some<|.nd .ls os)=>_|_=>none)=_;rw[h];show((Vb os _).bind _)=_;have e2:Vb os [.lf s<|.int k]=some (os.eraseIdx k.toNat,o):=by
  unfold Vb;show(if -_<=k/\k<2 ^ 63 then _ else _)=_;rw[if_pos ⟨by omega,by omega⟩];have e3:seqIndex? k os.length=some k.toNat:=by unfold seqIndex?;simp;omega
  rw[e3];show((os[k.toNat]?).bind _)=_;rw[ho];rfl
 rw[e2];rfl
def Ax(h:f as=some (.ow o,as))(hg:g (o.str,o.toD) as=some as'):Zo f g as=some (.nx as'):=by
 unfold Zo;rw[h];show(g _ as).bind _=_;rw[hg];rfl
def Fl{i:Nat}{o}(h:as[i]? = some (some o))(hs:o.str=true):zV (fV i) as=some (.rt o):=by
 cases o with
 |lf st d=>unfold zV fV;rw[h];have:st=true:=hs;subst this;rfl
 |nd k os=>
  unfold zV;rw[UL h];show(Ha as _).bind _=_;rw[C0 h hs];rfl
def Q6{fr}{os}(h:WO fr as os)(hl:os.length<=sizeLine)(ha:os.all O.isLf=true):WD (yh fr) as (O.strs os) (.tup<|O.toDs os):=by
 unfold WD yh;unfold WO at h;rw[h];show(if os.length<=sizeLine then some _ else _)=_;rw[if_pos hl];unfold Wj;rw[if_pos ha]
def ub(ha:a as=some (.ow oa,as1))(hb:b as1=some (.ow ob,as2))(hg:g oa.toD ob.toD=some (.fl zs)):f2 a b g as=some (.ow<|.nd .ls<|zs.map<|MN<|oa.str&&ob.str,as2):=by
 unfold f2;rw[ha];show((b as1).bind _)=_;rw[hb];show((g oa.toD ob.toD).bind _)=_;rw[hg];show(if _=true then _ else _:Option RV).bind _=_;rw[if_pos<|by unfold meet;simp];rfl
def zE(ha:WD a as true x)(hb:WD b as true y)(hg:g x y=some (.im z)):WD (f2 a b g) as true z:=by
 have:=Js ha hb hg;rw[show(yr z||(true&&true))=true by simp]at this;exact this
theorem X6:∀zs:List D,zs.map (MN true)=zs.map (O.lf true)
 | []=>rfl
 |z::r=>by
  show MN true z::r.map _=_;rw[X6 r];unfold MN;rw[zyD];rfl
def IS(ha:a as=some (.ow oa,as1))(hb:b as1=some (.ow ob,as2))(hg:g oa.toD ob.toD=some (.fl zs))(h1:oa.str=true)(h2:ob.str=true):f2 a b g as=some (.ow<|.nd .ls<|zs.map<|O.lf true,as2):=by
 have:=ub ha hb hg;rw[h1,h2,show(true&&true)=true from rfl,X6]at this;exact this
def yG{fr}{o}{os}{as1 as2}(ha:a as=some (.ow o,as1))(hr:fr as1=some (os,as2)):dC a fr as=some (o::os,as2):=by
 unfold dC;rw[ha];show((fr as1).bind _)=_;rw[hr];rfl
def add_lists(h:xs.length+ys.length<=sizeLine):Vc .Add (.lst xs) (.lst ys)=some (.fl<|xs++ys):=if_pos h
def QP(lo)(n:Nat):xk lo (n+1)=(true,.int lo)::xk (lo+1) n:=by
 unfold xk;rw[List.range_succ_eq_map,zyS,zyB]
 congr 1
 . simp
 . apply List.map_congr_left;intro i _;show(true,D.int _)=_
   congr 2
   omega
def NC(ha:WA fr as rs)(hg:g (rs.map (·.2))=some (.im x))(e:rs.all (·.1)=true):WD (fP fr g) as true x:=by
 have:=Fo ha hg;rw[e,zyD]at this;exact this
def Ql(ha:WD a as s y)(ht:CL ty y=true)(hr:WA fr as rs)(hg:g y (rs.map (·.2))=some (.im x))(e:yr x=true):WD (wV ty a fr g) as true x:=by
 unfold WD wV;unfold WD at ha;unfold WA at hr;rw[ha];show(if CL ty y=true then _ else _:Option _)=_;rw[if_pos ht,hr];simp only[zyL,Xi];show((g y _).bind _)=_;rw[hg];show(if _=true then _ else _:Option RV).bind _=_;rw[if_pos<|by rw[e];rfl];show some (RV.ow<|.lf _ x,as)=_;rw[e];rfl
def Oh{fl fh}{lo hi}{g}(ha:WD a as s y)(hl:fl as=some (lo,as))(hh:fh as=some (hi,as))(hg:g y lo hi=some (.im x)):WD (ZW a fl fh g) as (yr x||s) x:=by
 unfold WD ZW;unfold WD at ha;rw[ha];show((fl as).bind _)=_;rw[hl];show((fh as).bind _)=_;rw[hh];show((g y lo hi).bind _)=_;rw[hg];show(if _=true then _ else _:Option RV).bind _=_;rw[if_pos<|by simp];rfl
def Yd{fi}{cap}{g}{tt}{fe}{xs}{os}(h1:fi as=some (xs,as))(hl:xs.length<=sizeLine)(h2:xv g tt fe (vB cap as) xs=some os):zr fi cap g tt fe as=some (.ow<|.nd .ls os,as):=by
 unfold zr;rw[h1];show(if xs.length<=sizeLine then _ else _)=_;rw[if_pos hl];show _=_;rw[h2];rfl
end
def wX(h:Nat.ble n 1000=true):n<=sizeLine:=Nat.le_of_lt<|xZ<|Nat.le_of_ble_eq_true h
def zo(h:Nat.ble (a+1) b=true):a<b:=Nat.le_of_ble_eq_true h
def zP(h0 : -(10 ^ 200)<i)(h1:i<10 ^ 200):i.natAbs<big:=by
 have:10 ^ 200<big:=by unfold big;decide +kernel
 have e:((10 ^ 200:Nat):Int)=(10:Int) ^ 200:=by norm_cast
 have:i.natAbs<((10 ^ 200:Nat):Int):=by rw[e];omega
 omega
def Jc{ns:List Int}{k:Int}(h0:0<=k)(h1:k<ns.length):∃x,zk (.lst<|ns.map D.int) (.int k)=some (.im<|.int x):=by
 have hk:k.toNat<ns.length:=by omega
 refine⟨ns[k.toNat], ?_⟩;have h:=v8 (xs:=ns.map D.int) (by rw[zzI,zzE hk];rfl);rw[show(k.toNat:Int)=k by omega]at h;show SU _=_;rw[h];rfl
section
variable{X:Cx}{kd:KD}{K:zzA}{mg:Str->Option Value}
def qY(K:zzA)(g:Fn):Sp:=λvs H Q E=>∀kd:KD,ui K kd g vs H Q E
end
def wa(fa fb fc:EF)(g g':D->D->Option R0):EF:=λas=>(fa as).bind λp=>(fb p.2).bind λq=>(p.1.frz.view q.2).bind λx=>(q.1.frz.view q.2).bind λy=>(g x.1 y.1).bind λr=>match r with
 | .im (.bl true)=>(fc q.2).bind λt=>(q.1.frz.view t.2).bind λy'=>(t.1.frz.view t.2).bind λz=>(g' y'.1 z.1).bind λr'=>(wrap (meet y'.2 z.2) r').bind λo=>some (o,t.2)
 | .im (.bl false)=>some (.ow<|.lf true<|.bl false,q.2)
 |_=>none
section
variable{X:Cx}{kd:KD}{a b c:Expr}{fa fb fc:EF}{pos:Pos}
def Mg(ho:ID X kd (compareOp op) g)(ho':ID X kd (compareOp op') g')(ha:AE X kd a fa)(hb:AE X kd b fb)(hc:AE X kd c fc)(hm:lastMarks [op,op'] [b,c]=false):
 AE X kd (.Compare a [op,op'] [b,c] pos) (wa fa fb fc g g'):=by with_unfolding_all exact(yH (OM ho ho' ha hb hc hm) λσ H Q h=>by
 obtain⟨F,B,ad,as,r,as',R,e,q⟩:=h;obtain⟨⟨p,as1⟩,h1,e⟩:=bS_<|e;obtain⟨⟨z,as2⟩,h2,e⟩:=bS_ e;obtain⟨⟨x,lx⟩,h3,e⟩:=bS_ e;obtain⟨⟨y,ly⟩,h4,e⟩:=bS_ e;obtain⟨r0,h5,e⟩:=bS_ e;refine x_ R h1 λv ad1 H1 R1 rv1 g1=>x_ R1 h2 λu ad2 H2 R2 rv2 g2=>⟨_,x,y,r0,R2.tr<|meet lx ly,(xh.vw R2 (rv1.grow g2) h3).less Vd.meet1,(xh.vw R2 rv2 h4).less Vd.meet2,h5, ?_⟩
 match r0,e with
 | .im (.bl true),e=>
  obtain⟨⟨t,as3⟩,h6,e⟩:=bS_<|e;obtain⟨⟨y',ly'⟩,h7,e⟩:=bS_ e;obtain⟨⟨z',lz'⟩,h8,e⟩:=bS_ e;obtain⟨r1,h9,e⟩:=bS_ e;obtain⟨o,h10,e⟩:=bS_ e;cases e;intro w H3 kp rp;cases rp;obtain⟨R3,g3⟩:=R2.more kp;refine⟨true,rfl, ?_⟩;rw[if_pos rfl];refine x_ R3 h6 λw' ad4 H4 R4 rv4 g4=>⟨_,y',z',r1,R4.tr<|meet ly' lz',(xh.vw R4 ((rv2.grow g3).grow g4) h7).less Vd.meet1,(xh.vw R4 rv4 h8).less Vd.meet2,h9, ?_⟩;exact wJ R4 h10 λw T' H' R' rv' g'=>q w T' ad4 H' R' rv'<|(((g1.trans g2).trans g3).trans g4).trans g'
 | .im (.bl false),e=>
  cases e;intro w H3 kp rp;cases rp;obtain⟨R3,g3⟩:=R2.more kp;refine⟨false,rfl, ?_⟩;rw[if_neg zyW];exact q _ [] ad2 H3 R3 (.lf<|.bl _)<|(g1.trans g2).trans g3)
end
def Yg:List D->Option (List Bool)
 | []=>some []
 | .bl b::r=>(Yg r).bind λs=>some (b::s)
 |_::_=>none
def Nj:List D->Option R0
 | [.lst ds]=>(Yg ds).bind λbs=>some (.im<|.bl<|bs.all id)
 |_=>none
theorem Mo{K}{kd}{O}{H}:∀{vs:List V}{us:List Value}{ds:List D}{bs:List Bool},RpL K kd O H vs ds->ya vs us->Yg ds=some bs->LSm.BoolsAre us bs
 |_,_,_,_,.nil,.nil,e=>by cases e;exact .nil
 |_,_,_,_,.cons (d:=d) a r,.cons b t,e=>by
  cases d with
  |bl c=>
   obtain⟨s,h1,h2⟩:=bS_<|e;cases h2;cases a;cases b;exact .cons _ (Mo r t h1)
  |_=>cases e
section
variable{X:Cx}{kd:KD}
def BR{h h':Heap}{ob}(hk:∀b x,b ∉ [h.objs.size]->(h.push ob).get? b=some x->h'.get? b=some x)(b)(x)(e:h.get? b=some x):h'.get? b=some x:=by
 refine hk b x (λm=>?_)<|zxI _ e;have:=zxJ e;rw[zzR.mp m]at this;exact absurd this<|Nat.lt_irrefl _
def Sj(hc:X.calm=true):Y8 X kd (.builtin "all") Nj:=by
 intro pins s σ H xs us Q I r h;obtain⟨O,ds,z,ht,vl,he,q⟩:=h;unfold Nj at he
 split at he
 . obtain⟨bs,h1,he⟩:=bS_ he;cases he;obtain⟨x,rfl,vx⟩:=RD vl;cases vx with
   |lst hr rl=>
    rename_i l vs;obtain⟨u,rfl,ru⟩:=vals1 r;cases ru;obtain⟨its,rv,p,_⟩:=I.list hr.sq;have hb:=Mo rl rv h1;have hl:=p.isList;have hlt:l<s.heap.objs.size:=by obtain⟨_,e,_⟩:=hl;exact zxJ e
    refine call_all_walk<|wpAny_pyIter_list hl ?_;refine⟨s.heap.objs.size,[s.heap.objs.size,l],[s.heap.objs.size],its.toArray.size,_,_,(λi=>(bs[i]?).getD true),rfl,Walks.list (A:=X.A.in1) (I.ok.hd hc) _ l (zzQ hlt) its.toArray,⟨⟨_,zxK _ rfl,rfl,rfl⟩,hl.push _⟩, ?_, ?_⟩
    . intro i v s' Q' E' hP hQ;obtain⟨b,e,rfl⟩:=hb.get i v (by simpa using hP);simp only[e,Option.getD_some]at hQ;exact wpAny_truthy_bool hQ
    . intro h' tk hk;have e:((List.range its.toArray.size).all λi=>(bs[i]?).getD true)=bs.all id:=by
       rw[zzH,hb.length];exact LSm.range_all bs
      rw[e];exact⟨.bl<|bs.all id,H,I.kept<|BR hk,rfl,ym q<|.bl _⟩
 . cases he
end
def qO:O->Option (Bool×D)
 | .lf s d=>some (s,d)
 |_=>none
def Hg(h:qO o=some p):o = .lf p.1 p.2:=by
 cases o with
 |lf s d=>cases h;rfl
 |nd k os=>cases h
def OQ(i j:Nat)(fd:DF):SF:=λas=>(fd as).bind λp=>(Iw p.1).bind λo=>(qO o.1).bind λa=>(qO o.2).bind λb=>if i<p.2.length/\j<p.2.length then some (.nx<|(p.2.set i<|some<|.lf a.1 a.2).set j<|some<|.lf b.1 b.2)else none
section
variable{X:Cx}{kd:KD}{a b:Expr}{fd:DF}{pos:Pos}
def DN(hc:X.calm=true)(hN:X.N.Nodup)(hi:X.N[i]? = some x)(hj:X.N[j]? = some y)(hij:i≠j)
 (hx:X.env.scope.names.lookup x=some .local) (hy:X.env.scope.names.lookup y=some .local) (ha:AD X kd [a,b] fd)
 (hw:swappedStores [.Tuple [.Name x px,.Name y py] kt pt] (.Tuple [a,b] k2 pt2) X.env=pure (some [x,y]))
 (hs:swapsWithSole [.Tuple [.Name x px,.Name y py] kt pt] (.Tuple [a,b] k2 pt2) pos.line X.env=pure false):
 Ks X kd (.Assign [.Tuple [.Name x px,.Name y py] kt pt] (.Tuple [a,b] k2 pt2) pos) (OQ i j fd):=by with_unfolding_all exact(vM (DM hc hN hi hj hij hx hy ha hw hs) λD σ H h=>by
 obtain⟨F,B,ad,as,o,R,e,q⟩:=h;obtain⟨⟨os,as1⟩,h1,e⟩:=bS_<|e;obtain⟨⟨o1,o2⟩,e1,e⟩:=bS_ e;obtain⟨⟨s1,d1⟩,e2,e⟩:=bS_ e;obtain⟨⟨s2,d2⟩,e3,e⟩:=bS_ e;cases Lc e1;cases Hg e2;cases Hg e3
 . obtain⟨⟨l1,l2⟩,e⟩:=zT e;cases e;refine⟨F,B,ad,as,_,as1,R,h1,λvs T' ad' H' R' rl g=>?_⟩;cases rl with
   |cons ra rb=>
    cases rb with
    |cons rb rn=>
     cases rn;cases ra with
     |lf ra=>
            cases rb with
            |lf rb=>
             refine⟨_,_,rfl, ?_⟩;have R2:=R'.put l1<|.lf ra;have R3:=R2.put (by rw[zzU];exact l2)<|Zj.less xX<|.lf rb;exact q _ _ _ R3<|g.trans<|Grow.less λa z=>xX a<|xX a z)
end
inductive Ents(w:World):List DictEntry->List (Key×V)->Prop
 |nil:Ents w [] []
 |str {x:Str}{t:Tok}{v:V}{u:Value}{r:List DictEntry}{s:List (Key×V)}:RelV v u->Ents w r s->Ents w (⟨PyData.keyHash w.params x,.str x t,u⟩::r) ((.inr x,v)::s)
theorem Ents.keys:∀{es:List DictEntry}{kvs:List (Key×V)},Ents w es kvs->∀e ∈ es,∃k,(xf P w).is k e.key=true/\e.hash=(xf P w).hash k
 |_,_,.nil,_,m=>nomatch m
 |_,_,.str (x:=x) (t:=t) _ r,e,m=>by
  rcases zzC.mp m with rfl|m
  . exact⟨.inr x,XJ P w x t,rfl⟩
  . exact r.keys e m
theorem Ents.pairs:∀{es:List DictEntry}{kvs:List (Key×V)},Ents w es kvs->∃vs,KV kvs vs/\Pairs (xf P w) es vs/\vs.map (·.1)=kvs.map (·.1)
 |_,_,.nil=>⟨[],.nil,.nil,rfl⟩
 |_,_,.str (x:=x) (t:=t) (u:=u) h r=>by
  obtain⟨a,b,c,d⟩:=r.pairs;exact⟨(.inr x,u)::a,.cons ⟨rfl,h⟩ b,.cons (XJ P w x t) rfl c,by rw[zyS,zyS,d]⟩
structure DctAt(w:World)(K:zzA)(a:Addr)(kvs:List (Key×V)):Prop where
 ex:∃es ep,K.lookup a=some {cls:=.type "dict",data:=.dict es ep}/\Ents w es.toList kvs
 nd:(kvs.map (·.1)).Nodup
 le:kvs.length<=sizeLine
 ns:(a==sysModules)=false
def rG(l:List (Addr×List (Key×V)))(c:Str->Addr:=λ_=>0):KD:=⟨λa k=>l.lookup a=some k,c⟩
def lookup_mem{l:List (Addr×List (Key×V))}(h:l.lookup a=some k):(a,k) ∈ l:=by
 induction l with
 |nil=>cases h
 |cons p r b=>
  rw[List.lookup_cons]at h
  by_cases e:a=p.1
  . subst e;rw[beq_self_eq_true]at h;cases h;exact zzF
  . rw[show _=false from beq_eq_false_iff_ne.mpr e]at h;exact zzD _<|b h
def DA{K}(h:∀p ∈ l,DctAt w K p.1 p.2):vk P w K (rG l c):=λX n o r=>by
 subst n;subst o;subst r;refine⟨λa k v b d=>zzZ<|b.symm.trans d,λa k b=>?_,λa k y b f=>?_⟩
 . obtain⟨g,i,e,_⟩:=(h _<|lookup_mem b).ex;exact⟨_,e⟩
 . have q:=h _<|lookup_mem b;obtain⟨g,i,e,j⟩:=q.ex;obtain⟨s,d,t,u⟩:=j.pairs;refine⟨q.le,q.ns,s,d,_,g,i,f _ _ e,⟨rfl,rfl,rfl⟩,rfl,λx m=>j.keys x (by simpa using m),t,by rw[u];exact q.nd⟩
def isStar:Expr->Bool
 | .Starred .. => true
 |_=>false
def Ky(h:isStar a=false):starEach (a::es) env=(false,eval a env)::starEach es env:=by
 cases a<;>first|rfl|cases h
section
variable{as:AS}{f a b c:EF}{s t u:Bool}{x y z:D}{i j k:Int}
def Aj(h:WD f as s x)(ho:EJ x=true:=by rfl):WD (GH f cl) as true (.bl<|GU (J8 x) cl):=by
 unfold WD GH at *;rw[h];show(if EJ x=true then _ else _)=_;rw[if_pos ho];rfl
def RZ(h:WD f as s x)(e:GU (J8 x) cl=q)(ho:EJ x=true:=by rfl):WD (GH f cl) as true (.bl q):=by subst e;exact Aj h ho
def Ku{lo hi}(ha:WD a as true y)(hl:fl as=some (lo,as))(hh:fh as=some (hi,as))(hg:g y lo hi=some (.im x)):WD (ZW a fl fh g) as true x:=by
 have:=Oh ha hl hh hg;rw[zyD]at this;exact this
def Ac(h:WD f as s (.bl q)):WD (IT f) as true (.bl<|!q):=by
 unfold WD IT at *;rw[h];rfl
def OE(h:WT cc as true)(h1:g as=some (.nx as1))(h2:Sr cc g n as1=o):Sr cc g (n+1) as=o:=by
 unfold WT at h;show(cc as).bind _=_;rw[h];show(g as).bind _=_;rw[h1];exact h2
def M3(h:WT cc as false):Sr cc g (n+1) as=some (.nx as):=by
 unfold WT at h;show(cc as).bind _=_;rw[h];rfl
def AC(h:WO fd as [.lf s x,.lf t y])(hi:p<as.length)(hj:q<as.length):OQ p q fd as=some (.nx<|(as.set p<|some<|.lf s x).set q<|some<|.lf t y):=by
 unfold OQ;unfold WO at h;rw[h];show(if _ then _ else _)=_;rw[if_pos ⟨hi,hj⟩]
def GZ(h1:g w as0=some as1)(h2:WT tt as1 false)(h3:xv g tt fe as0 r=o):xv g tt fe as0 (w::r)=o:=by
 unfold WT at h2;show(g w as0).bind _=_;rw[h1];show(tt as1).bind _=_;rw[h2];exact h3
def Sa{os}(h1:g w as0=some as1)(h2:WT tt as1 true)(h3:WD fe as1 true x)(h4:xv g tt fe as0 r=some os):xv g tt fe as0 (w::r)=some (.lf true x::os):=by
 unfold WT at h2;unfold WD at h3;show(g w as0).bind _=_;rw[h1];show(tt as1).bind _=_;rw[h2];show(fe as1).bind _=_;rw[h3];show _=_;rw[h4];rfl
def WE(f:EF)(as:AS)(x:D):Prop:=∃o,f as=some (.ow o,as)/\o.str=true/\o.toD=x
def RE(r:Option O)(x:D):Prop:=∃o,r=some o/\o.str=true/\o.toD=x
def WD.e(h:WD f as true x):WE f as x:=⟨_,h,rfl,rfl⟩
def xi{os}(h:WO fr as os)(hl:os.length<=sizeLine)(hs:O.strs os=true)(e:D.lst (O.toDs os)=x):WE (yA fr) as x:=⟨_,xS h hl,hs,e⟩
def Zq(h:WE a as x)(hr:WA fr as rs):WA (aC a fr) as ((true,x)::rs):=by
 obtain⟨o,b,c,rfl⟩:=h;have:=Oi b hr;rw[c]at this;exact this
def xm(ha:WE a as x)(hg:RE (g [(true,x)]) z):WE (zx (aC a aN) g) as z:=by
 obtain⟨o,b,c,d⟩:=hg;exact⟨o,Z9 (Zq ha zq) (by show g [(yr x||true,x)]=_;rw[zyD];exact b),c,d⟩
def wY(ha:WE a as x)(hb:WE b as y)(hg:RE (g [(true,x),(true,y)]) z):WE (zx (aC a<|aC b aN) g) as z:=by
 obtain⟨o,c,d,e⟩:=hg;exact⟨o,Z9 (Zq ha<|Zq hb zq) (by show g [(yr x||true,x),(yr y||true,y)]=_;rw[zyD,zyD];exact c),d,e⟩
def vI(ha:WE a as x)(hb:WE b as y)(hc:WE c as w)(hg:RE (g [(true,x),(true,y),(true,w)]) z):WE (zx (aC a<|aC b<|aC c aN) g) as z:=by
 obtain⟨o,d,e,f⟩:=hg;exact⟨o,Z9 (Zq ha<|Zq hb<|Zq hc zq) (by show g [(yr x||true,x),(yr y||true,y),(yr w||true,w)]=_;rw[zyD,zyD,zyD];exact d),e,f⟩
def Sf(ha:WE a as x)(hb:WE b as y)(hg:g x y=some (.im z)):WD (f2 a b g) as true z:=by
 obtain⟨o,c,d,rfl⟩:=ha;obtain⟨p,e,f,rfl⟩:=hb;have:=uN c e hg;rw[d,f,Bool.and_true,zyD]at this;exact this
def oH(ha:WE a as x)(hb:WE b as y)(hg:g x y=some (.fl zs)):f2 a b g as=some (.ow<|.nd .ls<|zs.map<|O.lf true,as):=by
 obtain⟨o,c,d,rfl⟩:=ha;obtain⟨p,e,f,rfl⟩:=hb;exact IS c e hg d f
theorem Kp:∀zs:List D,O.strs (zs.map<|O.lf true)=true
 | []=>rfl
 |_::r=>Kp r
theorem G_:∀zs:List D,O.toDs (zs.map<|O.lf true)=zs
 | []=>rfl
 |z::r=>congrArg (z :: ·)<|G_ r
def OG(ha:WE a as x)(hb:WE b as y)(hg:g x y=some (.fl zs)):WE (f2 a b g) as (.lst zs):=⟨_,oH ha hb hg,Kp zs,congrArg D.lst<|G_ zs⟩
def yQ(h:WE f as x)(hi:p<as.length):zz true p f as=some (.nx<|as.set p<|some<|.lf true x):=by
 obtain⟨o,a,b,rfl⟩:=h;have:=CD a hi;rw[show o.frz = .lf true o.toD by unfold O.frz;rw[b]]at this;exact this
def Xh(ha:WE a as x)(hb:WE b as y)(h:wN 60 x y=some q):WD (f2 a b<|zt .Eq) as true (.bl q):=Sf ha hb (by show(wN 60 x y).bind _=_;rw[h];rfl)
def LU(ha:WE a as x)(hb:WE b as y)(h:wN 60 x y=some q):WD (f2 a b<|zt .NotEq) as true (.bl<|!q):=Sf ha hb (by show(wN 60 x y).bind _=_;rw[h];rfl)
def ZU(ha:WE a as x)(hg:g [x]=some (.im z)):WD (fP (aC a aN) g) as true z:=NC (Zq ha zq) hg rfl
def Zp{os}(ha:a as=some (.ow o,as))(hr:WO fr as os):WO (dC a fr) as (o::os):=yG ha hr
def El{os}(h:WO fr as os)(hl:os.length<=sizeLine):yh fr as=some (.ow<|Wj os,as):=by
 unfold yh;unfold WO at h;rw[h];show(if os.length<=sizeLine then some _ else _)=_;rw[if_pos hl]
def Yx{lo hi}(ha:WE a as y)(hl:fl as=some (lo,as))(hh:fh as=some (hi,as))(hg:g y lo hi=some (.fl zs)):WE (ZW a fl fh g) as (.lst zs):=by
 obtain⟨o,b,c,rfl⟩:=ha;refine⟨.nd .ls _, ?_,Kp zs,congrArg D.lst<|G_ zs⟩;unfold ZW;rw[b];show((fl as).bind _)=_;rw[hl];show((fh as).bind _)=_;rw[hh];show((g o.toD lo hi).bind _)=_;rw[hg];show(if _=true then some (RV.ow<|.nd .ls<|zs.map<|MN<|(some o.str).getD false)else none:Option RV).bind _=_;rw[if_pos (by simp),c];show some (RV.ow<|.nd .ls<|zs.map<|MN true,as)=_;rw[X6]
def OS:Qa (.lst<|xs++ys) (some (xs.length:Int)) none=some (.fl ys):=by
 show some _=_
 congr 2
 unfold cutD;rw[HT.RL,HT.Ny,zzJ,Nat.min_eq_left (by omega),List.drop_left,List.take_of_length_le<|by omega]
theorem Py:∀ds:List D,kids true ds=ds.map λd=>(true,d)
 | []=>rfl
 |d::r=>by show(yr d||true,d)::kids true r=_;rw[Py r,zyD];rfl
def Pq(h:WE f as (.lst ds)):yu f as=some (ds.map λd=>(true,d),as):=by
 obtain⟨o,a,b,c⟩:=h;unfold yu;rw[a];show(Mr _).bind _=_;rw[b,c];show some _=_;rw[Py]
def OI(h:WD f as true (.lst ds)):Wa f as=some (ds.map λd=>(true,d),as):=by
 unfold Wa;unfold WD at h;rw[h];show some (kids true ds,as)=_;rw[Py]
end
def Pr:List D->Option (List Str)
 | []=>some []
 | .str x::r=>(Pr r).bind λs=>some (x::s)
 |_::_=>none
def Ij{K O}(h:RpL K kd O H vs ds)(hv:ya vs us)(e:Pr ds=some ns):StrsAre us ns:=
 RpL.ind (P:=λvs ds=>∀us ns,ya vs us->Pr ds=some ns->StrsAre us ns) (λus ns hv e=>by cases e;cases hv;exact .nil) (λ{v d vs ds} a _ ih us ns hv e=>by
  cases hv with
  |cons b t=>
   cases a with
   |str x=>
    obtain⟨ys,h1,h2⟩:=bS_<|e;cases h2;obtain⟨tk,rfl⟩:=b;exact .cons _ _ (ih _ _ t h1)
   |_=>cases e) h us ns hv e
def Fb:D->List D->Option R0
 | .str sep,[.lst ds]=>(Pr ds).bind λys=>if(ys.map (·.length)).sum+ys.length*sep.length<=16777216 then some (.im<|.str<|Txt.join sep ys)else none
 |_,_=>none
section
variable{X:Cx}{kd:KD}
def Cq:rQ X kd "str.join" Fb:=by
 intro b s σ H x B v C Q I c r h;obtain⟨O,d,D,E,F,e,f,a,q⟩:=h;unfold Fb at a
 split at a
 . rename_i g G;obtain⟨J,i,a⟩:=bS_ a;obtain⟨j,a⟩:=zT a;cases a;cases e;obtain⟨t,rfl⟩:=c;obtain⟨y,rfl,l⟩:=RD f;cases l with
   |lst m n=>
    obtain⟨u,rfl,o⟩:=vals1 r;cases o;obtain⟨p,w,z,_⟩:=I.list m.sq;exact join_list z.isList (Ij n (by simpa using w) i) j λA k=>⟨.str _,H,I.tok _,⟨A,rfl⟩,ym q<|.str _⟩
 . cases a
def qf:D->Option R0
 | .str x=>if x.length<=640 then(PySem.intText? x).bind λn=>some (.im<|.int n)else none
 |d=>qo d
def V0:List D->Option R0:=Dj qf
def ER:Y8 X kd (.type "int") V0:=by
 intro c s σ H m e Q I r h;obtain⟨O,o,z,p,f,a,q⟩:=h;obtain⟨x,d,rfl,g,a⟩:=Q2 f a;cases g with
 |str y=>
  obtain⟨j,a⟩:=ite_some' a;obtain⟨n,k,a⟩:=bS_ a;cases a;obtain⟨u,rfl,l⟩:=vals1 r;obtain⟨t,rfl⟩:=l;exact PySem.W.KIN.call_text k j ⟨.int _,H,I.tok _,⟨_,rfl⟩,ym q<|.int _⟩
 |int i=>cases a;exact GR c s σ H _ e Q I r (.inl ⟨_,rfl,ym q<|.int _⟩)
 |bl b=>cases a;exact GR c s σ H _ e Q I r (.inr ⟨_,rfl,ym q<|.int _⟩)
 |_=>cases a
end
section
variable{X:Cx}{pins:List (Addr×Obj)}{σ:List (Option V)}{H:Hp}{s:Shared}{h':Heap}
def YK{t':Nat}{ch:List Addr}{T}{o}(I:Inv X pins σ H s)(hf:∀b ∈ ch,Rh X pins H b)(k:∀b u,b ∉ ch->s.heap.get? b=some u->h'.get? b=some u)(hp:s.heap.objs.size<=T)
 (new:xW X.prog X.w (upd H T o) h' T o):Inv X pins σ (upd H T o) {s with heap:=h',toks:=t'}:=by
 have hn:=I.hok.fresh hp;have nT:∀b u,s.heap.get? b=some u->b≠T:=λb u e z=>absurd (zzK (zxJ e)<|by rw[z];exact hp)<|Nat.lt_irrefl _;have nc:∀b u,H b=some u->b ∉ ch:=λb u e z=>by have:=(hf b z).1;rw[e]at this;cases this
 refine I.step (g':=s.gens) (d':=s.drawn) (λb hb=>?_) (λb o _ _ hc e _=>k b o hc e) (λb o _ _ hc e _=>⟨o.slots,k b o hc e⟩) (λb o _ e n=>by rw[zX<|nT b o e];exact n)
  (λb o hc e=>⟨o,k b o hc e⟩) (λb xs e=>by rw[zX<|yC e hn];exact e) (λb o u e=>by rw[zX<|yC e hn];exact e) (λb ps e=>⟨#[],by rw[zX<|yC e hn,e];simp⟩) (λm hm=>?_) (λb u e=>?_) I.bare
 . obtain⟨f0,f1,f2,f3,f4,f5⟩:=hf b hb;exact⟨f3,f1,f4,f5⟩
 . obtain⟨o,es,ep,ho,r⟩:=hm;exact⟨o,es,ep,k _ o (λz=>(hf _ z).2.1 rfl) ho,r⟩
 . by_cases hb:b=T
   . subst hb;rw[yy]at e;cases e;exact new
   . rw[zX hb]at e;refine(I.hok b u e).stay (λc v hc q=>k c v ?_ q) (λc q=>by rw[zX<|yC q hn];exact q) λc xs q=>by rw[zX<|yC q hn];exact q
     rcases hc with z|z
     . rw[z];exact nc b u e
     . exact nc c _ z
end
def ql(K:zzA)(a:Addr):It:=
 ⟨λi H=>∃xs x,YM K H a xs/\xs[i]? = some x,λi H v H'=>∃T x,H T=none/\v = .ref T/\H'=upd H T (.tup [.int i,x])/\∀xs,YM K H a xs->xs[i]? = some x,λi H=>∃xs,YM K H a xs/\xs.length<=i⟩
def Sb{P}{w}{K}{elts}{k:Nat}{pos}(a e it)(hei:e≠it):Turn P w K (.Tuple elts k pos) (ql K a) [e,it] e (λi h=>(∃old,IsEnum h e it i old)/\h.IsListIter it a i)where
 mem:=by simp
 obj:=λi h st b hb=>by
  obtain⟨⟨old,he⟩,⟨o,e1,c,d⟩⟩:=st
  rcases zzC.mp hb with rfl|hb
  . exact⟨_,he,λv z=>by cases z⟩
  . rw[zzR.mp hb];exact⟨o,e1,λv z=>by rw[d]at z;cases z⟩
 keep:=λi h h' st kk=>⟨st.1.imp λold he=>kk e (by simp) _ he,st.2.at λo q=>kk it (by simp) o q⟩
 item:=by
  intro X hP hw hK hc i pins s σ H E I hf st hg;subst hP hw hK;obtain⟨xs,x,hq,hx⟩:=hg;obtain⟨its,rv,p,hz⟩:=I.list hq;obtain⟨u,hu,ru⟩:=rv.get hx;have hil:i<its.toArray.size:=by have:=(zzG.mp hu).1;simpa using this
  obtain⟨ol,hol,hcl,_⟩:=p.isList;have hae:a≠e:=λz=>by
   obtain⟨⟨old,he⟩,_⟩:=st;rw[z]at hol;rw[show s.heap.get? e=_ from he]at hol;cases hol;injection hcl with q;exact absurd q (by decide)
  have hai:a≠it:=λz=>by
   obtain⟨_,⟨o,e1,c,d⟩⟩:=st;rw[z,e1]at hol;cases hol;rw[c]at hcl;injection hcl with q;exact absurd q (by decide)
  have W:=WalksT.enumerate (prog:=X.prog) (w:=X.w) (I.ok.hd hc) e it a hei hae hai its.toArray;refine W.item i s _ _ hil ⟨st.1,st.2,p.isList⟩ λT vals h1 tk hP hT hTup hMid kk=>?_;obtain⟨t,v,hv,rfl⟩:=hP;have:v=u:=by rw[show its.toArray[i]? = its[i]? by simp,hu]at hv;cases hv;rfl
  subst this;refine⟨_,rfl,W.go elts k pos i T {s with heap:=h1,toks:=tk} _ _ hMid λh2 hSt kk2=>?_⟩;have hn:=I.hok.fresh hT;have hTw:=W.apart i T h1 hMid;have k2:=λb o hb q=>kk2 b o hb<|kk b o hb q;have hT2:IsTup h2 T #[.int i t,v]:=by
   obtain⟨o,q1,q2⟩:=hTup;exact⟨o,kk2 T o hTw q1,q2⟩
  refine⟨.ref T,upd H T<|.tup [.int i,x],YK (s:=s) (t':=tk) I hf k2 hT ⟨by show 2<=sizeLine;decide,[.int i t,v],.cons ⟨t,rfl⟩<|.cons ru .nil,hT2⟩,rfl,⟨T,x,hn,rfl,rfl,λys hy=>by rw[I.list_inj hy hq];exact hx⟩,⟨hSt.1,hSt.2.1⟩,λb hb=>?_⟩;have hbT:b≠T:=λz=>hTw (by rw[<-z];exact hb);rw[zX hbT];exact(hf b hb).1
 done:=by
  intro X hP hw hK hc i pins s σ H E I hf st hg;subst hP hw hK;obtain⟨xs,hq,hx⟩:=hg;obtain⟨its,rv,p,hz⟩:=I.list hq;have hl:=rv.length;obtain⟨⟨old,he⟩,hit⟩:=st;obtain⟨f0,f1,f2,f3,f4,f5⟩:=hf it (by simp);exact wpAny_pyNext_enum_end (I.ok.hd hc) he hit p.isList (by simp;omega) λh' eb=>⟨rfl,I.turned (t':=s.toks) (λb o hb e=>eb b o hb e) f0 f1 f3 f4 f5⟩
 self:=λ_ _ _ _ _ st h=>by
  obtain⟨⟨old,he⟩,_⟩:=st;exact wpAny_pyIter_enum he h
section
variable{X:Cx}{tg:Expr}
def Dk(K:zzA)(ta:TA):TI:=λσ H R=>ta σ H λvs H1=>∃a,vs=[.ref a]/\(∃xs,YM K H1 a xs)/\R (ql K a) H1
def Iy{l}{ta}{p pos pos'}{elts}{k:Nat}(hg:Gl X "enumerate")(hm:X.mg "enumerate"=none)(ha:PA X [l] ta)(hs:starEach [l] X.env=[(false,eval l X.env)]):
 PI X (.Tuple elts k pos') (.Call (.Name "enumerate" p) [l] [] pos) (Dk X.K ta):=by
 intro pins s σ H R I h;refine Call_<|Ze I hg hm boot_enumerate<|PyProof.Rows.callWith_type1 (thn (ha pos pins s σ H _ I h) λus s1 ⟨vs,H1,I1,r1,q1⟩=>?_) hs rfl;obtain⟨a,rfl,⟨xs,hq⟩,q⟩:=q1;cases r1 with
 |cons r rr=>
  cases rr;cases r;obtain⟨its,rv,pl,hz⟩:=I1.list hq;refine call_enumerate_list pl.isList λh' he hit hsz hk=>?_;refine wpAny_pyIter_enum he ⟨s1.heap.objs.size+1,[s1.heap.objs.size+1,s1.heap.objs.size],_,_,H1,rfl,I1.kept (t':=s1.toks) hk,Sb a _ _<|Nat.succ_ne_self _,⟨⟨_,he⟩,hit⟩,λb hb=>?_,q⟩;have hb':s1.heap.objs.size<=b:=by
   rcases zzC.mp hb with rfl|hb
   . exact zyX _
   . rw[zzR.mp hb];exact zzN _
  exact I1.fpOk hb'<|I1.hok.fresh hb'
end
section
variable{X:Cx}{kd:KD}{tg e:Expr}{fa:EF}
def Y7(st:Bool):Nat->List D->List ZV
 |_,[]=>[]
 |i,d::r=>(st,.tup [.int i,d])::Y7 st (i+1) r
theorem GW(st):∀(i:Nat) (ds:List D),(Y7 st i ds).length=ds.length
 |_,[]=>rfl
 |i,_::r=>congrArg (· + 1)<|GW st (i+1) r
theorem G5{st}:∀{j:Nat}{ds:List D}{i:Nat}{y:ZV},(Y7 st j ds)[i]? = some y->∃d,ds[i]? = some d/\y=(st,.tup [.int ((j+i:Nat):Int),d])
 |_,[],_,_,h=>by simp[Y7]at h
 |j,d::r,0,y,h=>by
  simp only[Y7,List.getElem?_cons_zero]at h;cases h;exact⟨d,rfl,rfl⟩
 |j,d::r,i+1,y,h=>by
  simp only[Y7,List.getElem?_cons_succ]at h;obtain⟨d',h1,h2⟩:=G5 h;exact⟨d',by simpa using h1,by rw[h2,show j+1+i=j+(i+1) by omega]⟩
def M9(f:EF):IF:=λas=>(f as).bind λp=>(Q7 p.2 p.1).bind λq=>match q.1 with
 |(st,.lst ds)=>some (Y7 st 0 ds,q.2)
 |_=>none
end
def SR(sep)(ys):Txt.join sep ys=Str.join sep ys:=StrLaws.glued_eq_join sep ys
section
variable{as:AS}{f a b:EF}{s t:Bool}{x y z:D}
def SY:Qa (.lst<|xs++ys) none (some (xs.length:Int))=some (.fl xs):=by
 show some _=_
 congr 2
 unfold cutD;rw[HT.RL,HT.Ny,zzJ,Nat.min_eq_left (by omega),List.drop_zero,Nat.sub_zero,List.take_left]
end
def qX(K:zzA)(a b:Addr):It:=
 ⟨λi H=>∃xs ys x y,YM K H a xs/\YM K H b ys/\xs[i]? = some x/\ys[i]? = some y,
  λi H v H'=>∃T x y,H T=none/\v = .ref T/\H'=upd H T (.tup [x,y])/\(∀xs,YM K H a xs->xs[i]? = some x)/\∀ys,YM K H b ys->ys[i]? = some y,
  λi H=>∃xs ys,YM K H a xs/\YM K H b ys/\(xs.length<=i\/ys.length<=i)⟩
def P8{X}{pins}{σ}{H}{s}{h'}{t':Nat}{ch:List Addr}(I:Inv X pins σ H s)(hf:∀b ∈ ch,Rh X pins H b)(k:∀b u,b ∉ ch->s.heap.get? b=some u->h'.get? b=some u):Inv X pins σ H {s with heap:=h',toks:=t'}:=by
 have nc:∀b u,H b=some u->b ∉ ch:=λb u e z=>by have:=(hf b z).1;rw[e]at this;cases this
 refine I.step (g':=s.gens) (d':=s.drawn) (λb hb=>?_) (λb o _ _ hc e _=>k b o hc e) (λb o _ _ hc e _=>⟨o.slots,k b o hc e⟩) (λb o _ e n=>n)
  (λb o hc e=>⟨o,k b o hc e⟩) (λb xs e=>e) (λb o u e=>e) (λb ps e=>⟨#[],by rw[e];simp⟩) (λm hm=>?_) (λb u e=>?_) I.bare
 . obtain⟨f0,f1,f2,f3,f4,f5⟩:=hf b hb;exact⟨f3,f1,f4,f5⟩
 . obtain⟨o,es,ep,ho,r⟩:=hm;exact⟨o,es,ep,k _ o (λz=>(hf _ z).2.1 rfl) ho,r⟩
 . refine(I.hok b u e).stay (λc v hc q=>k c v ?_ q) (λc q=>q) λc xs q=>q
   rcases hc with z|z
   . rw[z];exact nc b u e
   . exact nc c _ z
def Hs{P}{w}{K}{elts}{k:Nat}{pos}(a b z TI TO i1 i2:Addr)(D:ZipApart z TI TO i1 i2 a b):Turn P w K (.Tuple elts k pos) (qX K a b) [z,TI,TO,i1,i2] z
 (λi h=>IsZip h z TI TO .none/\IsPair h TI (.ref i1) (.ref i2)/\(∃p q,IsPair h TO p q)/\h.IsListIter i1 a i/\h.IsListIter i2 b i)where
 mem:=by simp
 obj:=λi h st c hc=>by
  obtain⟨hz,hTI,⟨p,q,hTO⟩,⟨o1,e1,c1,d1⟩,⟨o2,e2,c2,d2⟩⟩:=st;simp only[zzC,zxC,or_false]at hc
  rcases hc with rfl|rfl|rfl|rfl|rfl
  . exact⟨_,hz,λv z=>by cases z⟩
  . exact⟨_,hTI,λv z=>by cases z⟩
  . exact⟨_,hTO,λv z=>by cases z⟩
  . exact⟨o1,e1,λv z=>by rw[d1]at z;cases z⟩
  . exact⟨o2,e2,λv z=>by rw[d2]at z;cases z⟩
 keep:=λi h h' st kk=>by
  obtain⟨hz,hTI,⟨p,q,hTO⟩,h1,h2⟩:=st;exact⟨kk z (by simp) _ hz,kk TI (by simp) _ hTI,⟨p,q,kk TO (by simp) _ hTO⟩,h1.at λo e=>kk i1 (by simp) o e,h2.at λo e=>kk i2 (by simp) o e⟩
 item:=by
  intro X hP hw hK hc i pins s σ H E I hf st hg;subst hP hw hK;obtain⟨xs,ys,x,y,hq,hr,hx,hy⟩:=hg;obtain⟨its,rv,p,hz⟩:=I.list hq;obtain⟨jts,rw',p',hz'⟩:=I.list hr;obtain⟨u,hu,ru⟩:=rv.get hx;obtain⟨u',hu',ru'⟩:=rw'.get hy;have W:=WalksT.zip2 (prog:=X.prog) (w:=X.w) (I.ok.hd hc) z TI TO i1 i2 a b D its.toArray jts.toArray;obtain⟨s1,s2,s3,s4,s5⟩:=st;have hil:i<min its.toArray.size jts.toArray.size:=by
   have:=(zzG.mp hu).1;have:=(zzG.mp hu').1;simp only[zzH];omega
  refine W.item i s _ _ hil ⟨s1,s2,s3,s4,s5,p.isList,p'.isList⟩ λT vals h1 tk hP hT hTup hMid kk=>?_;obtain⟨v,v',hv,hv',rfl⟩:=hP;have e1:v=u:=by rw[show its.toArray[i]? = its[i]? by simp,hu]at hv;cases hv;rfl
  have e2:v'=u':=by rw[show jts.toArray[i]? = jts[i]? by simp,hu']at hv';cases hv';rfl
  subst e1 e2;refine⟨_,rfl,W.go elts k pos i T {s with heap:=h1,toks:=tk} _ _ hMid λh2 hSt kk2=>?_⟩;have hn:=I.hok.fresh hT;have hTw:=W.apart i T h1 hMid;have sub:∀c,c ∉ [z,TI,TO,i1,i2]->c ∉ [z,TO,i1,i2]:=λc hc m=>hc (by simp only[zzC,zxC,or_false]at m ⊢;rcases m with rfl|rfl|rfl|rfl<;>simp);have k2:=λc o hb q=>kk2 c o (sub c hb)<|kk c o (sub c hb) q;have hT2:IsTup h2 T #[v,v']:=by
   obtain⟨o,q1,q2⟩:=hTup;exact⟨o,kk2 T o hTw q1,q2⟩
  obtain⟨t1,t2,t3,t4,t5,_,_⟩:=hSt;refine⟨.ref T,upd H T<|.tup [x,y],YK (s:=s) (t':=tk) I hf k2 hT ⟨by show 2<=sizeLine;decide,[v,v'],.cons ru<|.cons ru' .nil,hT2⟩,rfl,⟨T,x,y,hn,rfl,rfl,λq hq'=>by rw[I.list_inj hq' hq];exact hx,λq hq'=>by rw[I.list_inj hq' hr];exact hy⟩,⟨t1,t2,t3,t4,t5⟩,λc hc=>?_⟩;have hcT:c≠T:=λe=>by
   have:c<s.heap.objs.size:=by
    have hob:∀d ∈ [z,TI,TO,i1,i2],∃o,s.heap.get? d=some o:=λd hd=>by
     obtain⟨pp,qq,hTO⟩:=s3;obtain⟨o1,e1,_⟩:=s4;obtain⟨o2,e2,_⟩:=s5;simp only[zzC,zxC,or_false]at hd
     rcases hd with rfl|rfl|rfl|rfl|rfl
     . exact⟨_,s1⟩
     . exact⟨_,s2⟩
     . exact⟨_,hTO⟩
     . exact⟨_,e1⟩
     . exact⟨_,e2⟩
    obtain⟨o,ho⟩:=hob c hc;exact zxJ ho
   rw[e]at this;exact absurd (zzK this hT)<|Nat.lt_irrefl _
  rw[zX hcT];exact(hf c hc).1
 done:=by
  intro X hP hw hK hc i pins s σ H E I hf st hg;subst hP hw hK;obtain⟨xs,ys,hq,hr,hx⟩:=hg;obtain⟨its,rv,p,hz⟩:=I.list hq;obtain⟨jts,rw',p',hz'⟩:=I.list hr;have hl:=rv.length;have hl':=rw'.length;obtain⟨s1,s2,⟨pp,qq,s3⟩,s4,s5⟩:=st;refine wpAny_pyNext_zip_end (I.ok.hd hc) D s1 s2 s3 s4 s5 p.isList p'.isList (hx.imp (λh=>by simp;omega) λh=>by simp;omega) λh' eb=>⟨rfl,P8 (t':=s.toks) I hf λc o hc q=>eb c o ?_ ?_ ?_ ?_ q⟩<;>(intro e;exact hc<|by simp[e])
 self:=λ_ _ _ _ _ st h=>wpAny_pyIter_zip st.1 h
section
variable{X:Cx}{tg:Expr}
def tH(K:zzA)(ta:TA):TI:=λσ H R=>ta σ H λvs H1=>∃a b,vs=[.ref a,.ref b]/\(∃xs,YM K H1 a xs)/\(∃ys,YM K H1 b ys)/\R (qX K a b) H1
def Kv(I l1 l2:Nat)(h1:l1<I)(h2:l2<I):ZipApart (I+4) (I+2) (I+3) I (I+1) l1 l2:=by
 constructor<;>(show(_:Nat)≠_;omega)
def Dz{l l'}{ta}{p pos pos'}{elts}{k:Nat}(hg:Gl X "zip")(hm:X.mg "zip"=none)(ha:PA X [l,l'] ta)(hs:starEach [l,l'] X.env=[(false,eval l X.env),(false,eval l' X.env)])(hs2:starEach [l'] X.env=[(false,eval l' X.env)]):
 PI X (.Tuple elts k pos') (.Call (.Name "zip" p) [l,l'] [] pos) (tH X.K ta):=by
 intro pins s σ H R I h;refine Call_ (Ze I hg hm boot_zip<|PyProof.Rows.callWith_type1 (thn (ha pos pins s σ H _ I h) λus s1 ⟨vs,H1,I1,r1,q1⟩=>?_) (by rw[hs,hs2])<|by rw[hs2];rfl);obtain⟨a,b,rfl,⟨xs,hq⟩,⟨ys,hr⟩,q⟩:=q1;cases r1 with
 |cons r rr=>
  cases rr with
  |cons r' rr=>
   cases rr;cases r;cases r';obtain⟨its,rv,pl,hz⟩:=I1.list hq;obtain⟨jts,rw',pl',hz'⟩:=I1.list hr;obtain⟨o1,ho1,_⟩:=pl.isList;obtain⟨o2,ho2,_⟩:=pl'.isList;refine call_zip_2 pl.isList pl'.isList λh' hZ hTI hTO hi1 hi2 hsz hk=>?_;refine wpAny_pyIter_zip hZ ⟨s1.heap.objs.size+4,[s1.heap.objs.size+4,s1.heap.objs.size+2,s1.heap.objs.size+3,s1.heap.objs.size,s1.heap.objs.size+1],_,_,H1,rfl,I1.kept (t':=s1.toks) hk,Hs a b _ _ _ _ _<|Kv _ _ _ (zxJ ho1)<|zxJ ho2,⟨hZ,hTI,⟨_,_,hTO⟩,hi1,hi2⟩,λc hc=>?_,q⟩;have hb':s1.heap.objs.size<=c:=by
    simp only[zzC,zxC,or_false]at hc
    rcases hc with rfl|rfl|rfl|rfl|rfl<;>first|exact zzN _|exact Nat.le_add_right _ _
   exact I1.fpOk hb'<|I1.hok.fresh hb'
end
section
variable{X:Cx}{kd:KD}{tg e:Expr}{fa:EF}
def v9(st:Bool):List D->List D->List ZV
 |x::r,y::t=>(st,.tup [x,y])::v9 st r t
 |_,_=>[]
theorem XG(st):∀(xs ys:List D),(v9 st xs ys).length=min xs.length ys.length
 | [],_=>by simp[v9]
 |_::_,[]=>by simp[v9]
 |_::r,_::t=>by simp only[v9,zzT,XG st r t];omega
theorem Z4{st}:∀{xs ys:List D}{i:Nat}{y:ZV},(v9 st xs ys)[i]? = some y->∃d e,xs[i]? = some d/\ys[i]? = some e/\y=(st,.tup [d,e])
 | [],_,_,_,h=>by simp[v9]at h
 |_::_,[],_,_,h=>by simp[v9]at h
 |x::r,y::t,0,z,h=>by
  simp only[v9,List.getElem?_cons_zero]at h;cases h;exact⟨x,y,rfl,rfl,rfl⟩
 |x::r,y::t,i+1,z,h=>by
  simp only[v9,List.getElem?_cons_succ]at h;obtain⟨d,e,h1,h2,h3⟩:=Z4 h;exact⟨d,e,by simpa using h1,by simpa using h2,h3⟩
def DP{K}{F B}{ad}{H}{a b}{vs ws}{st}{ds es}(hs:∀(ad3:Ad) (H3:Hp),Grow (Gw [] ad) H (Gw [] ad3) H3->YM K H3 a vs)(hs':∀(ad3:Ad) (H3:Hp),Grow (Gw [] ad) H (Gw [] ad3) H3->YM K H3 b ws)
 (r:RpL K kd (Lv F B (Gw [] ad) st) H vs ds) (r':RpL K kd (Lv F B (Gw [] ad) st) H ws es):ItOk K kd F B ad H (qX K a b) (v9 st ds es):=⟨λad3 H3 g3 tr i=>by
 have hr3:=hs ad3 H3 g3;have hr4:=hs' ad3 H3 g3;have rl3:=RpL.grow g3 r;have rl4:=RpL.grow g3 r';have hlen:=XG st ds es;have l1:=r.length;have l2:=r'.length;refine⟨λhi=>?_,λhi=>⟨_,_,hr3,hr4,by omega⟩,λv H4 hy=>?_⟩
 . obtain⟨u,hu,_⟩:=r.get<|zzE (show i<ds.length by omega);obtain⟨u',hu',_⟩:=r'.get<|zzE (show i<es.length by omega);exact⟨_,_,u,u',hr3,hr4,hu,hu'⟩
 . obtain⟨T,x,y,hn,rfl,rfl,hv,hv'⟩:=hy;refine⟨xU hn,λq hq=>?_⟩;obtain⟨d,e,hd,he,rfl⟩:=Z4 hq;obtain⟨u,hu,ru⟩:=rl3.get hd;obtain⟨u',hu',ru'⟩:=rl4.get he;have:=hv _ hr3;rw[hu]at this;cases this;have:=hv' _ hr4;rw[hu']at this;cases this;exact .tup (λz=>tr _ _ z hn) yy<|.cons (Rp.grow ⟨λb o q _=>xU hn b o q,λb z=>.inl z⟩ ru)<|.cons (Rp.grow ⟨λb o q _=>xU hn b o q,λb z=>.inl z⟩ ru') .nil⟩
def Qk(fr:AF):IF:=λas=>(fr as).bind λp=>(Iw p.1).bind λo=>(qk o.1).bind λa=>(qk o.2).bind λb=>some (v9 (a.1&&b.1) a.2 b.2,p.2)
def KB{K}{F B}{ad}{H}{v}{st q}{ds}(rp:Rp K kd (Lv F B (Gw [] ad) st) H v (.lst ds))(hq:q=true->st=true):∃a vs,v = .ref a/\(∀(ad3:Ad) (H3:Hp),Grow (Gw [] ad) H (Gw [] ad3) H3->YM K H3 a vs)/\RpL K kd (Lv F B (Gw [] ad) q) H vs ds:=by
 have le:∀a,Lv F B (Gw [] ad) q a->Lv F B (Gw [] ad) st a:=λa z=>z.imp (λy=>y.imp (λx=>⟨hq x.1,x.2⟩) id) id;cases rp with
 |lst hn hr rl=>exact⟨_,_,rfl,λad3 H3 g3=>.inl<|Vt g3 (λz=>hn<|.inr z) hr,rl.less le⟩
 |lstK a b c rl=>exact⟨_,_,rfl,λad3 H3 g3=>.inr ⟨_,_,_,a,rfl,rfl,rfl,b,c⟩,rl.less le⟩
def Na{l l'}{fr}{p pos pos'}{elts}{k:Nat}(hg:Gl X "zip")(hm:X.mg "zip"=none)(ha:AA X kd [l,l'] fr)(hs:starEach [l,l'] X.env=[(false,eval l X.env),(false,eval l' X.env)])(hs2:starEach [l'] X.env=[(false,eval l' X.env)]):
 AI X kd (.Tuple elts k pos') (.Call (.Name "zip" p) [l,l'] [] pos) (Qk fr):=by
 with_unfolding_all (
 intro pins s σ H R I h;obtain⟨F,B,ad,as,ds,as',Rl,e',q⟩:=h;obtain⟨⟨rs,as1⟩,h1,e'⟩:=bS_<|e';obtain⟨⟨o1,o2⟩,e1,e'⟩:=bS_ e';obtain⟨⟨s1,d1⟩,e2,e'⟩:=bS_ e';obtain⟨⟨s2,d2⟩,e3,e'⟩:=bS_ e';cases Lc e1;cases OZ e2;cases OZ e3
 . cases e';refine Dz hg hm ha hs hs2 pins s σ H R I ⟨F,B,ad,as,_,as1,Rl,h1,λvs ad1 H1 R1 rv1 g1=>?_⟩;cases rv1 with
   |cons r1 rr=>
    cases rr with
    |cons r2 rr=>
     cases rr;cases r1 with
     |lf rp1=>
      cases r2 with
      |lf rp2=>
       obtain⟨a,vs,rfl,ha,ra⟩:=KB rp1 λz=>(Bool.and_eq_true_iff.mp z).1;obtain⟨b,ws,rfl,hb,rb⟩:=KB rp2 λz=>(Bool.and_eq_true_iff.mp z).2;exact⟨a,b,rfl,⟨_,ha _ _ Grow.refl⟩,⟨_,hb _ _ Grow.refl⟩,q _ ad1 H1 R1 g1<|DP ha hb ra rb⟩)
end
def insI(x:Int):List Int->List Int
 | []=>[x]
 |y::r=>if x<=y then x::y::r else y::insI x r
def sortI:List Int->List Int
 | []=>[]
 |x::r=>insI x<|sortI r
theorem insI_perm(x):∀l:List Int,(insI x l).Perm (x::l)
 | []=>List.Perm.refl _
 |y::r=>by
  unfold insI
  split
  . exact List.Perm.refl _
  . exact((insI_perm x r).cons y).trans<|List.Perm.swap x y r
theorem sortI_perm:∀l:List Int,(sortI l).Perm l
 | []=>List.Perm.refl _
 |x::r=>(insI_perm x _).trans<|(sortI_perm r).cons x
theorem U1(x):∀l:List Int,l.Pairwise (· <= ·)->(insI x l).Pairwise (· <= ·)
 | [],_=>by simp[insI]
 |y::r,h=>by
  unfold insI;rw[List.pairwise_cons]at h
  split
  . rename_i a;rw[List.pairwise_cons,List.pairwise_cons];refine⟨λz b=>?_,h⟩
    rcases zzC.mp b with rfl|b
    . exact a
    . exact Int.le_trans a<|h.1 z b
  . rename_i a;rw[List.pairwise_cons];refine⟨λz b=>?_,U1 x r h.2⟩
    rcases zzC.mp ((insI_perm x r).mem_iff.mp b)with rfl|b
    . omega
    . exact h.1 z b
theorem vR:∀l:List Int,(sortI l).Pairwise (· <= ·)
 | []=>List.Pairwise.nil
 |x::r=>U1 x _<|vR r
theorem QD:∀(a b:List Int),a.Perm b->a.Pairwise (· <= ·)->b.Pairwise (· <= ·)->a=b
 | [],b,p,_,_=>by rw[List.nil_perm]at p;exact p.symm
 |x::r,[],p,_,_=>by rw[List.perm_nil]at p;cases p
 |x::r,y::t,p,c,d=>by
  rw[List.pairwise_cons]at c d;have f:x=y:=by
   have h:=p.mem_iff.mp<|zzF ..;have i:=p.mem_iff.mpr<|zzF ..
   rcases zzC.mp h with e|e
   . exact e
   . rcases zzC.mp i with g|g
     . exact g.symm
     . have:=d.1 x e;have:=c.1 y g;omega
  subst f;rw[QD r t (List.Perm.cons_inv p) c.2 d.2]
def XW{K O}(h:RpL K kd O H vs ds)(hv:ya vs us)(e:Zm ds=some ns):IntsAre us ns:=
 RpL.ind (P:=λvs ds=>∀us ns,ya vs us->Zm ds=some ns->IntsAre us ns) (λus ns hv e=>by cases e;cases hv;exact .nil) (λ{v d vs ds} a _ ih us ns hv e=>by
  cases hv with
  |cons b t=>
   cases a with
   |int x=>
    obtain⟨ys,h1,h2⟩:=bS_<|e;cases h2;obtain⟨tk,rfl⟩:=b;exact .cons _ _ (ih _ _ t h1)
   |_=>cases e) h us ns hv e
theorem ZX:∀{us:List Value}{ns:List Int},IntsAre us ns->ya (ns.map V.int) us
 |_,_,.nil=>.nil
 |_,_,.cons n t r=>.cons ⟨t,rfl⟩<|ZX r
theorem MC{K O}:∀ns:List Int,RpL K kd O H (ns.map V.int)<|ns.map D.int
 | []=>.nil
 |y::r=>.cons (.int y)<|MC r
def PV:List D->Option R0:=Dj λx=>(Il x).bind λds=>(Zm ds).bind λns=>if ns.length<64 then some (.fl<|(sortI ns).map .int)else none
section
variable{X:Cx}{kd:KD}
def MK:Y8 X kd (.builtin "sorted") PV:=by
 intro pins s σ H xs us Q I r h;obtain⟨O,ds,z,ht,vl,he,q⟩:=h;obtain⟨x,d,rfl,vx,he⟩:=Q2 vl he;obtain⟨ds,h0,he2⟩:=bS_<|he;cases Xj h0
 . obtain⟨ns,h1,he⟩:=bS_ he2;obtain⟨hz,he⟩:=zT he;cases he;cases vx with
   |lst hr rl=>
    obtain⟨u,rfl,ru⟩:=vals1 r;cases ru;obtain⟨its,rv,pl,_⟩:=I.list hr.sq;have hI:=XW rl rv h1;have hl:=hI.length;refine sorted_ints pl.isList hI (by omega) λout ns' a1 a2 a3=>?_;have e:=QD _ _ (a2.trans (sortI_perm ns).symm) a3<|vR ns;subst e;obtain⟨ee,hob⟩:=sortedAll_at s.heap its out;have hn:=I.hok.fresh<|zyX _;refine⟨.ref _,_,I.laid (t':=s.toks) (λb o e=>sortedAll_old e) (zyX _) (show xW X.prog X.w _ _ _ (.lst _)from⟨?_,out.toList,ee,ZX a1,by simpa[seqObj]using hob⟩),rfl,W8 q (MC _) _ hn⟩;rw[zzB,(sortI_perm ns).length_eq];exact Nat.le_of_lt (xZ<|by omega)
end
def Pp(f:D->Option Bool):List D->Option Nat
 | []=>none
 |x::r=>(f x).bind λb=>if b=true then(anyF f r).bind λ_=>some 0 else(Pp f r).bind λj=>some<|j+1
def wC(d:D):List D->Option R0:=Dj λx=>(Il d).bind λds=>(Pp (λy=>wN 50 y x) ds).bind λj=>if ds.length<=1000 then some (.im<|.int j)else none
theorem NW:∀{ds:List D}{j:Nat},Pp f ds=some j->∀d ∈ ds,∃c,f d=some c
 | [],_,h,_,m=>nomatch m
 |x::r,j,h,d,m=>by
  obtain⟨b,e,h⟩:=bS_<|h
  rcases zzC.mp m with rfl|m
  . exact⟨b,e⟩
  . cases b with
    |true=>
     obtain⟨c,a,_⟩:=bS_<|h;exact Z8 a d m
    |false=>
     obtain⟨k,a,_⟩:=bS_<|h;exact NW a d m
section
variable{X:Cx}{kd:KD}{pins:List (Addr×Obj)}{σ:St}{H:Hp}{s:Shared}{O:Addr->Prop}
def C7(I:Inv X pins σ H s)(hk:KdOk X kd)(hv:ya vs us)(h:RpL X.K kd O H vs ds)(e:Pp (λy=>wN n y x) ds=some j):∃h:j<us.length,Ni X.K kd O H n x us[j]=true/\∀m (hm:m<us.length),m<j->Ni X.K kd O H n x us[m]=false:=
 RpL.ind (P:=λvs ds=>∀us j,ya vs us->Pp (λy=>wN n y x) ds=some j->∃h:j<us.length,Ni X.K kd O H n x us[j]=true/\∀m hm,m<j->Ni X.K kd O H n x us[m]=false) (λus j hv e=>by cases e) (λ{v d vs ds} a _ ih us j hv h=>by
  cases hv with
  |cons r t=>
   obtain⟨b,h1,h⟩:=bS_<|h;cases b with
   |true=>
    obtain⟨c,h2,h3⟩:=bS_<|h;cases h3;exact⟨by simp,LL I hk r a h1,λm hm hlt=>by omega⟩
   |false=>
    obtain⟨k,h2,h3⟩:=bS_<|h;cases h3;obtain⟨hk',e1,e2⟩:=ih _ _ t h2;refine⟨by simpa using hk',by simpa using e1,λm hm hlt=>?_⟩;cases m with
    |zero=>exact LL I hk r a h1
    |succ m=>simpa using e2 m (by simpa using hm) (by omega)) h us j hv e
def Sx(hk:KdOk X kd)(hu:X.A.units+100<cLine):rQ X kd "list.index" wC:=by
 intro k s σ H x Y v Z Q I C r h;obtain⟨O,d,ds,r0,ht,D,E,a,q⟩:=h;obtain⟨y',y,rfl,G,a⟩:=Q2 E a;obtain⟨es,J,b⟩:=bS_<|a;cases Xj J
 . obtain⟨j,l,a⟩:=bS_ b;obtain⟨hz,a⟩:=zT a;cases a;obtain⟨u,rfl,L⟩:=vals1 r;cases D with
   |lst M c=>
    cases C;obtain⟨e,f,N,_⟩:=I.list M.sq;obtain⟨⟨cls,P,o,R⟩,p,t,n,z⟩:=N.isList;simp only at t z;subst t z;obtain⟨S,T,U⟩:=C7 I hk f c l;have B:=f.length;have g:=c.length;refine call_meets PySem.F.slot_list_index ⟨_,p,rfl⟩ PySem.F.entry_list_index (PySem.F.args_list_index_2 _ _)
     (SeqAt.list_indexAt _ e.toArray n P R _ _ j (by simpa using S) (by omega) (by simpa using T) λm V i=>by simpa using U m (by simpa using V) i)
     ⟨p,λw W=>Vp I hk (by show X.A.units+1+50<cLine;omega) G L f c (NW l) w (by simpa using W),⟨.int j,H,I.tok _,⟨_,rfl⟩,ym q<|.int _⟩⟩
end
theorem Ua:∀{vs:List V}{us:List Value},vs.length=us.length->(∀(i:Nat) v u,vs[i]? = some v->us[i]? = some u->RelV v u)->ya vs us
 | [],[],_,_=>.nil
 | [],_::_,h,_=>by simp at h
 |_::_,[],h,_=>by simp at h
 |v::c,u::d,h,k=>.cons (k 0 v u rfl rfl) (Ua (by simpa using h) λi a b x y=>k (i+1) a b (by simpa using x)<|by simpa using y)
section
variable{X:Cx}{tg:Expr}
def t8(ta:TA):TE:=λσ H Q=>ta σ H λvs H1=>∃j:Int,vs=[.int j] /\ -(2 ^ 62)<=j/\j<2 ^ 62/\∀r,H1 r=none->Q (.ref r) (upd H1 r<|.rng 0 j)
def On(hg:Gl X "range")(hm:X.mg "range"=none)(ha:PA X [a] ta)(hs:starEach [a] X.env=[(false,eval a X.env)]):PE X (.Call (.Name "range" p) [a] [] pos) (t8 ta):=by
 intro c s σ H Q I h;refine Call_<|Ze I hg hm boot_range<|PyProof.Rows.callWith_type1 (thn (ha pos c s σ H _ I h) λl f ⟨m,n,d,g,i⟩=>?_) hs rfl;obtain⟨j,e,u,v,q⟩:=i;subst e;cases g with
 |cons r k=>
  cases k;obtain⟨t,rfl⟩:=r;exact call_range_1 ⟨.ref f.heap.objs.size,_,d.laid (λb o e=>zxI _ e) (zzN _) (show xW X.prog X.w _ _ _ (.rng 0 j)from⟨_,_,_,zxK _ rfl⟩),rfl,q _<|d.hok.fresh<|zzN _⟩
def oe(ta:TA):TE:=λσ H Q=>JT (t8 ta) sf σ H λvs H2=>∃r H1,∃j:Int,vs=[.ref r]/\H1 r=none/\H2=upd H1 r (.rng 0 j)/\0<=j/\j<=100000/\∀l,H2 l=none->Q (.ref l) (upd H2 l<|.lst<|(List.range j.toNat).map λ(i:Nat)=>V.int i)
def Bn(hc:X.calm=true)(hg:Gl X "range")(hm:X.mg "range"=none)(hgl:Gl X "list")(hml:X.mg "list"=none)(ha:PA X [a] ta)(hs:starEach [a] X.env=[(false,eval a X.env)])
 (hs':starEach [.Call (.Name "range" p) [a] [] pos] X.env=[(false,eval (.Call (.Name "range" p) [a] [] pos) X.env)]):PE X (.Call (.Name "list" p') [.Call (.Name "range" p) [a] [] pos] [] pos') (oe ta):=by
 intro b s σ H Q I h;refine Call_<|Ze I hgl hml Bt.list<|PyProof.Rows.callWith_type1 (thn ((Yt (On hg hm ha hs) QX hs') pos' b s σ H (λD g=>∃r o,∃j:Int,D=[.ref r]/\o r=none/\g=upd o r (.rng 0 j)/\0<=j/\j<=100000/\∀l,g l=none->Q (.ref l) (upd g l<|.lst<|(List.range j.toNat).map λ(i:Nat)=>V.int i)) I ?_) λP E ⟨D,g,m,F,G⟩=>?_) hs' rfl
 . exact h
 obtain⟨r,o,j,rfl,R,rfl,S,T,q⟩:=G;cases F with
 |cons J K=>
  cases K;cases J;obtain⟨t,u,v,L⟩:=m.hok r _<|yy ..;have z:Builtin.Range.rangeSize 0 j 1=(j.toNat:Nat):=by rw[rangeSize_one];split<;>omega
  refine call_list_range (m.ok.hd hc) L (small_one (by omega) (by omega) (by omega)<|by omega) (by exact_mod_cast z) (by omega) λU W A M N B c=>?_;refine⟨.ref E.heap.objs.size,_,m.laid N (zzN _) (show xW X.prog X.w _ _ _ (.lst _)from⟨?_,A.toList,M, ?_,by simpa using B⟩),rfl,q _<|m.hok.fresh<|zzN _⟩
  . rw[zzB,zyU];exact zzO (show j.toNat<=100000 by omega) (by decide)
  . refine Ua (by rw[zzB,zyU];simpa using c.1.symm) λi x y d O=>?_;rw[zzI]at d;obtain⟨C,e⟩:=c.2 i y (by simpa using O);cases hr:(List.range j.toNat)[i]? with
    |none=>rw[hr]at d;cases d
    |some k=>
     rw[hr]at d;obtain⟨_,f⟩:=zzG.mp hr;rw[List.getElem_range]at f;subst f;cases d;exact⟨C,by rw[e];simp⟩
end
section
variable{X:Cx}{kd:KD}
def Ce:List D->Option R0
 | [.int j]=>if 0<=j/\j<=100000 then some (.fl<|(List.range j.toNat).map λ(i:Nat)=>.int i)else none
 |_=>none
theorem Fe{K O}:∀l:List Nat,RpL K kd O H (l.map λ(i:Nat)=>V.int i)<|l.map λ(i:Nat)=>D.int i
 | []=>.nil
 |y::r=>.cons (.int y)<|Fe r
def B3(hc:X.calm=true)(hg:Gl X "range")(hm:X.mg "range"=none)(hgl:Gl X "list")(hml:X.mg "list"=none)(ha:AA X kd [a] fr)(hs:starEach [a] X.env=[(false,eval a X.env)])
 (hs':starEach [.Call (.Name "range" p) [a] [] pos] X.env=[(false,eval (.Call (.Name "range" p) [a] [] pos) X.env)]):AE X kd (.Call (.Name "list" p') [.Call (.Name "range" p) [a] [] pos] [] pos') (fP fr Ce):=by
 with_unfolding_all exact(yH (Bn hc hg hm hgl hml ha hs hs') λσ H Q h=>by
  obtain⟨F,B,y,as,r,A,R,e,q⟩:=h;obtain⟨⟨C,d⟩,D,e⟩:=bS_<|e;obtain⟨⟨E,Z⟩,f,e⟩:=bS_ e;obtain⟨G,g,e⟩:=bS_ e;obtain⟨z,I,e⟩:=bS_ e;cases e
  match E,g,f with
  | [.int j],g,f=>
   obtain⟨⟨J,L⟩,M⟩:=zT<|g;cases M;refine(⟨F,B,y,as,C,d,R,D,λvs k u v m N=>?_⟩);have O:=XR v m f;have P:=wJ v I λw S T U n V=>q w S k T U n<|N.trans V;cases O with
   |cons W Y=>
    cases Y;cases W;refine⟨j,rfl,by omega,by omega,λr x=>⟨r,u,j,rfl,x,rfl,J,L,λl c=>?_⟩⟩;have s:l≠r:=λe=>by rw[e,yy]at c;cases c
    have t:u l=none:=by rw[zX s]at c;exact c
    exact P l _ _ t (λb o q=>xU c b o<|xU x b o q) yy<|Fe _)
end
def FK(h:RoL L N H vs ls fp):vs.length=ls.length:=RoL.length h
section
variable{K:zzA}{kd:KD}{F B G:Addr->Prop}{H:Hp}
def Vr(hp:G p):Grow G H G (upd H p u):=⟨λb w h n=>by rw[zX λe=>n<|by subst e;exact hp];exact h,λb z=>.inl z⟩
theorem LN:∀(os:List O) {vs:List V}{fp:List Addr}{n:Nat}{o:O},vQ K kd F B G H vs os fp->fp.Nodup->(∀a ∈ fp,G a)->os[n]? = some o->
 ∃v f,vs[n]? = some v/\Zj K kd F B G H v o f/\f.Nodup/\(∀a ∈ f,a ∈ fp)/\∀(p:Addr) (u:HO) (o':O),p ∈ f->Zj K kd F B G (upd H p u) v o' f->vQ K kd F B G (upd H p u) vs (os.set n o') fp
 | [],_,_,_,_,_,_,_,e=>by simp at e
 |E::k,_,_,n,o,r,l,c,e=>by
  cases r with
  |cons a r=>
   rename_i v I q J;obtain⟨s,t,i⟩:=zxF.mp l;cases n with
   |zero=>
    simp at e;subst e;exact⟨v,q,rfl,a,s,λx m=>zzP _ m,λp u j b d=>.cons d<|vQ.grow (Vr<|c p<|zzP _ b) (λx m w h=>by rw[zX λe=>i p b x m e.symm];exact h) r⟩
   |succ n=>
    obtain⟨y,f,z,A,C,g,D⟩:=LN k r t (λx m=>c x<|zzL _ m) (by simpa using e);exact⟨y,f,by simpa using z,A,C,λx m=>zzL _<|g x m,λp u j b d=>.cons (Zj.grow (Vr<|c p<|zzL _<|g p b) (λx m w h=>by rw[zX λe=>i x m p (g p b) e];exact h) a)<|D p u j b d⟩
theorem GV(h:L st' v d'):∀(os:List O) {vs:List V}{fp:List Addr}{n:Nat}{st:Bool}{d:D},RoL L N H vs os fp->os[n]? = some (.lf st d)->RoL L N H (vs.set n v) (os.set n<|.lf st' d') fp
 | [],_,_,_,_,_,_,e=>by simp at e
 |f::b,_,_,n,c,d,r,e=>by
  cases r with
  |cons a r=>
   cases n with
   |zero=>
    simp at e;subst e;cases a with
    |lf _=>exact .cons (.lf h) r
   |succ n=>exact .cons a (GV h b r<|by simpa using e)
def L4{n:Nat}{st}(c)(r:Zj K kd F B G H v (.nd .ls inner) fp)(hn:fp.Nodup)(hG:∀a ∈ fp,G a)(e:inner[n]? = some (.lf st d)):
 ∃p ivs,v = .ref p/\p ∈ fp/\H p=some (.lst ivs)/\n<ivs.length/\Zj K kd F B G (upd H p<|.lst<|ivs.set n<|.int c) v (.nd .ls<|inner.set n<|.lf true<|.int c) fp:=by
 cases r with
 |ls hp ir=>
  rename_i p ivs ifp;have hpfp:=(zzW.mp hn).1;refine⟨p,ivs,rfl,zzF ..,hp,by rw[FK ir];exact(zzG.mp e).1,.ls yy<|GV (.int c) inner (vQ.grow (Vr<|hG p<|zzF ..) (λx m w h=>by rw[zX λe=>hpfp<|by subst e;exact m];exact h) ir) e⟩
def EI{os}{n:Nat}(r:Zj K kd F B G H v (.nd .ls os) fp)(hn:fp.Nodup)(hG:∀a ∈ fp,G a)(e:os[n]? = some o):
 ∃l vs w f,v = .ref l/\H l=some (.lst vs)/\vs[n]? = some w/\Zj K kd F B G H w o f/\f.Nodup/\(∀a ∈ f,a ∈ fp)/\∀(p:Addr) (u:HO) (o':O),p ∈ f->Zj K kd F B G (upd H p u) w o' f->Zj K kd F B G (upd H p u) v (.nd .ls<|os.set n o') fp:=by
 cases r with
 |ls c g=>
  rename_i l h i;obtain⟨w,f,j,k,q,d,s⟩:=LN os g (zzW.mp hn).2 (λa m=>hG a<|zzD _ m) e;exact⟨l,h,w,f,rfl,c,j,k,q,λa m=>zzD _<|d a m,λp u t b x=>.ls (by rw[zX λe=>(zzW.mp hn).1<|by rw[e];exact d p b];exact c)<|s p u t b x⟩
def AL{os}{n:Nat}(r:Zj K kd F B G H v (.nd .tp os) fp)(hn:fp.Nodup)(hG:∀a ∈ fp,G a)(e:os[n]? = some o):
 ∃l vs w f,v = .ref l/\H l=some (.tup vs)/\vs[n]? = some w/\Zj K kd F B G H w o f/\f.Nodup/\(∀a ∈ f,a ∈ fp)/\∀(p:Addr) (u:HO) (o':O),p ∈ f->Zj K kd F B G (upd H p u) w o' f->Zj K kd F B G (upd H p u) v (.nd .tp<|os.set n o') fp:=by
 cases r with
 |tp c d h=>
  rename_i l i;obtain⟨w,f,j,k,m,g,q⟩:=LN os h hn hG e;exact⟨l,i,w,f,rfl,d,j,k,m,g,λp u s b t=>.tp c (by rw[zX λe=>c<|.inr<|by rw[e];exact hG p<|g p b];exact d)<|q p u s b t⟩
end
section
variable{K:zzA}{kd:KD}{F B:Addr->Prop}{ad:Ad}{as:AS}{σ:St}{H:Hp}{i:Nat}{o:O}
def Rel.slotU(R:Rel K kd F B [] ad as σ H)(k:as[i]? = some (some o)):
 ∃v,σ[i]? = some (some v)/\Zj K kd F B (Gw [] ad) H v o (ad i)/\(ad i).Nodup/\(∀a ∈ ad i,Gw [] ad a)/\
  ∀(p:Addr) (u:HO) (o':O),p ∈ ad i->Zj K kd F B (Gw [] ad) (upd H p u) v o' (ad i)->Rel K kd F B [] ad (as.set i<|some o') σ (upd H p u)/\Grow (Gw [] ad) H (Gw [] ad) (upd H p u):=by
 obtain⟨v,d,n⟩:=R.sl i _ k;have r:=(zzG.mp k).1;refine⟨v,d,n,R.nd i,λa m=>.inr ⟨i,m⟩,λp u t f b=>?_⟩;have g:Grow _ H (Gw [] ad) (upd H p u):=Vr<|.inr ⟨i,f⟩;have c:∀a,H a≠none->upd H p u a≠none:=λa z=>by
  by_cases e:a=p
  . subst e;rw[yy];simp
  . rw[zX e];exact z
 refine⟨⟨by rw[zzU];exact R.len,λj l=>R.out j (by rw[zzU]at l;exact l),R.nd,R.inj,R.tnd,R.dis,λa z=>c a<|R.ftr a z,λa z=>⟨c a (R.btr a z).1,(R.btr a z).2⟩,λa z=>⟨c a (R.gtr a z).1,(R.gtr a z).2⟩,λj s e=>?_⟩,g⟩
 by_cases q:j=i
 . subst q;rw[zyK r]at e;cases e;exact⟨v,d,b⟩
 . rw[zzY<|Ne.symm q]at e;exact(R.sl j s e).grow g λa m u h=>by rw[zX λe=>q<|R.inj j i a m<|by rw[e];exact f];exact h
def Rel.any(R:Rel K kd F B [] ad as σ H)(hy:as[y]? = some none):Rel K kd F B [] ad as (σ.set y v) H:=by
 refine⟨by rw[zzU];exact R.len,R.out,R.nd,R.inj,R.tnd,R.dis,R.ftr,R.btr,R.gtr,λj s e=>?_⟩
 by_cases q:j=y
 . subst q;rw[hy]at e;cases e;exact R.sl j none hy
 . rw[zzY<|Ne.symm q];exact R.sl j s e
end
abbrev Ly:=AS->Option Int
def oh(K:zzA)(kd:KD)(f:Ly):TE:=λσ H Q=>∃F B ad as k,Rel K kd F B [] ad as σ H/\f as=some k/\Q (.int k) H
@[irreducible] def AK(X:Cx)(kd:KD)(e:Expr)(f:Ly):Prop:=PE X e<|oh X.K kd f
def xC(c:Int):Ly:=λ_=>some c
def X_:O->Option (List O)
 | .nd .ls os=>some os
 |_=>none
def C2:O->Option (List O)
 | .nd .tp os=>some os
 |_=>none
def Rg:O->Option D
 | .lf _ d=>some d
 |_=>none
def Ll{α:Type}(f:O->Option α)(os:List O)(k:Nat):Option α:=os[k]?.bind f
def Bs{α:Type}(f:O->Option α)(as:AS)(i:Nat):Option α:=as[i]?.bind λs=>s.bind f
def FI{os}(h:X_ o=some os):o = .nd .ls os:=by
 cases o with
 |lf s d=>cases h
 |nd k a=>cases k<;>cases h;rfl
def Ja{os}(h:C2 o=some os):o = .nd .tp os:=by
 cases o with
 |lf s d=>cases h
 |nd k a=>cases k<;>cases h;rfl
def Bc(h:Rg o=some d):∃st,o = .lf st d:=by
 cases o with
 |lf s d=>cases h;exact⟨s,rfl⟩
 |nd k a=>cases h
def Et{α:Type}{f os}{k:Nat}{a:α}(h:Ll f os k=some a):∃o,os[k]? = some o/\f o=some a:=bS_ h
def HD(h:Bs f as k=some a):∃o,as[k]? = some (some o)/\f o=some a:=by
 obtain⟨s,b,h⟩:=bS_ h;obtain⟨o,rfl,h⟩:=bS_ h;exact⟨o,b,h⟩
def A_{os inner:List O}{k:Nat}(h:Ll X_ os k=some inner):os[k]? = some (.nd .ls inner):=by
 obtain⟨o,a,h⟩:=Et h;cases FI h;exact a
def pb{os inner:List O}{k:Nat}(h:Ll C2 os k=some inner):os[k]? = some (.nd .tp inner):=by
 obtain⟨o,a,h⟩:=Et h;cases Ja h;exact a
def J_{os}{d:D}{k:Nat}(h:Ll Rg os k=some d):∃st,os[k]? = some (.lf st d):=by
 obtain⟨o,a,h⟩:=Et h;obtain⟨b,rfl⟩:=Bc h;exact⟨b,a⟩
def CF{inner}{k:Nat}(h:Bs X_ as k=some inner):as[k]? = some (some<|.nd .ls inner):=by
 obtain⟨o,a,h⟩:=HD h;cases FI h;exact a
def u3(h:Bs Rg as k=some d):∃st,as[k]? = some (some<|.lf st d):=by
 obtain⟨o,a,h⟩:=HD h;obtain⟨b,rfl⟩:=Bc h;exact⟨b,a⟩
def X1{α:Type}{f os}{k:Nat}{a:α}(h:os[k]? = some o)(e:f o=some a):Ll f os k=some a:=by unfold Ll;rw[h];exact e
def VZ(h:as[k]? = some (some o))(e:f o=some a):Bs f as k=some a:=by unfold Bs;rw[h];exact e
def xV(i:Nat):Ly:=λas=>(Bs Rg as i).bind T_
def Mj(i:Nat)(f:Ly):Ly:=λas=>(f as).bind λk=>if 0<=k then(Bs Rg as i).bind λd=>(Il d).bind λds=>ds[k.toNat]?.bind T_ else none
def Xu(f g:Ly):Ly:=λas=>(f as).bind λa=>(g as).bind λb=>if 0<b then some (a%b)else none
def HF(i:Nat):Ly:=λas=>(Bs X_ as i).bind λos=>some (os.length:Int)
section
variable{X:Cx}{kd:KD}{f g:Ly}{a b:Expr}
def P_:AK X kd (.Constant (.int c) j pos) (xC c):=by
 with_unfolding_all exact(yH M6 λσ H Q h=>by
  obtain⟨F,B,a,as,k,R,e,q⟩:=h;cases e;exact q)
def L9(hv:PE X (.Name x p) (QM i)):AK X kd (.Name x p) (xV i):=by
 with_unfolding_all exact(yH hv λσ H Q h=>by
  obtain⟨F,B,ad,as,k,R,e,q⟩:=h;obtain⟨d,e1,e⟩:=bS_<|e;cases K1 e;obtain⟨st,k1⟩:=u3 e1;obtain⟨v,hv,ro⟩:=R.sl i _ k1;generalize ad i=fp at ro;cases ro with
  |lf rp=>cases rp;exact⟨_,hv,q⟩)
def Nl(hv:PE X (.Name x p) (QM i))(hb:AK X kd b f)(hs:Zy b):AK X kd (.Subscript (.Name x p) b pos) (Mj i f):=by
 with_unfolding_all exact(yH (GQ V3 hv hb hs) λσ H Q h=>by
  obtain⟨F,B,ad,as,c,R,e,q⟩:=h;obtain⟨k,h1,e⟩:=bS_<|e;obtain⟨hk,e⟩:=ite_some' e;obtain⟨d0,e1,e3⟩:=bS_ e;obtain⟨ds,e2,e4⟩:=bS_ e3;obtain⟨d,k2,e5⟩:=bS_ e4;cases Xj e2;cases K1 e5;obtain⟨st,k1⟩:=u3 e1;obtain⟨v,hv,ro⟩:=R.sl i _ k1;generalize ad i=fp at ro;cases ro with
  |lf rp=>
   obtain⟨l,vs,rfl,hq,rl⟩:=KB rp λz=>z;obtain⟨w,hw,rw'⟩:=rl.get k2;cases rw';refine⟨_,hv,F,B,ad,as,k,R,h1,l,vs,k,_,rfl,rfl,hq ad H Grow.refl, ?_,q⟩;have:=v8 hw;rw[zyZ hk]at this;exact this)
def P7(ha:AK X kd a f)(hb:AK X kd b g):AK X kd (.BinOp a .Mod b pos) (Xu f g):=by
 with_unfolding_all exact(yH (Jy Hu ha hb) λσ H Q h=>by
  obtain⟨F,B,d,as,c,R,e,q⟩:=h;obtain⟨m,i,e⟩:=bS_<|e;obtain⟨n,j,e⟩:=bS_ e;obtain⟨k,e⟩:=zT e;cases e;exact⟨F,B,d,as,m,R,i,F,B,d,as,n,R,j,m,n,rfl,rfl,k,q⟩)
def SV(hg:Gl X "len")(hm:X.mg "len"=none)(hb:bootBuiltins "len"=some (.builtin "len"))(hv:PE X (.Name x p) (QM i))(hst:starEach [.Name x p] X.env=(false,eval (.Name x p) X.env)::starEach [] X.env)(hpl:(backTo pos<|starEach [] X.env).any (·.1)=false):AK X kd (.Call (.Name "len" p0) [.Name x p] [] pos) (HF i):=by
 with_unfolding_all exact(yH (T8 Yv hg hm hb (Yt hv QX hst) (by decide) (by decide) hst hpl) λσ H Q h=>by
  obtain⟨F,B,ad,as,c,R,e,q⟩:=h;obtain⟨os,e1,e⟩:=bS_<|e;cases e;obtain⟨v,hv,ro⟩:=R.sl i _<|CF e1;generalize ad i=fp at ro;cases ro with
  |ls hH rl=>
   rename_i l vs fp;refine⟨_,hv,l,vs,rfl,.inl<|.inl<|.inl hH, ?_⟩;rw[FK rl];exact q)
end
def OK(i:Nat)(f fv:Ly):SF:=λas=>(f as).bind λk=>(fv as).bind λc=>if 0<=k then(Bs X_ as i).bind λos=>(Ll Rg os k.toNat).bind λ_=>some (.nx<|as.set i<|some<|.nd .ls<|os.set k.toNat<|.lf true<|.int c)else none
def MD(i:Nat)(f1 f2 fv:Ly):SF:=λas=>(f1 as).bind λk1=>(f2 as).bind λk2=>(fv as).bind λc=>if 0<=k1/\0<=k2 then(Bs X_ as i).bind λos=>(Ll X_ os k1.toNat).bind λinner=>(Ll Rg inner k2.toNat).bind λ_=>some (.nx<|as.set i<|some<|.nd .ls<|os.set k1.toNat<|.nd .ls<|inner.set k2.toNat<|.lf true<|.int c)else none
def uF(as:AS)(y:Nat):Bool:=match as[y]? with
 |some none=>true
 |_=>false
def Ao(h:uF as y=true):as[y]? = some none:=by
 unfold uF at h;cases k:as[y]? with
 |none=>rw[k]at h;cases h
 |some s=>
  cases s with
  |none=>rfl
  |some _=>rw[k]at h;cases h
def SM(y i:Nat)(f1:Ly)(n:Nat)(f2 f3 fv:Ly):SF:=λas=>(f1 as).bind λk1=>(f2 as).bind λk2=>(f3 as).bind λk3=>(fv as).bind λc=>if 0<=k1/\0<=k2/\0<=k3/\uF as y=true then
 (Bs X_ as i).bind λos=>(Ll C2 os k1.toNat).bind λps=>(Ll X_ ps n).bind λrows=>(Ll X_ rows k2.toNat).bind λinner=>(Ll Rg inner k3.toNat).bind λ_=>some (.nx<|as.set i<|some<|.nd .ls<|os.set k1.toNat<|.nd .tp<|ps.set n<|.nd .ls<|rows.set k2.toNat<|.nd .ls<|inner.set k3.toNat<|.lf true<|.int c)else none
def Cp(h:j<n):Cf n (j:Int)=some j:=by
 unfold Cf;rw[if_pos (by omega),if_pos<|by omega];simp
def Li(h0:0<=k)(h:k.toNat<n):Cf n k=some k.toNat:=by
 have:=Cp h;rw[show(k.toNat:Int)=k by omega]at this;exact this
def Ld(h0:0<=k)(h:xs[k.toNat]? = some v):Es xs k=some v:=by
 have:=v8 h;rw[show(k.toNat:Int)=k by omega]at this;exact this
section
variable{X:Cx}{kd:KD}{f f1 f2 f3 fv:Ly}{e1 e2 e3 ev:Expr}{i y:Nat}
def Cz(ho:PE X (.Name x p) (QM i))(h1:AK X kd e1 f)(hv:AK X kd ev fv)
 (ha:∀v,assign (.Subscript (.Name x p) e1 tpos) X.env v=(do
  let ov <-holding [v] (eval (.Name x p) X.env);let iv <-holding [v,ov] (eval e1 X.env)
  standAt tpos
  holding [v,ov,iv] (setItem ov iv v)
  release [v,ov,iv] []))
 (hs:swapsWithSole [.Subscript (.Name x p) e1 tpos] ev pos.line X.env=pure false) (hw:swappedStores [.Subscript (.Name x p) e1 tpos] ev X.env=pure none)
 (hm:(assignEach [.Subscript (.Name x p) e1 tpos] X.env).map (·.2)=[assign (.Subscript (.Name x p) e1 tpos) X.env]):
 Ks X kd (.Assign [.Subscript (.Name x p) e1 tpos] ev pos) (OK i f fv):=by
 with_unfolding_all exact(vM (LM hv (Ez ho h1 set_list ha) hs hw hm) λD σ H h=>by
  obtain⟨F,B,a,as,o,R,e,q⟩:=h;obtain⟨k,j,e⟩:=bS_<|e;obtain⟨c,l,e⟩:=bS_ e;obtain⟨m,e⟩:=ite_some' e;obtain⟨I,n,e⟩:=bS_ e;obtain⟨d,r,e⟩:=bS_ e;have s:=CF n;obtain⟨J,t⟩:=J_ r;cases e;obtain⟨v,sv,u,w,y,z⟩:=R.slotU s;obtain⟨p,b,rfl,A,C,E,g⟩:=L4 c u w y t;obtain⟨R2,G⟩:=z p _ _ A g;exact⟨F,B,a,as,c,R,l,_,sv,F,B,a,as,k,R,j,p,b,k,k.toNat,rfl,rfl,C,Li m E,q σ a _ R2 G⟩)
def CO(ho:PE X (.Name x p) (QM i))(h1:AK X kd e1 f1)(hp1:Zy e1)(h2:AK X kd e2 f2)(hv:AK X kd ev fv)
 (ha:∀v,assign (.Subscript (.Subscript (.Name x p) e1 p1) e2 tpos) X.env v=(do
  let ov <-holding [v] (eval (.Subscript (.Name x p) e1 p1) X.env);let iv <-holding [v,ov] (eval e2 X.env)
  standAt tpos
  holding [v,ov,iv] (setItem ov iv v)
  release [v,ov,iv] []))
 (hs:swapsWithSole [.Subscript (.Subscript (.Name x p) e1 p1) e2 tpos] ev pos.line X.env=pure false) (hw:swappedStores [.Subscript (.Subscript (.Name x p) e1 p1) e2 tpos] ev X.env=pure none)
 (hm:(assignEach [.Subscript (.Subscript (.Name x p) e1 p1) e2 tpos] X.env).map (·.2)=[assign (.Subscript (.Subscript (.Name x p) e1 p1) e2 tpos) X.env]):
 Ks X kd (.Assign [.Subscript (.Subscript (.Name x p) e1 p1) e2 tpos] ev pos) (MD i f1 f2 fv):=by
 with_unfolding_all exact(vM (LM hv (Ez (GQ V3 ho h1 hp1) h2 set_list ha) hs hw hm) λD σ H h=>by
  obtain⟨F,B,b,as,o,R,e,q⟩:=h;obtain⟨z,G,e⟩:=bS_<|e;obtain⟨f,I,e⟩:=bS_ e;obtain⟨c,J,e⟩:=bS_ e;obtain⟨⟨g,j⟩,e⟩:=ite_some' e;obtain⟨os,K,e⟩:=bS_ e;obtain⟨k,L,e⟩:=bS_ e;obtain⟨d,M,e⟩:=bS_ e;have N:=CF K;have O:=A_ L;obtain⟨st,P⟩:=J_ M;cases e;obtain⟨v,sv,Q,S,A,T⟩:=R.slotU N;obtain⟨l,U,w,fw,rfl,V,n,r,W,C,s⟩:=EI Q S A O;obtain⟨p,t,rfl,E,u,Y,y⟩:=L4 c r W (λa m=>A a<|C a m) P;obtain⟨R2,Z⟩:=T p _ _ (C p E)<|s p _ _ E y;exact⟨F,B,b,as,c,R,J,_,sv,F,B,b,as,z,R,G,l,U,z,_,rfl,rfl,.inl<|.inl V,Ld g n,F,B,b,as,f,R,I,p,t,f,f.toNat,rfl,rfl,u,Li j Y,q σ b _ R2 Z⟩)
def Ck{n:Nat}(hN:X.N.Nodup)(hyi:X.N[y]? = some z)(hyl:Loc X.env.scope z)(hyf:X.fn z=true\/X.env.scope.names.lookup z=some .local)
 (ho:PE X (.Name x p) (QM i)) (h1:AK X kd e1 f1) (hp1:Zy e1) (hc:PE X ec (tC<|.int n)) (hpc:Zy ec) (hsw:swapsWith (.Subscript (.Subscript (.Name x p) e1 p1) ec p2) (some<|.Name z py) pos0.line X.env=pure false)
 (ho2:PE X (.Name z q0) (QM y)) (h2:AK X kd e2 f2) (hp2:Zy e2) (h3:AK X kd e3 f3) (hv:AK X kd ev fv)
 (ha:∀v,assign (.Subscript (.Subscript (.Name z q0) e2 q1) e3 tpos) X.env v=(do
  let ov <-holding [v] (eval (.Subscript (.Name z q0) e2 q1) X.env);let iv <-holding [v,ov] (eval e3 X.env)
  standAt tpos
  holding [v,ov,iv] (setItem ov iv v)
  release [v,ov,iv] []))
 (hs:swapsWithSole [.Subscript (.Subscript (.Name z q0) e2 q1) e3 tpos] ev pos.line X.env=pure false) (hw:swappedStores [.Subscript (.Subscript (.Name z q0) e2 q1) e3 tpos] ev X.env=pure none)
 (hm:(assignEach [.Subscript (.Subscript (.Name z q0) e2 q1) e3 tpos] X.env).map (·.2)=[assign (.Subscript (.Subscript (.Name z q0) e2 q1) e3 tpos) X.env]):
 EW X kd [.Assign [.Name z py] (.Subscript (.Subscript (.Name x p) e1 p1) ec p2) pos0,.Assign [.Subscript (.Subscript (.Name z q0) e2 q1) e3 tpos] ev pos] (SM y i f1 n f2 f3 fv):=by
 with_unfolding_all exact(KJ (MB (Hi hN hyi hyl (GQ Cb (GQ V3 ho h1 hp1) hc hpc) hsw hyf)<|FZ<|LM hv (Ez (GQ V3 ho2 h2 hp2) h3 set_list ha) hs hw hm) λD σ H h=>by
  obtain⟨F,B,g,as,o,R,e,q⟩:=h;obtain⟨n1,j1,e⟩:=bS_<|e;obtain⟨n2,j2,e⟩:=bS_ e;obtain⟨u,j3,e⟩:=bS_ e;obtain⟨c,j4,e⟩:=bS_ e;obtain⟨⟨A,C,E,f⟩,e⟩:=ite_some' e;have f:=Ao f;obtain⟨os,e1,e⟩:=bS_ e;obtain⟨ps,e2,e⟩:=bS_ e;obtain⟨rows,e3,e⟩:=bS_ e;obtain⟨G,e4,e⟩:=bS_ e;obtain⟨d,e5,e⟩:=bS_ e;have I:=CF e1;have k2:=pb e2;have k3:=A_ e3;have k4:=A_ e4;obtain⟨st,k5⟩:=J_ e5;cases e;obtain⟨v,sv,ro,hn,s,up⟩:=R.slotU I;obtain⟨l,vs,w,fw,rfl,hH,J,K,fn,t,L⟩:=EI ro hn s k2;obtain⟨l2,M,w2,fw2,rfl,O,j,P,Q,b,S⟩:=AL K fn (λa m=>s a<|t a m) k3;obtain⟨T,U,w3,fw3,rfl,V,k,W,Y,r,Z⟩:=EI P Q (λa m=>s a<|t a<|b a m) k4;obtain⟨p,ivs,rfl,hp,hHp,hl,ro'⟩:=L4 c W Y (λa m=>s a<|t a<|b a<|r a m) k5;have m3:=r p hp;have m2:=b p m3;have m1:=t p m2;obtain⟨R2,g2⟩:=up p _ _ m1<|L p _ _ m2<|S p _ _ m3<|Z p _ _ hp ro';have yl:y<σ.length:=by rw[<-R.len];exact(zzG.mp f).1
  have R':=R.any (v:=some<|.ref T) f;have niy:i≠y:=λe=>by subst e;rw[f]at I;cases I
  have R2':=R2.any (v:=some<|.ref T) (by rw[zzY niy];exact f);refine⟨_,sv,F,B,g,as,n1,R,j1,l,vs,n1,_,rfl,rfl,.inl<|.inl hH,Ld A J,l2,M,n,_,rfl,rfl,.inl<|.inl O,v8 j, ?_⟩;exact⟨F,B,g,as,c,R',j4,_,zyK yl,F,B,g,as,n2,R',j2,T,U,n2,_,rfl,rfl,.inl<|.inl V,Ld C k,F,B,g,as,u,R',j3,p,ivs,u,u.toNat,rfl,rfl,hHp,Li E hl,q _ g _ R2' g2⟩)
end
section
variable{X:Cx}{kd:KD}
def J0:ux X (λx lo hi H Q=>∃z,x = .str z/\z.length<=sizeLine/\Q (.str<|Txt.slice z lo hi) H):=by
 intro f s σ H x v p r w y A Q I n a o g h;obtain⟨z,rfl,b,q⟩:=h;obtain⟨t,rfl⟩:=n;refine⟨"str",_,F.slot_str_getitem.lookup,typeIs_str _ _ _, ?_⟩;cases o with
 |none=>
  cases g with
  |none=>exact wpAny_getItem_str_slice (l:=none) (u:=none) (st:=none) a rfl (post_val_or_str ⟨zzO (Txt.slice_le z _ _) b,λc k=>⟨.str _,H,I.kept λ_ _ e=>e,⟨_,rfl⟩,q⟩⟩)
  |int j d=>exact wpAny_getItem_str_slice (l:=none) (u:=some (j,d)) (st:=none) a rfl (post_val_or_str ⟨zzO (Txt.slice_le z _ _) b,λc k=>⟨.str _,H,I.kept λ_ _ e=>e,⟨_,rfl⟩,q⟩⟩)
 |int i m=>
  cases g with
  |none=>exact wpAny_getItem_str_slice (l:=some (i,m)) (u:=none) (st:=none) a rfl (post_val_or_str ⟨zzO (Txt.slice_le z _ _) b,λc k=>⟨.str _,H,I.kept λ_ _ e=>e,⟨_,rfl⟩,q⟩⟩)
  |int j d=>exact wpAny_getItem_str_slice (l:=some (i,m)) (u:=some (j,d)) (st:=none) a rfl (post_val_or_str ⟨zzO (Txt.slice_le z _ _) b,λc k=>⟨.str _,H,I.kept λ_ _ e=>e,⟨_,rfl⟩,q⟩⟩)
def Jd:D->Option Int->Option Int->Option R0
 | .str z,lo,hi=>if z.length<=sizeLine then some (.im<|.str<|Txt.slice z lo hi)else none
 |_,_,_=>none
def t_:ux X (λx lo hi H Q=>∃O d r,(∀a,O a->H a≠none)/\Vw X.K kd O H x d/\Jd d lo hi=some r/\RQ X.K kd O H Q r):=by
 intro b s σ H x v f g i j k Q I l m n o h;obtain⟨O,d,r,t,p,e,q⟩:=h;unfold Jd at e
 split at e
 . obtain⟨c,rfl⟩:=zT e;cases p;exact J0 b s σ H _ v f g i j k Q I l m n o ⟨_,rfl,c,ym q<|.str _⟩
 . cases e
def Bq{lo hi}(ha:AE X kd a fa)(hl:AO X kd lo fl)(hh:AO X kd hi fh):AE X kd (.Subscript a (.Slice lo hi none p2) pos) (ZW fa fl fh Jd):=by with_unfolding_all exact(yH (NA t_ ha hl hh) λσ H Q h=>by
 obtain⟨F,B,O,as,r,s,R,e,q⟩:=h;obtain⟨⟨p,c⟩,t,e⟩:=bS_<|e;obtain⟨⟨l,b⟩,x,e⟩:=bS_ e;obtain⟨⟨u,y⟩,A,e⟩:=bS_ e;obtain⟨⟨d,P⟩,C,e⟩:=bS_ e;obtain⟨D,E,e⟩:=bS_ e;obtain⟨z,G,e⟩:=bS_ e;cases e;refine x_ R t λv f S I g J=>⟨F,B,f,c,l,b,I,x,λi T R2 n=>⟨F,B,i,b,u,_,R2,A,λj U k o=>?_⟩⟩;exact⟨_,d,D,k.tr _,xh.vw k ((g.grow n).grow o) C,E,wJ k G λw K L M m N=>q w K j L M m<|((J.trans n).trans o).trans N⟩)
end
def LC:List D->Option R0
 | [.int i,.int j]=>if 0<j/\j<1073741824 then some (.im<|.tup [.int<|i/j,.int<|i%j])else none
 |_=>none
def oz{α:Type}{P:List α->Prop}(h:∀a,P [a]):∀us:List α,us.length=1->P us
 | [a],_=>h a
def oT{α:Type}{P:List α->Prop}(h:∀a b,P [a,b]):∀us:List α,us.length=2->P us
 | [a,b],_=>h a b
def p9{α:Type}{P:List α->Prop}(h:∀a b c,P [a,b,c]):∀us:List α,us.length=3->P us
 | [a,b,c],_=>h a b c
def p8{α:Type}{P:List α->Prop}(h:∀a b c d,P [a,b,c,d]):∀us:List α,us.length=4->P us
 | [a,b,c,d],_=>h a b c d
def om{α:Type}{P:List α->Prop}(h:∀a b c d e,P [a,b,c,d,e]):∀us:List α,us.length=5->P us
 | [a,b,c,d,e],_=>h a b c d e
section
variable{X:Cx}{kd:KD}
def Bz:Y8 X kd (.builtin "divmod") LC:=by
 intro a s σ H j c Q I r h;obtain⟨O,k,z,d,e,b,q⟩:=h;unfold LC at b
 split at b
 . obtain⟨f,rfl⟩:=zT b;obtain⟨x,y,rfl,g,i⟩:=IQ e;cases g;cases i;exact MF a s σ H _ c Q I r ⟨_,_,rfl,f,Tv d q<|.cons (.int _)<|.cons (.int _) .nil⟩
 . cases b
def aI:AE X kd (.Constant (.int c) j pos) (fC<|.int c):=KU M6 λ_ _=>.int _
def aS:AE X kd (.Constant (.str c) j pos) (fC<|.str c):=KU Aq λ_ _=>.str _
def aZ:AE X kd (.Constant .none j pos) (fC .non):=KU DY λ_ _=>.non
def aB:AE X kd (.Constant (.bool c) j pos) (fC<|.bl c):=KU sy λ_ _=>.bl _
def ax{K}(hkd:vk P w K kd)(ha:AE X kd a fa)(hb:AE X kd b fb)(h1:X.prog=P:=by rfl)(h2:X.w=w:=by rfl)(h3:X.K=K:=by rfl)(hm:Zy b:=by exact λ_ _=>rfl):AE X kd (.Subscript a b pos) (f2 fa fb zk):=Jn (rV<|hkd _ h1 h2 h3) ha hb hm
def sv(z)(i:Nat)(hN:X.N.Nodup)(he:AE X kd e fa)(hi:X.N[i]? = some x:=by rfl)(hx:Loc X.env.scope x:=by first|exact Or.inl rfl|exact Or.inr rfl)(hs:swapsWith e (some<|.Name x pos') pos.line X.env=pure false:=by rfl)(hf:X.fn x=true\/X.env.scope.names.lookup x=some .local:=by first|exact Or.inl rfl|exact Or.inr rfl):
 Ks X kd (.Assign [.Name x pos'] e pos) (zz z i fa):=Oz hN hi hx he hs hf
def an(i:Nat)(hN:X.N.Nodup)(hi:X.N[i]? = some x:=by rfl)(hx:Loc X.env.scope x:=by first|exact Or.inl rfl|exact Or.inr rfl)(hf:X.fn x=true\/X.env.scope.names.lookup x=some .local:=by first|exact Or.inl rfl|exact Or.inr rfl):AG X kd (.Name x pos) [i] (gN i):=FN hN hi hx hf
def av(i:Nat)(hN:X.N[i]? = some x:=by rfl)(hv:sX X.env.scope x:=by first|exact Or.inl rfl|exact Or.inr (Or.inl rfl)|exact Or.inr (Or.inr rfl))(hd:(x==("__debug__":Str))=false:=by decide)
 (hcd:(x==("__classdict__":Str))=false:=by decide):AE X kd (.Name x pos) (fV i):=DX<|Og hN hv hd hcd
end
structure CI(K:zzA)(kd:KD)(mg:Str->Option Value)(c:Str)(C:Addr):Prop where
 eq:kd.c c=C
 cl:Cls K C
 mks:W.makesIn K C=true
 kp:W.keepIn K (.ref C)=true
 mg:mg c=some (.ref C)
def VH(hit:s.heap.IsTupleIter it l i)(hl:s.heap.IsTuple l items)(hx:items[i]? = some x)
 (h:∀h':Heap,h'.IsTupleIter it l (i+1)->Heap.SameBut it s.heap h'->Q x {s with heap:=h'}):wpAny (model prog w) A (Builtin.SmallTypes.nextOf<|.ref it) Q E s:=by
 obtain⟨o,ho,hc,hd⟩:=id hit;obtain⟨ol,hol,hcl,nl,hdl⟩:=hl;refine zxG<|wpAny_callSpecial?_slot hit.typeIs F.slot_tuple_iterator_next<|zxQ F.slot_tuple_iterator_next hit.typeIs F.entry_tuple_iterator_next ?_;unfold Builtin.«tuple_iterator.__next__»
 wp_walk using wpAny_field ho hd rfl,wpAny_seqItems hol hdl
 rw[hdl]
 wp_walk
 rw[zyI,hx];refine zxG<|wpAny_setField ho hd (by simp) ?_;refine zxH ⟨x,rfl,zxH<|h _ ⟨_,zxO _ ho<|Obj.isFreed_of_fields<|Obj.data_mapFields hd _,(Obj.cls_mapFields o _).trans hc,(Obj.data_mapFields hd _).trans<|by simp[rawInt]⟩<|Heap.SameBut.update _ _ _⟩
def Q4(hh:A.handled=none)(hit:s.heap.IsTupleIter it l i)(hl:s.heap.IsTuple l items)(hx:items[i]? = none)
 (h:∀(h':Heap) (e:Addr),Heap.ExtBut it s.heap h'->(∃o,h'.get? e=some o/\o.cls = .type "StopIteration")->E (.ref e) {s with heap:=h'}):wpAny (model prog w) A (Builtin.SmallTypes.nextOf<|.ref it) Q E s:=by
 obtain⟨o,ho,hc,hd⟩:=id hit;obtain⟨ol,hol,hcl,nl,hdl⟩:=hl;refine zxG<|wpAny_callSpecial?_slot hit.typeIs F.slot_tuple_iterator_next<|zxQ F.slot_tuple_iterator_next hit.typeIs F.entry_tuple_iterator_next ?_;unfold Builtin.«tuple_iterator.__next__»
 wp_walk using wpAny_field ho hd rfl,wpAny_seqItems hol hdl
 rw[hdl]
 wp_walk
 rw[zyI,hx];refine zxG (wpAny_rule<|zxG<|wpAny_setField ho hd (by simp) ?_)
 wp_walk
 refine wpAny_raiseNew_none hh<|h _ _ (((Heap.SameBut.update _ _ _).extBut.push _).push _) ⟨_,zxK _ rfl,rfl⟩
def Xc(b:Bool)(h:Heap)(it l:Addr)(k:Nat):Prop:=if b=true then h.IsTupleIter it l k else h.IsListIter it l k
def RC(b:Bool)(h:Heap)(l:Addr)(xs:Array Value):Prop:=if b=true then h.IsTuple l xs else h.IsList l xs
def wA:∀{b:Bool},Xc b s.heap it l i->RC b s.heap l items->items[i]? = some x->
 (∀h':Heap,Xc b h' it l (i+1)->Heap.SameBut it s.heap h'->Q x {s with heap:=h'})->wpAny (model prog w) A (Builtin.SmallTypes.nextOf<|.ref it) Q E s
 |true,h1,h2,h3,h4=>VH h1 h2 h3 h4
 |false,h1,h2,h3,h4=>wpAny_nextOf_list_item h1 h2 h3 h4
def Yn(hh:A.handled=none):∀{b:Bool},Xc b s.heap it l i->RC b s.heap l items->items[i]? = none->
 (∀(h':Heap) (e:Addr),Heap.ExtBut it s.heap h'->(∃o,h'.get? e=some o/\o.cls = .type "StopIteration")->E (.ref e) {s with heap:=h'})->wpAny (model prog w) A (Builtin.SmallTypes.nextOf<|.ref it) Q E s
 |true,h1,h2,h3,h4=>Q4 hh h1 h2 h3 h4
 |false,h1,h2,h3,h4=>wpAny_nextOf_list_end hh h1 h2 h3 h4
def Xc.ext:∀{b:Bool},Xc b h it l k->Heap.ExtBut a h h'->it≠a->Xc b h' it l k
 |true,x,e,n=>Heap.IsTupleIter.extBut x e n
 |false,x,e,n=>Heap.IsListIter.extBut x e n
def RC.ext:∀{b:Bool},RC b h l xs->Heap.ExtBut a h h'->l≠a->RC b h' l xs
 |true,x,e,n=>Heap.IsTuple.extBut x e n
 |false,x,e,n=>Heap.IsList.extBut x e n
def Xc.at(k':∀o,h.get? it=some o->h'.get? it=some o):∀{b:Bool},Xc b h it l k->Xc b h' it l k
 |true,⟨o,e,c⟩=>⟨o,k' o e,c⟩
 |false,⟨o,e,c⟩=>⟨o,k' o e,c⟩
theorem Xc.push(x:Xc b h it l k):Xc b (h.push o) it l k:=x.at λ_ e=>zxI _ e
def Ge(h:Q (s.heap.get? a) s):wpAny M A (loadIfAlive a) Q E s:=λΓ p hΓ=>by
 unfold loadIfAlive;rw[Sem.wp_loadIfAlive];exact zxH h Γ p hΓ
def Lh(h:Heap)(z TI TO:Addr)(f0:Value)(f1:Bool):Prop:=h.get? z=some {cls:=.type "zip",data:=.fields #[f0,.bool f1,.bool false,.ref TI,.ref TO]}
def Zf(f0:Value):Prop:=f0 = .none\/∃n:Int,f0=rawInt n
def FQ{prog}{w}{A}{E}{s}{z TI TO}{f0}{f1}{Q}(hz:Lh s.heap z TI TO f0 f1)(hf:Zf f0)(h1:Q true s)(h2:∀h' f1',Lh h' z TI TO f0 f1'->Heap.SameBut z s.heap h'->Q false {s with heap:=h'}):
 wpAny (model prog w) A (Builtin.SmallTypes.ownedTupleIsFree<|.ref z) Q E s:=by
 rcases hf with rfl|⟨n,rfl⟩
 . exact zxG<|wpAny_field hz rfl rfl<|zxH h1
 . refine zxG<|wpAny_field hz rfl rfl ?_;refine zxG<|Ge ?_;cases e:s.heap.get? n.toNat with
   |none=>exact zxH h1
   |some o=>
    rw[if_neg<|by simp];refine zxG<|wpAny_field hz rfl rfl ?_;cases f1 with
    |true=>exact zxH (h2 s.heap true hz<|Heap.SameBut.refl _ _)
    |false=>exact zxG (wpAny_setField_rec hz (by simp) λh' hz' hs=>zxH<|h2 h' true hz' hs)
def HP{b1 b2}{prog}{w}{A}{E}{s}{z TI TO i1 i2 l1 l2}{k1 k2:Nat}{xs ys}{x y a b f0}{f1}{Q:Value->Shared->Prop}(D:ZipApart z TI TO i1 i2 l1 l2)
 (hz:Lh s.heap z TI TO f0 f1) (hf:Zf f0) (hTI:IsPair s.heap TI (.ref i1) (.ref i2)) (hTO:IsPair s.heap TO a b) (h1:Xc b1 s.heap i1 l1 k1) (h2:Xc b2 s.heap i2 l2 k2) (q1:RC b1 s.heap l1 xs) (q2:RC b2 s.heap l2 ys) (hx:xs[k1]? = some x) (hy:ys[k2]? = some y)
 (h:∀(h':Heap) (g0:Value) (g1:Bool),Lh h' z TI TO g0 g1->Zf g0->(∃p q,IsPair h' TO p q)->Xc b1 h' i1 l1 (k1+1)->Xc b2 h' i2 l2 (k2+1)->IsPair h' s.heap.objs.size x y->(∀c o,c≠z->c≠TO->c≠i1->c≠i2->s.heap.get? c=some o->h'.get? c=some o)->Q (.ref s.heap.objs.size) {s with heap:=h'}):
 wpAny (model prog w) A (Builtin.«zip.__next__» {pos:=[.ref z]}) (λfin s'=>∃v,fin=Fin.done (Flow.ret v)/\Q v s') E s:=by
 change wpAny (model prog w) A (bind (field (.ref z) 2) _) _ E s;refine zxG<|wpAny_field hz rfl rfl ?_;change wpAny (model prog w) A (bind (field (.ref z) 3) _) _ E s;refine zxG<|wpAny_field hz rfl rfl<|zxG<|wpAny_seqItems hTI rfl ?_;refine zxG<|FQ hz hf ?_ λh₁ g1 z1 hs₁=>?_
 . rw[if_pos rfl];refine zxG<|wpAny_rule<|zxG<|wpAny_field hz rfl rfl ?_;refine zxG<|wpAny_setField_rec hz (by simp) λh₁ hz₁ hs₁=>?_;refine zxG ?_;rw[show(#[Value.ref i1,Value.ref i2].toList.zipIdx)=[(Value.ref i1,0),(Value.ref i2,1)]from rfl,List.forIn_cons];have x1:=h1.ext hs₁.extBut D.i1z;have y1:=q1.ext hs₁.extBut D.l1z;refine zxG<|zxG<|wpAny_onRaise ?_;refine zxG<|wA x1 y1 hx λh₂ x2 hs₂=>zxH ?_;have t2:IsPair h₂ TO a b:=hs₂.extBut TO _ D.TOi1<|hs₁.extBut TO _ D.TOz hTO;refine zxG<|wpAny_seqItems t2 rfl<|zxG<|wpAny_updateSeq_pair t2 λh₃ t3 hs₃=>?_;refine zxG<|wpAny_letGo<|zxH ?_;have x3:=((h2.ext hs₁.extBut D.i2z).ext hs₂.extBut D.i12.symm).ext hs₃.extBut D.TOi2.symm;have y3:=((q2.ext hs₁.extBut D.l2z).ext hs₂.extBut D.l2i1).ext hs₃.extBut D.l2TO;change wpAny (model prog w) A (forIn [(Value.ref i2,1)] _ _) _ E _;rw[List.forIn_cons];refine zxG<|zxG<|wpAny_onRaise ?_;refine zxG<|wA x3 y3 hy λh₄ x4 hs₄=>zxH ?_;have t4:IsPair h₄ TO x b:=hs₄.extBut TO _ D.TOi2 t3;refine zxG<|wpAny_seqItems t4 rfl<|zxG<|wpAny_updateSeq_pair t4 λh₅ t5 hs₅=>?_;refine zxG<|wpAny_letGo<|zxH ?_;change wpAny (model prog w) A (forIn [] _ _) _ E _;rw[List.forIn_nil];refine zxH ?_;have t5:IsPair h₅ TO x y:=t5;refine zxG<|wpAny_seqItems t5 rfl<|zxG<|wpAny_newTuple ?_;have e5:h₅.objs.size=s.heap.objs.size:=hs₅.1.trans<|hs₄.1.trans<|hs₃.1.trans<|hs₂.1.trans hs₁.1;have z1:Lh h₁ z TI TO .ellipsis f1:=hz₁;have z5:Lh h₅ z TI TO .ellipsis f1:=hs₅.extBut z _ D.TOz.symm<|hs₄.extBut z _ D.i2z.symm<|hs₃.extBut z _ D.TOz.symm<|hs₂.extBut z _ D.i1z.symm z1;refine zxG ?_;refine zxG<|wpAny_setField_rec (s:={s with heap:=h₅.push {cls:=.type "tuple",data:=.seq #[x,y]}}) (zxI _ z5) (by simp) λh₇ z7 hs₇=>?_;refine wpAny_setField_rec z7 (by simp) λh₆ z6 hs₆'=>zxH ⟨_,rfl, ?_⟩;have hs₆:=hs₇.trans hs₆';have lt:=λc o q n=>hs₆.extBut c o n<|zxI _ q;have nz:h₅.objs.size≠z:=λe=>by
    have:=zxJ z5;rw[<-e]at this;exact Nat.lt_irrefl _ this
   show Q (.ref h₅.objs.size) {s with heap:=h₆};rw[e5];refine h h₆ (rawInt (h₅.objs.size:Int)) false z6 (.inr ⟨_,rfl⟩) ⟨_,_,lt TO _ t5 D.TOz⟩ ?_ ?_ ?_ λc o c1 c2 c3 c4 q=>?_
   . have:=((x2.ext hs₃.extBut D.TOi1.symm).ext hs₄.extBut D.i12).ext hs₅.extBut D.TOi1.symm;exact(Xc.push this).ext hs₆.extBut D.i1z
   . exact(Xc.push<|x4.ext hs₅.extBut D.TOi2.symm).ext hs₆.extBut D.i2z
   . rw[<-e5];exact hs₆.extBut _ _ nz<|zxK _ rfl
   . exact lt c o (hs₅.extBut c o c2<|hs₄.extBut c o c4<|hs₃.extBut c o c2<|hs₂.extBut c o c3<|hs₁.extBut c o c1 q) c1
 . rw[if_neg<|by simp];change wpAny (model prog w) A (bind (forIn #[Value.ref i1,Value.ref i2] _ _) _) _ E _;rw[<-Array.forIn_toList,show #[Value.ref i1,Value.ref i2].toList=[Value.ref i1,Value.ref i2]from rfl,List.forIn_cons];have x1:=h1.ext hs₁.extBut D.i1z;have y1:=q1.ext hs₁.extBut D.l1z;refine zxG<|zxG<|zxG<|zxM ?_;refine zxG<|wA x1 y1 hx λh₂ x2 hs₂=>zxH<|zxH ?_;change wpAny (model prog w) A (forIn [Value.ref i2] _ _) _ E _;rw[List.forIn_cons];have x3:=(h2.ext hs₁.extBut D.i2z).ext hs₂.extBut D.i12.symm;have y3:=(q2.ext hs₁.extBut D.l2z).ext hs₂.extBut D.l2i1;refine zxG<|zxG<|zxM ?_;refine zxG<|wA x3 y3 hy λh₄ x4 hs₄=>zxH<|zxH ?_;change wpAny (model prog w) A (forIn [] _ _) _ E _;rw[List.forIn_nil];refine zxH<|zxG<|wpAny_newTuple ?_ (show 2<=sizeLine by decide);refine zxH ⟨_,rfl, ?_⟩;have e4:h₄.objs.size=s.heap.objs.size:=hs₄.1.trans<|hs₂.1.trans hs₁.1;have z4:Lh h₄ z TI TO f0 g1:=hs₄.extBut z _ D.i2z.symm<|hs₂.extBut z _ D.i1z.symm z1;have t4:IsPair h₄ TO a b:=hs₄.extBut TO _ D.TOi2<|hs₂.extBut TO _ D.TOi1<|hs₁.extBut TO _ D.TOz hTO;rw[e4];refine h _ f0 g1 (zxI _ z4) hf ⟨_,_,zxI _ t4⟩ (Xc.push<|x2.ext hs₄.extBut D.i12) (Xc.push x4) ?_ λc o c1 c2 c3 c4 q=>zxI _<|hs₄.extBut c o c4<|hs₂.extBut c o c3<|hs₁.extBut c o c1 q;rw[<-e4];exact zxK _ rfl
def CS{b1 b2}{prog}{w}{A}{E}{s}{z TI TO i1 i2 l1 l2}{k1 k2:Nat}{xs ys}{a b f0}{f1}{Q}(hh:A.handled=none)(D:ZipApart z TI TO i1 i2 l1 l2)
 (hz:Lh s.heap z TI TO f0 f1) (hf:Zf f0) (hTI:IsPair s.heap TI (.ref i1) (.ref i2)) (hTO:IsPair s.heap TO a b) (h1:Xc b1 s.heap i1 l1 k1) (h2:Xc b2 s.heap i2 l2 k2) (q1:RC b1 s.heap l1 xs) (q2:RC b2 s.heap l2 ys) (hx:xs[k1]? = none\/ys[k2]? = none)
 (h:∀(h':Heap) (e:Addr),(∀c o,c≠z->c≠TO->c≠i1->c≠i2->s.heap.get? c=some o->h'.get? c=some o)->(∃o,h'.get? e=some o/\o.cls = .type "StopIteration")->E (.ref e) {s with heap:=h'}):
 wpAny (model prog w) A (Builtin.«zip.__next__» {pos:=[.ref z]}) Q E s:=by
 have fin:∀(h':Heap) (e:Addr),(∃f g,Lh h' z TI TO f g)->(∀c o,c≠z->c≠TO->c≠i1->c≠i2->s.heap.get? c=some o->h'.get? c=some o)->(∃o,h'.get? e=some o/\o.cls = .type "StopIteration")->
  wpAny (model prog w) A (setField (.ref z) 0 Value.none) (λ_ s''=>E (.ref e) s'') E {s with heap:=h'}:=λh' e ⟨f,g,hf⟩ kk ⟨o,ho,hc⟩=>by
  refine wpAny_setField_rec (s:={s with heap:=h'}) hf (by simp) λh'' z'' hs=>?_;have ne:e≠z:=λe'=>by
   subst e';have:=(show h'.get? e=some _ from hf).symm.trans ho;cases this;exact absurd (show Value.type "zip"=Value.type "StopIteration" from hc) (by decide)
  exact h h'' e (λc o c1 c2 c3 c4 q=>hs.extBut c o c1<|kk c o c1 c2 c3 c4 q) ⟨o,hs.extBut e o ne ho,hc⟩
 change wpAny (model prog w) A (bind (field (.ref z) 2) _) _ E s;refine zxG<|wpAny_field hz rfl rfl ?_;change wpAny (model prog w) A (bind (field (.ref z) 3) _) _ E s;refine zxG<|wpAny_field hz rfl rfl<|zxG<|wpAny_seqItems hTI rfl ?_;refine zxG<|FQ hz hf ?_ λh₁ g1 z1 hs₁=>?_
 . rw[if_pos rfl];refine zxG<|wpAny_rule<|zxG<|wpAny_field hz rfl rfl ?_;refine zxG<|wpAny_setField_rec hz (by simp) λh₁ hz₁ hs₁=>?_;refine zxG ?_;rw[show(#[Value.ref i1,Value.ref i2].toList.zipIdx)=[(Value.ref i1,0),(Value.ref i2,1)]from rfl,List.forIn_cons];have z1:Lh h₁ z TI TO .ellipsis f1:=hz₁;have x1:=h1.ext hs₁.extBut D.i1z;have y1:=q1.ext hs₁.extBut D.l1z;refine zxG<|zxG<|wpAny_onRaise ?_;cases e1:xs[k1]? with
   |none=>exact zxG (Yn hh x1 y1 e1 λh' e ex ho=>fin h' e ⟨_,_,ex z _ D.i1z.symm z1⟩ (λc o c1 c2 c3 c4 q=>ex c o c3<|hs₁.extBut c o c1 q) ho)
   |some x=>
    have hy:ys[k2]? = none:=hx.resolve_left (by rw[e1];simp);refine zxG<|wA x1 y1 e1 λh₂ x2 hs₂=>zxH ?_;have t2:IsPair h₂ TO a b:=hs₂.extBut TO _ D.TOi1<|hs₁.extBut TO _ D.TOz hTO;refine zxG<|wpAny_seqItems t2 rfl<|zxG<|wpAny_updateSeq_pair t2 λh₃ t3 hs₃=>?_;refine zxG<|wpAny_letGo<|zxH ?_;have x3:=((h2.ext hs₁.extBut D.i2z).ext hs₂.extBut D.i12.symm).ext hs₃.extBut D.TOi2.symm;have y3:=((q2.ext hs₁.extBut D.l2z).ext hs₂.extBut D.l2i1).ext hs₃.extBut D.l2TO;change wpAny (model prog w) A (forIn [(Value.ref i2,1)] _ _) _ E _;rw[List.forIn_cons];refine zxG<|zxG<|wpAny_onRaise ?_;exact zxG<|Yn hh x3 y3 hy λh' e ex ho=>fin h' e ⟨_,_,ex z _ D.i2z.symm<|hs₃.extBut z _ D.TOz.symm<|hs₂.extBut z _ D.i1z.symm z1⟩
     (λc o c1 c2 c3 c4 q=>ex c o c4<|hs₃.extBut c o c2<|hs₂.extBut c o c3<|hs₁.extBut c o c1 q) ho
 . rw[if_neg<|by simp];change wpAny (model prog w) A (bind (forIn #[Value.ref i1,Value.ref i2] _ _) _) _ E _;rw[<-Array.forIn_toList,show #[Value.ref i1,Value.ref i2].toList=[Value.ref i1,Value.ref i2]from rfl,List.forIn_cons];have x1:=h1.ext hs₁.extBut D.i1z;have y1:=q1.ext hs₁.extBut D.l1z;refine zxG<|zxG<|zxG<|zxM ?_;cases e1:xs[k1]? with
   |none=>exact zxG (Yn hh x1 y1 e1 λh' e ex ho=>h h' e (λc o c1 c2 c3 c4 q=>ex c o c3<|hs₁.extBut c o c1 q) ho)
   |some x=>
    have hy:ys[k2]? = none:=hx.resolve_left (by rw[e1];simp);refine zxG<|wA x1 y1 e1 λh₂ x2 hs₂=>zxH<|zxH ?_;change wpAny (model prog w) A (forIn [Value.ref i2] _ _) _ E _;rw[List.forIn_cons];have x3:=(h2.ext hs₁.extBut D.i2z).ext hs₂.extBut D.i12.symm;have y3:=(q2.ext hs₁.extBut D.l2z).ext hs₂.extBut D.l2i1;refine zxG<|zxG<|zxM ?_;exact zxG<|Yn hh x3 y3 hy λh' e ex ho=>h h' e (λc o c1 c2 c3 c4 q=>ex c o c4<|hs₂.extBut c o c3<|hs₁.extBut c o c1 q) ho
def Np{b1 b2}{prog}{w}{A}{E}{s}{z TI TO i1 i2 l1 l2}{k1 k2:Nat}{xs ys}{x y a b f0}{f1}{Q}(D:ZipApart z TI TO i1 i2 l1 l2)
 (hz:Lh s.heap z TI TO f0 f1) (hf:Zf f0) (hTI:IsPair s.heap TI (.ref i1) (.ref i2)) (hTO:IsPair s.heap TO a b) (h1:Xc b1 s.heap i1 l1 k1) (h2:Xc b2 s.heap i2 l2 k2) (q1:RC b1 s.heap l1 xs) (q2:RC b2 s.heap l2 ys) (hx:xs[k1]? = some x) (hy:ys[k2]? = some y)
 (h:∀(h':Heap) (g0:Value) (g1:Bool),Lh h' z TI TO g0 g1->Zf g0->(∃p q,IsPair h' TO p q)->Xc b1 h' i1 l1 (k1+1)->Xc b2 h' i2 l2 (k2+1)->IsPair h' s.heap.objs.size x y->(∀c o,c≠z->c≠TO->c≠i1->c≠i2->s.heap.get? c=some o->h'.get? c=some o)->Q (some<|.ref s.heap.objs.size) {s with heap:=h'}):
 wpAny (model prog w) A (pyNext<|.ref z) Q E s:=by
 have hT:s.TypeIs (.ref z) "zip":=⟨_,hz,rfl⟩;exact zxG<|wpAny_attempt<|wpAny_callSpecial?_slot hT F.slot_zip_next<|zxQ F.slot_zip_next hT F.entry_zip_next (HP D hz hf hTI hTO h1 h2 q1 q2 hx hy λh' g0 g1 a1 a2 a3 a4 a5 a6 a7=>zxH<|h h' g0 g1 a1 a2 a3 a4 a5 a6 a7)<|F.args_zip_next_1 _
def NT{b1 b2}{prog}{w}{A}{E}{s}{z TI TO i1 i2 l1 l2}{k1 k2:Nat}{xs ys}{a b f0}{f1}{Q}(hh:A.handled=none)(D:ZipApart z TI TO i1 i2 l1 l2)
 (hz:Lh s.heap z TI TO f0 f1) (hf:Zf f0) (hTI:IsPair s.heap TI (.ref i1) (.ref i2)) (hTO:IsPair s.heap TO a b) (h1:Xc b1 s.heap i1 l1 k1) (h2:Xc b2 s.heap i2 l2 k2) (q1:RC b1 s.heap l1 xs) (q2:RC b2 s.heap l2 ys) (hx:xs[k1]? = none\/ys[k2]? = none)
 (h:∀h':Heap,(∀c o,c≠z->c≠TO->c≠i1->c≠i2->s.heap.get? c=some o->h'.get? c=some o)->Q none {s with heap:=h'}):wpAny (model prog w) A (pyNext<|.ref z) Q E s:=by
 have hT:s.TypeIs (.ref z) "zip":=⟨_,hz,rfl⟩;exact zxG<|wpAny_attempt<|wpAny_callSpecial?_slot hT F.slot_zip_next<|zxQ F.slot_zip_next hT F.entry_zip_next (CS hh D hz hf hTI hTO h1 h2 q1 q2 hx λh' e hk ⟨o,ho,hc⟩=>zxG<|wpAny_isInstance ⟨o,ho,hc⟩ isSubtype_stop<|zxH<|h h' hk)<|F.args_zip_next_1 _
def BW{prog}{w}{A}{E}{s}{z TI TO T}{f0}{f1}{Q}(tg)(hz:Lh s.heap z TI TO f0 f1)(hf:Zf f0)
 (h:∀(h':Heap) (g0:Value),Lh h' z TI TO g0 f1->Zf g0->Heap.SameBut z s.heap h'->Q () {s with heap:=h'}):wpAny (model prog w) A (letOwnedTupleGo tg (.ref z)<|.ref T) Q E s:=by
 have no:wpAny (model prog w) A (pure ()) Q E s:=zxH<|h s.heap f0 hz hf<|Heap.SameBut.refl _ _;have go:wpAny (model prog w) A (bind (load z) λo=>match o.cls,o.data with
  |Value.type n,Data.fields vs=>if(["enumerate","zip","dict_itemiterator","dict_reverseitemiterator","odict_iterator","itertools.zip_longest","itertools.pairwise"].contains n&&vs[0]? == some (rawInt (T:Int)))=true then(do rule "for.unpacks-the-owned-tuple";updateField z 0 Value.none)else pure ()
  |_,_=>pure ()) Q E s:=by
  refine zxG<|wpAny_load hz ?_;show wpAny _ A (if _ then _ else _) Q E s
  split
  . refine zxG<|wpAny_rule ?_;exact wpAny_setField_rec hz (by simp) λh' z' hs=>h h' .none z' (.inl rfl) hs
  . exact no
 cases tg with
 |Tuple elts k pos=>exact go
 |List elts pos=>exact go
 |_=>exact no
def ZA(b:Bool)(l:Addr):Obj:={cls:=.type (if b=true then "tuple_iterator" else "list_iterator"),data:=.fields #[.ref l,.int 0 0]}
def Nk:∀{b:Bool},RC b s.heap l xs->Q (.ref s.heap.objs.size) {s with heap:=s.heap.push (ZA b l)}->wpAny (model prog w) A (pyIter<|.ref l) Q E s
 |true,h1,h2=>wpAny_pyIter_tuple h1 h2
 |false,h1,h2=>wpAny_pyIter_list h1 h2
def RC.at(k:∀o,h.get? l=some o->h'.get? l=some o):∀{b:Bool},RC b h l xs->RC b h' l xs
 |true,⟨o,e,c⟩=>⟨o,k o e,c⟩
 |false,⟨o,e,c⟩=>⟨o,k o e,c⟩
def SA(l1 l2)(xs ys):Meets (Builtin.«zip.__new__» {pos:=[.type "zip",.ref l1,.ref l2]}) λ_ R s=>RC b1 s.heap l1 xs/\RC b2 s.heap l2 ys/\
 ∀h':Heap,Lh h' (s.heap.objs.size+4) (s.heap.objs.size+2) (s.heap.objs.size+3) .none false->IsPair h' (s.heap.objs.size+2) (.ref s.heap.objs.size) (.ref<|s.heap.objs.size+1)->IsPair h' (s.heap.objs.size+3) .none .none->Xc b1 h' s.heap.objs.size l1 0->Xc b2 h' (s.heap.objs.size+1) l2 0->
  (∀c o,s.heap.get? c=some o->h'.get? c=some o)->R (.ok<|.ret<|.ref<|s.heap.objs.size+4) {s with heap:=h'}:=
 .of_wp λprog w A R s h=>by
  obtain⟨hp,g,d,tk,os⟩:=s;obtain⟨hl1,hl2,h⟩:=h;have hsub:=sub_zip;have p1:∀{Q:Value->Shared->Prop}{E:Value->Shared->Prop}{A:Around},Q (.ref hp.objs.size) ⟨hp.push<|ZA b1 l1,g,d,tk,os⟩->wpAny (model prog w) A (pyIter<|.ref l1) Q E ⟨hp,g,d,tk,os⟩:=λh=>Nk hl1 h;have p2:∀{Q:Value->Shared->Prop}{E:Value->Shared->Prop}{A:Around},Q (.ref (hp.push<|ZA b1 l1).objs.size) ⟨(hp.push<|ZA b1 l1).push<|ZA b2 l2,g,d,tk,os⟩->wpAny (model prog w) A (pyIter<|.ref l2) Q E ⟨hp.push<|ZA b1 l1,g,d,tk,os⟩:=λh=>Nk (s:=⟨hp.push<|ZA b1 l1,g,d,tk,os⟩) (hl2.at λo e=>zxI _ e) h
  wp_walk using p1,p2
  refine⟨_,rfl, ?_⟩;have s1:(hp.push<|ZA b1 l1).objs.size=hp.objs.size+1:=zxN _ _;have s2:((hp.push<|ZA b1 l1).push<|ZA b2 l2).objs.size=hp.objs.size+2:=(zxN _ _).trans (congrArg (· + 1) s1);generalize hh2:(hp.push<|ZA b1 l1).push (ZA b2 l2)=h2 at s2 ⊢;have i1:Xc b1 h2 hp.objs.size l1 0:=by
   have:h2.get? hp.objs.size=some (ZA b1 l1):=by rw[<-hh2];exact zxI _<|zxK _ rfl
   cases b1<;>exact⟨_,this,rfl,rfl⟩
  have i2:Xc b2 h2 (hp.objs.size+1) l2 0:=by
   have:h2.get? (hp.objs.size+1)=some (ZA b2 l2):=by rw[<-hh2,<-s1];exact zxK _ rfl
   cases b2<;>exact⟨_,this,rfl,rfl⟩
  have kp:∀c o,hp.get? c=some o->h2.get? c=some o:=λc o q=>by rw[<-hh2];exact zxI _<|zxI _ q
  rw[s1];change R (.ok<|.ret<|.ref ((h2.push {cls:=.type "tuple",data:=.seq #[.ref hp.objs.size,.ref<|hp.objs.size+1]}).push {cls:=.type "tuple",data:=.seq #[.none,.none]}).objs.size)
   ⟨((h2.push {cls:=.type "tuple",data:=.seq #[.ref hp.objs.size,.ref<|hp.objs.size+1]}).push {cls:=.type "tuple",data:=.seq #[.none,.none]}).push {cls:=.type "zip",data:=.fields #[.none,.bool false,.bool false,.ref h2.objs.size,.ref (h2.push {cls:=.type "tuple",data:=.seq #[.ref hp.objs.size,.ref<|hp.objs.size+1]}).objs.size]},g,d,tk,os⟩
  have g3:=zxK h2 (o:={cls:=.type "tuple",data:=.seq #[.ref hp.objs.size,.ref<|hp.objs.size+1]}) rfl;have s3:(h2.push {cls:=.type "tuple",data:=.seq #[.ref hp.objs.size,.ref<|hp.objs.size+1]}).objs.size=hp.objs.size+3:=(zxN _ _).trans (congrArg (· + 1) s2);rw[s2]at g3;rw[s2,s3];have k3:∀c o,h2.get? c=some o->(h2.push {cls:=.type "tuple",data:=.seq #[.ref hp.objs.size,.ref<|hp.objs.size+1]}).get? c=some o:=λc o q=>zxI _ q;generalize (h2.push {cls:=.type "tuple",data:=.seq #[.ref hp.objs.size,.ref<|hp.objs.size+1]})=h3 at *;have g4:=zxK h3 (o:={cls:=.type "tuple",data:=.seq #[.none,.none]}) rfl;have s4:(h3.push {cls:=.type "tuple",data:=.seq #[.none,.none]}).objs.size=hp.objs.size+4:=(zxN _ _).trans (congrArg (· + 1) s3);have k4:∀c o,h3.get? c=some o->(h3.push {cls:=.type "tuple",data:=.seq #[.none,.none]}).get? c=some o:=λc o q=>zxI _ q;rw[s3]at g4;rw[s4];generalize (h3.push {cls:=.type "tuple",data:=.seq #[.none,.none]})=h4 at *;have g5:=zxK h4 (o:={cls:=.type "zip",data:=.fields #[.none,.bool false,.bool false,.ref<|hp.objs.size+2,.ref<|hp.objs.size+3]}) rfl;rw[s4]at g5;exact h _ g5 (zxI _<|k4 _ _ g3) (zxI _ g4) (i1.at λo e=>zxI _<|k4 _ _<|k3 _ _ e) (i2.at λo e=>zxI _<|k4 _ _<|k3 _ _ e) λc o q=>zxI _<|k4 _ _<|k3 _ _<|kp c o q
def BK(hl1:RC b1 s.heap l1 xs)(hl2:RC b2 s.heap l2 ys)
 (h:∀h':Heap,Lh h' (s.heap.objs.size+4) (s.heap.objs.size+2) (s.heap.objs.size+3) .none false->IsPair h' (s.heap.objs.size+2) (.ref s.heap.objs.size) (.ref<|s.heap.objs.size+1)->IsPair h' (s.heap.objs.size+3) .none .none->Xc b1 h' s.heap.objs.size l1 0->Xc b2 h' (s.heap.objs.size+1) l2 0->
  (∀c o,s.heap.get? c=some o->h'.get? c=some o)->Q (.ref<|s.heap.objs.size+4) {s with heap:=h'}):wpAny (model prog w) A (call (.type "zip") [.ref l1,.ref l2]) Q E s:=
 callType_new F.called_zip (by decide) (F.typeCall_zip_2 _ _) (F.newCall_zip_2 _ _) (λobj=>F.args_object_init_3 obj _ _) F.entry_zip_new (SA l1 l2 xs ys)
  ⟨hl1,hl2,λh' a1 a2 a3 a4 a5 a6=>⟨⟨_,a1,rfl⟩,h h' a1 a2 a3 a4 a5 a6⟩⟩
def UO{prog}{w}{A}{E}{s}{z TI TO}{f0}{f1}{Q}(hz:Lh s.heap z TI TO f0 f1)(h:Q (.ref z) s):wpAny (model prog w) A (pyIter<|.ref z) Q E s:=by
 have hT:s.TypeIs (.ref z) "zip":=⟨_,hz,rfl⟩;exact wpAny_pyIter_slot hT F.slot_zip_iter<|zxQ F.slot_zip_iter hT F.entry_zip_iter (zxH ⟨.ref z,rfl,"zip",.builtin "zip.__next__",hT,F.slot_zip_next.lookup,h⟩)<|F.args_zip_iter_1 _
def Ng(K:zzA)(H:Hp):Bool->Addr->List V->Prop
 |true,a,xs=>Qy K H a xs
 |false,a,xs=>YM K H a xs
def Ng.ok(I:Inv X pins σ H s):∀{b:Bool}{a:Addr}{xs:List V},Ng X.K H b a xs->∃its:List Value,ya xs its/\RC b s.heap a its.toArray
 |true,a,xs,h=>by obtain⟨its,rv,p,_⟩:=I.tuple h;exact⟨its,rv,p⟩
 |false,a,xs,h=>by obtain⟨its,rv,p,_⟩:=I.list h;exact⟨its,rv,p.isList⟩
def Ng.inj(I:Inv X pins σ H s):∀{b:Bool}{a:Addr}{xs ys:List V},Ng X.K H b a xs->Ng X.K H b a ys->xs=ys
 |true,_,_,_,h,h'=>I.tuple_inj h h'
 |false,_,_,_,h,h'=>I.list_inj h h'
def RC.ex:∀{b:Bool},RC b h l xs->∃o,h.get? l=some o
 |true,⟨o,e,_⟩=>⟨o,e⟩
 |false,⟨o,e,_⟩=>⟨o,e⟩
def Xc.ex:∀{b:Bool},Xc b h it l k->∃o,h.get? it=some o/\∀v,o.data ≠ .cell v
 |true,⟨o,e,_,d⟩=>⟨o,e,λv z=>by rw[d]at z;cases z⟩
 |false,⟨o,e,_,d⟩=>⟨o,e,λv z=>by rw[d]at z;cases z⟩
def DI(K:zzA)(b1 b2:Bool)(a b:Addr):It:=
 ⟨λi H=>∃xs ys x y,Ng K H b1 a xs/\Ng K H b2 b ys/\xs[i]? = some x/\ys[i]? = some y,
  λi H v H'=>∃T x y,H T=none/\v = .ref T/\H'=upd H T (.tup [x,y])/\(∀xs,Ng K H b1 a xs->xs[i]? = some x)/\∀ys,Ng K H b2 b ys->ys[i]? = some y,
  λi H=>∃xs ys,Ng K H b1 a xs/\Ng K H b2 b ys/\(xs.length<=i\/ys.length<=i)⟩
def BX{P}{w}{K}{tg}{b1 b2}(a b z TI TO i1 i2)(D:ZipApart z TI TO i1 i2 a b):Turn P w K tg (DI K b1 b2 a b) [z,TI,TO,i1,i2] z
 (λi h=>(∃f0 f1,Lh h z TI TO f0 f1/\Zf f0)/\IsPair h TI (.ref i1) (.ref i2)/\(∃p q,IsPair h TO p q)/\Xc b1 h i1 a i/\Xc b2 h i2 b i)where
 mem:=by simp
 obj:=λi h st c hc=>by
  obtain⟨⟨f0,f1,hz,_⟩,hTI,⟨p,q,hTO⟩,h1,h2⟩:=st;simp only[zzC,zxC,or_false]at hc
  rcases hc with rfl|rfl|rfl|rfl|rfl
  . exact⟨_,hz,λv z=>by cases z⟩
  . exact⟨_,hTI,λv z=>by cases z⟩
  . exact⟨_,hTO,λv z=>by cases z⟩
  . exact h1.ex
  . exact h2.ex
 keep:=λi h h' st kk=>by
  obtain⟨⟨f0,f1,hz,hf⟩,hTI,⟨p,q,hTO⟩,h1,h2⟩:=st;exact⟨⟨f0,f1,kk z (by simp) _ hz,hf⟩,kk TI (by simp) _ hTI,⟨p,q,kk TO (by simp) _ hTO⟩,h1.at λo e=>kk i1 (by simp) o e,h2.at λo e=>kk i2 (by simp) o e⟩
 item:=by
  intro X hP hw hK hc i pins s σ H E I hf st hg;subst hP hw hK;obtain⟨xs,ys,x,y,hq,hr,hx,hy⟩:=hg;obtain⟨its,rv,p⟩:=hq.ok I;obtain⟨jts,rw',p'⟩:=hr.ok I;obtain⟨u,hu,ru⟩:=rv.get hx;obtain⟨u',hu',ru'⟩:=rw'.get hy;obtain⟨⟨f0,f1,hz,zf⟩,hTI,⟨pp,qq,hTO⟩,h1,h2⟩:=st;refine Np D hz zf hTI hTO h1 h2 p p' (by simpa using hu) (by simpa using hu') λh' g0 g1 z' zf' to' i1' i2' pr kk=>⟨_,rfl,BW tg z' zf' λh9 e0 z2 zf2 hs=>?_⟩;have hn:=I.hok.fresh<|zzN _;have fr:∀c o,s.heap.get? c=some o->c≠s.heap.objs.size:=λc o e z=>by
   have:=zxJ e;rw[z]at this;exact Nat.lt_irrefl _ this
  have nz:=(fr z _ hz).symm;have k2:∀c o,c ∉ [z,TI,TO,i1,i2]->s.heap.get? c=some o->h9.get? c=some o:=λc o hb q=>by
   simp only[zzC,zxC,or_false,not_or]at hb;exact hs.extBut c o hb.1<|kk c o hb.1 hb.2.2.1 hb.2.2.2.1 hb.2.2.2.2 q
  have hTI2:=hs.extBut TI _ D.TIz<|kk TI _ D.TIz D.TITO D.TIi1 D.TIi2 hTI;obtain⟨p1,q1,to1⟩:=to';refine⟨.ref s.heap.objs.size,upd H s.heap.objs.size<|.tup [x,y],YK (s:=s) (t':=s.toks) I hf k2 (zzN _) ⟨by show 2<=sizeLine;decide,[u,u'],.cons ru<|.cons ru' .nil,⟨_,hs.extBut _ _ nz pr,rfl,_,rfl⟩⟩,rfl,
   ⟨_,x,y,hn,rfl,rfl,λq hq'=>by rw[Ng.inj I hq' hq];exact hx,λq hq'=>by rw[Ng.inj I hq' hr];exact hy⟩,⟨⟨e0,g1,z2,zf2⟩,hTI2,⟨p1,q1,hs.extBut TO _ D.TOz to1⟩,i1'.ext hs.extBut D.i1z,i2'.ext hs.extBut D.i2z⟩,λc hc=>?_⟩
  have hcT:c≠s.heap.objs.size:=by
   simp only[zzC,zxC,or_false]at hc
   rcases hc with rfl|rfl|rfl|rfl|rfl
   . exact fr _ _ hz
   . exact fr _ _ hTI
   . exact fr _ _ hTO
   . obtain⟨o,e,_⟩:=h1.ex;exact fr _ _ e
   . obtain⟨o,e,_⟩:=h2.ex;exact fr _ _ e
  rw[zX hcT];exact(hf c hc).1
 done:=by
  intro X hP hw hK hc i pins s σ H E I hf st hg;subst hP hw hK;obtain⟨xs,ys,hq,hr,hx⟩:=hg;obtain⟨its,rv,p⟩:=hq.ok I;obtain⟨jts,rw',p'⟩:=hr.ok I;have hl:=rv.length;have hl':=rw'.length;obtain⟨⟨f0,f1,hz,zf⟩,hTI,⟨pp,qq,hTO⟩,h1,h2⟩:=st;refine NT (I.ok.hd hc) D hz zf hTI hTO h1 h2 p p' (hx.imp (λh=>by simp;omega) λh=>by simp;omega) λh' eb=>⟨rfl,P8 (t':=s.toks) I hf λc o hc q=>?_⟩;simp only[zzC,zxC,or_false,not_or]at hc;exact eb c o hc.1 hc.2.2.1 hc.2.2.2.1 hc.2.2.2.2 q
 self:=λ_ _ _ _ _ st h=>let⟨⟨_,_,hz,_⟩,_⟩:=st;UO hz h
section
variable{X:Cx}{tg:Expr}
def AQ(K:zzA)(ta:TA):TI:=λσ H R=>ta σ H λvs H1=>∃a b b1 b2,vs=[.ref a,.ref b]/\(∃xs,Ng K H1 b1 a xs)/\(∃ys,Ng K H1 b2 b ys)/\R (DI K b1 b2 a b) H1
def Ic{l l'}{ta}{p pos}(hg:Gl X "zip")(hm:X.mg "zip"=none)(ha:PA X [l,l'] ta)(hs:starEach [l,l'] X.env=[(false,eval l X.env),(false,eval l' X.env)])(hs2:starEach [l'] X.env=[(false,eval l' X.env)]):
 PI X tg (.Call (.Name "zip" p) [l,l'] [] pos) (AQ X.K ta):=by
 intro pins s σ H R I h;refine Call_ (Ze I hg hm boot_zip<|PyProof.Rows.callWith_type1 (thn (ha pos pins s σ H _ I h) λus s1 ⟨vs,H1,I1,r1,q1⟩=>?_) (by rw[hs,hs2])<|by rw[hs2];rfl);obtain⟨a,b,b1,b2,rfl,⟨xs,hq⟩,⟨ys,hr⟩,q⟩:=q1;cases r1 with
 |cons r rr=>
  cases rr with
  |cons r' rr=>
   cases rr;cases r;cases r';obtain⟨its,rv,pl⟩:=hq.ok I1;obtain⟨jts,rw',pl'⟩:=hr.ok I1;obtain⟨o1,ho1⟩:=pl.ex;obtain⟨o2,ho2⟩:=pl'.ex;refine BK pl pl' λh' hZ hTI hTO hi1 hi2 hk=>?_;refine UO hZ ⟨s1.heap.objs.size+4,[s1.heap.objs.size+4,s1.heap.objs.size+2,s1.heap.objs.size+3,s1.heap.objs.size,s1.heap.objs.size+1],_,_,H1,rfl,I1.kept (t':=s1.toks) hk,BX a b _ _ _ _ _<|Kv _ _ _ (zxJ ho1)<|zxJ ho2,⟨⟨_,_,hZ,.inl rfl⟩,hTI,⟨_,_,hTO⟩,hi1,hi2⟩,λc hc=>?_,q⟩;have hb':s1.heap.objs.size<=c:=by
    simp only[zzC,zxC,or_false]at hc
    rcases hc with rfl|rfl|rfl|rfl|rfl<;>first|exact zzN _|exact Nat.le_add_right _ _
   exact I1.fpOk hb'<|I1.hok.fresh hb'
end
section
variable{X:Cx}{kd:KD}{tg e:Expr}{fa:EF}
def C1{K}{F}{H}{a b}{b1 b2}{vs ws}{st}{ds es}(ft:∀a,F a->H a≠none)(hs:∀H3:Hp,(∀b u,H b=some u->H3 b=some u)->Ng K H3 b1 a vs)(hs':∀H3:Hp,(∀b u,H b=some u->H3 b=some u)->Ng K H3 b2 b ws)
 (r:RpL K kd (λa=>st=true/\F a) H vs ds) (r':RpL K kd (λa=>st=true/\F a) H ws es):ItC K kd F H (DI K b1 b2 a b) (v9 st ds es):=⟨λH3 T k hT i=>by
 have hr3:=hs H3 k;have hr4:=hs' H3 k;have hlen:=XG st ds es;have l1:=r.length;have l2:=r'.length;refine⟨λhi=>?_,λhi=>⟨_,_,hr3,hr4,by omega⟩,λv H4 hy=>?_⟩
 . obtain⟨u,hu,_⟩:=r.get<|zzE (show i<ds.length by omega);obtain⟨u',hu',_⟩:=r'.get<|zzE (show i<es.length by omega);exact⟨_,_,u,u',hr3,hr4,hu,hu'⟩
 . obtain⟨A,x,y,hn,rfl,rfl,hv,hv'⟩:=hy;have hnH:H A=none:=by
    cases e:H A with
    |none=>rfl
    |some u=>rw[k A u e]at hn;cases hn
   refine⟨xU hn,λq hq=>?_⟩;obtain⟨d,e,hd,he,rfl⟩:=Z4 hq;obtain⟨u,hu,ru⟩:=r.get hd;obtain⟨u',hu',ru'⟩:=r'.get he;have:=hv _ hr3;rw[hu]at this;cases this;have:=hv' _ hr4;rw[hu']at this;cases this;have up:∀{v:V}{d:D},Rp K kd (λa=>st=true/\F a) H v d->Rp K kd (λa=>st=true/\(F a\/T a)) (upd H3 A<|.tup [x,y]) v d:=λrp=>
    (rp.since (λb o q=>xU hn b o<|k b o q) λa z=>(hT a z).1).less λa z=>z.2.elim (λy=>.inl ⟨z.1,y⟩) .inr
   exact .tup (λz=>z.2.elim (λy=>ft A y hnH) λy=>(hT A y).2 hn) yy<|.cons (up ru)<|.cons (up ru') .nil⟩
def DR:RV->Option (Bool×Bool×List D)
 | .ow (.lf s (.lst l))=>some (s,false,l)
 | .ow (.lf s (.tup l))=>some (s,true,l)
 |_=>none
def NN(fr:AF):IF:=λas=>(fr as).bind λp=>(Iw p.1).bind λo=>(DR o.1).bind λa=>(DR o.2).bind λb=>some (v9 (a.1&&b.1) a.2.2 b.2.2,p.2)
def Be{K}{F B}{ad}{σ}{H}{v}{r}{x}(e:DR r=some x)(rv:xh K kd F B [] ad σ H v r):∃a vs,v = .ref a/\Ng K H x.2.1 a vs/\(∀H3:Hp,(∀b u,¬Gw [] ad b->H b=some u->H3 b=some u)->Ng K H3 x.2.1 a vs)/\RpL K kd (Lv F B (Gw [] ad) x.1) H vs x.2.2:=by
 cases r with
 |bo i=>cases e
 |ow o=>
  cases o with
  |nd k os=>cases e
  |lf s d=>
   cases rv with
   |lf rp=>
    cases rp with
    |lst hn hr rl=>
     cases e;refine⟨_,_,rfl,.inl hr,λH3 k=>?_,rl⟩
     rcases hr with hr|⟨o,hr⟩
     . exact .inl<|.inl<|k _ _ (λz=>hn<|.inr z) hr
     . exact .inl (.inr ⟨o,k _ _ (λz=>hn<|.inr z) hr⟩)
    |lstK a b c rl=>cases e;exact⟨_,_,rfl,.inr ⟨_,_,_,a,rfl,rfl,rfl,b,c⟩,λH3 k=>.inr ⟨_,_,_,a,rfl,rfl,rfl,b,c⟩,rl⟩
    |tup hn hr rl=>
     cases e;exact⟨_,_,rfl,.inl<|.inl hr,λH3 k=>.inl<|.inl<|k _ _ (λz=>hn<|.inr z) hr,rl⟩
    |_=>cases e
def Cy{l l'}{fr}{p pos}(hg:Gl X "zip")(hm:X.mg "zip"=none)(ha:AA X kd [l,l'] fr)(hs:starEach [l,l'] X.env=[(false,eval l X.env),(false,eval l' X.env)])(hs2:starEach [l'] X.env=[(false,eval l' X.env)]):
 CV X kd tg (.Call (.Name "zip" p) [l,l'] [] pos) (NN fr):=by
 with_unfolding_all (
 intro pins s σ H R I h;obtain⟨F,B,ad,as,ds,as',Rl,e',q⟩:=h;obtain⟨⟨rs,as1⟩,h1,e'⟩:=bS_<|e';obtain⟨⟨o1,o2⟩,e1,e'⟩:=bS_ e';obtain⟨x1,e2,e'⟩:=bS_ e';obtain⟨x2,e3,e'⟩:=bS_ e';cases Lc e1;cases e';refine Ic hg hm ha hs hs2 pins s σ H R I ⟨F,B,ad,as,_,as1,Rl,h1,λvs ad1 H1 R1 rv1 g1=>?_⟩;cases rv1 with
 |cons r1 rr=>
  cases rr with
  |cons r2 rr=>
   cases rr;obtain⟨a,vs,rfl,sa,ka,ra⟩:=Be e2 r1;obtain⟨b,ws,rfl,sb,kb,rb⟩:=Be e3 r2;refine⟨a,b,_,_,rfl,⟨_,sa⟩,⟨_,sb⟩,q _ ad1 H1 R1 g1<|C1 (R1.trk true) (λH3 k=>ka H3 λb u n h=>k b u h) (λH3 k=>kb H3 λb u n h=>k b u h) (ra.less λa z=>?_)<|rb.less λa z=>?_⟩
   . have z1:=(Bool.and_eq_true_iff.mp z.1).1;rw[z1];exact z.2
   . have z1:=(Bool.and_eq_true_iff.mp z.1).2;rw[z1];exact z.2)
end
def Gk(h:n<=1000000):n<=sizeLine:=zzO h (by decide)
section
variable{as:AS}{f fo a b:EF}{fr:AF}{s t:Bool}{x y z d:D}{c m:Str}{ns cs:List Str}{ds:List D}{tbl:List (Str×Fn)}{g:Fn}{o:O}
inductive SqD:D->List D->Prop
 |l (ds:List D):SqD (.lst ds) ds
 |t (ds:List D):SqD (.tup ds) ds
theorem vD(st):∀(xs ys:List D),v9 st xs ys=(xs.zip ys).map λq=>(st,.tup [q.1,q.2])
 | [],_=>rfl
 |_::_,[]=>rfl
 |x::r,y::t=>congrArg (_ :: ·)<|vD st r t
def V_(ha:WE a as x)(hb:WE b as y)(hx:SqD x xs)(hy:SqD y ys):NN (aC a<|aC b aN) as=some ((xs.zip ys).map λq=>(true,.tup [q.1,q.2]),as):=by
 have h:=Zq ha<|Zq hb zq;unfold WA at h;unfold NN;rw[h,<-vD];cases hx<;>cases hy<;>rfl
theorem QE:∀(l:List α),(∀q ∈ l,∃as1,gg (it q) as0=some as1/\WE fe as1 (h q))->∃os,xv gg zN fe as0 (l.map it)=some os/\O.strs os=true/\O.toDs os=l.map h
 | [],_=>⟨[],rfl,rfl,rfl⟩
 |q::l,H=>by
  obtain⟨a,d,e,f⟩:=QE l λp m=>H p<|zzD _ m;obtain⟨b,g,o,i,c,j⟩:=H q zzF;refine⟨o::a, ?_,by show(o.str&&O.strs a)=true;rw[c,e];rfl,by show o.toD::O.toDs a=_;rw[j,f];rfl⟩;show xv gg zN fe as0 (it q::l.map it)=_;unfold xv;rw[g];show((fe b).bind _)=_;rw[i];show(if o.str=true then _ else _)=_;rw[if_pos c,d];rfl
theorem GY:∀(l:List α),(∀q ∈ l,∃as1,gg (it q) as0=some as1/\WT tt as1 (p q)/\(p q=true->WE fe as1 (h q)))->∃os,xv gg tt fe as0 (l.map it)=some os/\O.strs os=true/\O.toDs os=(l.filter p).map h
 | [],_=>⟨[],rfl,rfl,rfl⟩
 |q::l,H=>by
  obtain⟨c,d,e,f⟩:=GY l λp m=>H p<|zzD _ m;obtain⟨a,g,b,j⟩:=H q zzF;cases hp:p q with
  |false=>
   rw[hp]at b;refine⟨c,GZ g b d,e, ?_⟩;rw[List.filter_cons_of_neg<|by simp[hp]];exact f
  |true=>
   rw[hp]at b;obtain⟨o,k,i,n⟩:=j hp;refine⟨o::c, ?_,by show(o.str&&O.strs c)=true;rw[i,e];rfl, ?_⟩
   . unfold WT at b;show xv gg tt fe as0 (it q::l.map it)=_;unfold xv;rw[g];show(tt a).bind _=_;rw[b];show((fe a).bind _)=_;rw[k];show(if o.str=true then _ else _)=_;rw[if_pos i,d];rfl
   . rw[List.filter_cons_of_pos hp];show o.toD::O.toDs c=_;rw[n,f];rfl
def Nv{os}(h1:fi as=some (xs,as))(hl:xs.length<=1000000)(h2:xv gg tt fe (vB cap as) xs=some os)(hs:O.strs os=true)(e:O.toDs os=zs):WE (zr fi cap gg tt fe) as (.lst zs):=by
 refine⟨.nd .ls os, ?_,hs,congrArg D.lst e⟩;unfold zr;rw[h1];show(if xs.length<=sizeLine then _ else _)=_;rw[if_pos<|Gk hl,h2];rfl
def yx(l:List α)(h1:fi as=some (l.map it,as))(hl:l.length<=1000000)(H:∀q ∈ l,∃as1,gg (it q) (vB cap as)=some as1/\WE fe as1 (h q)):WE (zr fi cap gg zN fe) as (.lst<|l.map h):=by
 obtain⟨d,a,b,c⟩:=QE l H;exact Nv h1 (by rw[zzB];exact hl) a b c
def E1(l:List α)(h1:fi as=some (l.map it,as))(hl:l.length<=1000000)(H:∀q ∈ l,∃as1,gg (it q) (vB cap as)=some as1/\WT tt as1 (p q)/\(p q=true->WE fe as1 (h q))):WE (zr fi cap gg tt fe) as (.lst<|(l.filter p).map h):=by
 obtain⟨d,a,b,c⟩:=GY l H;exact Nv h1 (by rw[zzB];exact hl) a b c
def FU{g}(ha:WE a as x)(hg:g [x]=some (.im z)):WE (fP (aC a aN) g) as z:=WD.e<|ZU ha hg
def um{os}(h:WO fd as os)(hl:os.length<=1000000)(hs:O.strs os=true)(e:O.toDs os=zs):WE (yh fd) as (.tup zs):=by
 refine⟨Wj os,El h<|Gk hl, ?_, ?_⟩
 . unfold Wj;split
   . exact hs
   . exact hs
 . subst e;unfold Wj;split
   . rfl
   . rfl
def sF{os}(h:WE a as x)(hr:WO fd as os):∃o,o.str=true/\o.toD=x/\WO (dC a fd) as (o::os):=by
 obtain⟨o,b,c,d⟩:=h;exact⟨o,c,d,Zp b hr⟩
def wH(ha:WE a as x)(hb:WE b as y):WE (yh<|dC a<|dC b dN) as (.tup [x,y]):=by
 obtain⟨p,c,rfl,d⟩:=sF hb zR;obtain⟨o,e,rfl,f⟩:=sF ha d;exact um f (by show 2<=_;omega) (by show(o.str&&(p.str&&true))=true;rw[e,c];rfl) rfl
def H_{g}(ha:WE a as x)(hb:WE b as y)(hg:g x y=some (.im z)):WE (f2 a b g) as z:=WD.e<|Sf ha hb hg
end
open AutoSeq1 (wpAny_loadPart')
section
variable{X:Cx}{kd:KD}
def J5(x:D)(lo hi:Option Int):Option R0:=(Il x).bind λxs=>if lo=none/\hi=some (-1)then some (.fl xs.reverse)else none
theorem NS:∀r:List Value,(List.range r.length).filterMap (λk=>r[k]?)=r
 | []=>rfl
 |a::r=>by
  rw[zzT,List.range_succ_eq_map,List.filterMap_cons,List.filterMap_map];show a::(List.range r.length).filterMap (λk=>r[k]?)=_;rw[NS r]
theorem Xr:∀{l:List α},(∀a ∈ l,f a=g a)->l.filterMap f=l.filterMap g
 | [],_=>rfl
 |a::l,h=>by rw[List.filterMap_cons,List.filterMap_cons,h a zzF,Xr λb hb=>h b<|zzD _ hb]
def OC(l:List Value):slicePick l.toArray none none (some (-1))=l.reverse.toArray:=by
 have e:sliceBounds none none (some (-1)) l.toArray.size=((l.length:Int)-1, -1, -1):=by
  rw[zzH];rfl
 unfold slicePick;rw[e];have e2:(sliceRange ((l.length:Int)-1) (-1) (-1))=(List.range l.length).map λk=>l.length-1-k:=by
  unfold sliceRange;rw[if_neg<|by decide]
  rcases Nat.eq_zero_or_pos l.length with h|h
  . rw[h];rfl
  . rw[if_pos (by omega),Int.neg_neg,Int.ediv_one];have:((l.length:Int)-1 - -1 - -1-1).toNat=l.length:=by omega
    show List.map _ _=_;rw[this];refine List.map_congr_left λk hk=>?_;have:=List.mem_range.mp hk;omega
 rw[e2]
 congr 1
 rw[List.filterMap_map];have e3:(List.range l.length).filterMap (λk=>l.toArray[l.length-1-k]?)=(List.range l.reverse.length).filterMap (λk=>l.reverse[k]?):=by
  rw[List.length_reverse];refine Xr λk hk=>?_;rw[List.getElem?_reverse<|List.mem_range.mp hk];simp
 exact e3.trans<|NS _
def Ii{K}{O}{H}{vs}{ds}(r:RpL K kd O H vs ds):RpL K kd O H vs.reverse ds.reverse:=RpL.ind (P:=λvs ds=>RpL K kd O H vs.reverse ds.reverse) .nil (λa _ ih=>by
 rw[List.reverse_cons,List.reverse_cons];exact ih.append<|.cons a .nil) r
def Ap{e st}{te}{th}{p2 pos}(he:PE X e te)(hst:PO X (some st) th):PE X (.Subscript e (.Slice none none (some st) p2) pos)
 (p5 (λx lo u H Q=>∃a xs,x = .ref a/\YM X.K H a xs/\u=some (-1)/\∀p,H p=none->Q (.ref p) (upd H p<|.lst xs.reverse)) te E5 th):=by
 intro pins s σ H Q I h;refine Subscript_<|thn (he pins s σ H _ I h) λv s1 ⟨x,H1,I1,r1,q1⟩=>?_;refine wpAny_Slice ?_;rw[evalPart_none];refine zxH<|zxH<|thn (hst pins s1 σ H1 _ I1 q1) λvu s3 ⟨u,H3,I3,pu,q3⟩=>?_;have I4:Inv X pins σ H3 {s3 with heap:=s3.heap.push {cls:=.type "slice",data:=.fields #[.none,.none,vu]}}:=I3.kept (t':=s3.toks) λb ob q=>zxI _ q;obtain⟨a,xs,rfl,hx,rfl,q⟩:=q3;cases r1;obtain⟨its,r',pl,hz⟩:=I4.list hx;have hlen:=r'.length;refine tail_any pl.isList.typeIs slot_list_getitem.lookup (wpAny_getItem_list_slice pl.isList (Heap.IsSliceOf.new ..) .none .none pu (by decide) ?_<|by rw[zzH];omega) (by with_unfolding_all rfl);rw[OC];exact⟨.ref _,_,I4.lnew (t':=s3.toks) r'.reverse (by rw[List.length_reverse];exact hz),rfl,q _ I4.fresh⟩
def DT{a st}{fa fs}{pos p2}(ha:AE X kd a fa)(hs:AE X kd st fs):AE X kd (.Subscript a (.Slice none none (some st) p2) pos) (ZW fa oN (oS fs) J5):=by with_unfolding_all exact(yH (Ap ha<|FO hs) λσ H Q h=>by
 obtain⟨F,B,ad,as,r,as',R,e,q⟩:=h;obtain⟨⟨p,as1⟩,h1,e⟩:=bS_<|e;obtain⟨⟨l,as2⟩,h2,e⟩:=bS_ e;cases h2;obtain⟨⟨u,as3⟩,h3,e⟩:=bS_ e;obtain⟨⟨d,lv⟩,h4,e⟩:=bS_ e;obtain⟨r',h5,e⟩:=bS_ e;obtain⟨z,h6,e⟩:=bS_ e;cases e;obtain⟨xs,h7,h5⟩:=bS_<|h5;obtain⟨c,e5⟩:=zT h5;cases e5;refine x_ R h1 λv ad1 H1 R1 rv1 g1=>⟨F,B,ad1,as1,u,_,R1,h3,λad3 H3 R3 g3=>?_⟩;have vx:=xh.vw R3 (rv1.grow g3) h4;have rq:=wJ R3 h6 λw T' H' R' rv' g'=>q w T' ad3 H' R' rv'<|(g1.trans g3).trans g';cases Xj h7;cases vx with
 |lst hr rl=>exact⟨_,_,rfl,hr.sq,c.2,W8 rq<|Ii rl⟩)
end
def qj(x y:D):Option R0:=match x with
 | .dt ks ds=>(QV y).bind λk=>SU (Gm ks ds k)
 |_=>none
section
variable{X:Cx}{kd:KD}{e a b c o i:Expr}{pos pos':Pos}{fa fb fk fv:EF}
def u7(hu:X.A.units+1<cLine):qr X kd qj:=by
 intro value slice pins s σ H x y v u Q I rx ry h hs;obtain⟨O,d,e,r,ht,vx,vy,he,q⟩:=h;cases vx with
 |dt hH l rl=>
  obtain⟨k,h1,he⟩:=bS_<|show(QV e).bind _=_ from he;obtain⟨d,h2,rfl⟩:=Qm he;cases rx;obtain⟨b,rfl,hb⟩:=RM vy h1
  rcases Td k rl l with⟨v1,d1,e1,e2,rp⟩|⟨e1,e2⟩
  . rw[h2]at e2;cases e2;obtain⟨_,_,_,_,dd⟩:=NZ I.hok<|.inl hH;have g:=NV.t hH hb;rw[e1]at g;exact tail_any dd.typeIs PySem.F.slot_dict_getitem.lookup (B9 hu I g ry λw' s' I' rw'=>⟨v1,H,I',rw',ym q rp⟩) hs
  . rw[h2]at e2;cases e2
 |_=>cases he
end
def Mi{K}{kd}{F}{H}{a}{vs}{st}{ds}(ft:∀a,F a->H a≠none)(hs:∀H3:Hp,(∀b u,H b=some u->H3 b=some u)->YM K H3 a vs)(r:RpL K kd (λa=>st=true/\F a) H vs ds):ItC K kd F H (ql K a) (Y7 st 0 ds):=⟨λH3 T k hT i=>by
 have hr3:=hs H3 k;have hlen:=GW st 0 ds;refine⟨λhi=>?_,λhi=>⟨_,hr3,by rw[r.length];omega⟩,λv H4 hy=>?_⟩
 . obtain⟨u,hu,_⟩:=r.get (zzE<|by rw[<-hlen];exact hi);exact⟨_,u,hr3,hu⟩
 . obtain⟨A,x,hn,rfl,rfl,hv⟩:=hy;have hnH:H A=none:=by
    cases e:H A with
    |none=>rfl
    |some u=>rw[k A u e]at hn;cases hn
   refine⟨xU hn,λy hy=>?_⟩;obtain⟨d,hd,rfl⟩:=G5 hy;obtain⟨u,hu,ru⟩:=r.get hd;have:=hv _ hr3;rw[hu]at this;cases this;rw[zyY];exact .tup (λz=>z.2.elim (λy=>ft A y hnH) λy=>(hT A y).2 hn) yy<|.cons (.int _)<|.cons ((ru.since (λb o q=>xU hn b o<|k b o q) λa z=>(hT a z).1).less λa z=>z.2.elim (λy=>.inl ⟨z.1,y⟩) .inr) .nil⟩
section
variable{X:Cx}{kd:KD}{e:Expr}{fa:EF}{pos pos':Pos}
def I0{p}{elts}{k:Nat}(hg:Gl X "enumerate")(hm:X.mg "enumerate"=none)(he:AE X kd e fa)(hs:starEach [e] X.env=[(false,eval e X.env)]):
 CV X kd (.Tuple elts k pos') (.Call (.Name "enumerate" p) [e] [] pos) (M9 fa):=by
 with_unfolding_all (
 intro pins s σ H R I h;obtain⟨F,B,ad,as,ds,as',Rl,e',q⟩:=h;obtain⟨⟨p,as1⟩,h1,e'⟩:=bS_<|e';obtain⟨⟨⟨st,x⟩,as2⟩,h2,e'⟩:=bS_ e'
 match x,e',h2 with
 | .lst xs,e',h2=>
  cases e';refine Iy hg hm (Yt he QX hs) hs pins s σ H R I<|⟨F,B,ad,as,p,as1,Rl,h1,λv T1 ad1 H1 R1 rv1 g1=>?_⟩;obtain⟨ad2,R2,rp,le⟩:=X8 R1 rv1 h2;cases rp with
  |lst hn hr rl=>exact⟨_,rfl,⟨_,.inl hr⟩,q _ ad2 H1 R2 (g1.trans<|Grow.less le)<|Mi (R2.trk true) (λH3 k=>.inl<|hr.elim (λh=>.inl<|k _ _ h) λ⟨o,h⟩=>.inr ⟨o,k _ _ h⟩)<|rl.less λa z=>by have z1:=z.1;rw[z1];exact z.2⟩
  |lstK a b c rl=>exact⟨_,rfl,⟨_,.inr ⟨_,_,_,a,rfl,rfl,rfl,b,c⟩⟩,q _ ad2 H1 R2 (g1.trans<|Grow.less le)<|Mi (R2.trk true) (λH3 k=>.inr ⟨_,_,_,a,rfl,rfl,rfl,b,c⟩)<|rl.less λa z=>by have z1:=z.1;rw[z1];exact z.2⟩)
end
section
variable{X:Cx}{kd:KD}{P:Program}{w:World}{K:zzA}{a b e o:Expr}{es:List Expr}{fa fb fo:EF}{fr:AF}{fd_:DF}{pos p apos:Pos}{k n:Nat}
def v7(h1:sc.kind = .function:=by rfl)(h2:sc.isCoroutine=false:=by rfl)(h3:sc.isGenerator=false:=by rfl)(h4:N.Nodup:=by decide +kernel)(h5:N.take Ps.length=Ps:=by rfl)(h6:∀x ∈ Ps,sc.names.lookup x=some .local\/sc.names.lookup x=some .cell:=by decide +kernel)(h7:∀y ∈ sc.names,y.2 ≠ .free:=by decide +kernel):FnScope N Ps sc:=⟨h1,h2,h3,h4,h5,h6,h7⟩
def bs{x qual}{st}{f}{fd}{ps}(F:Fun K x qual st f fd)
 (h:∀(kV doc pm:Value) (an:Option Addr) (cdv ct:Value) (us:List Value),us.length=ps.length->bindArgs (W.fnOf x qual (RG st) (YH st) (zw st) .none kV doc pm an cdv ct) ⟨us,[]⟩=pure (ps.zip us):=by first|exact λ_ _ _ _ _ _=>oz λ_=>rfl|exact λ_ _ _ _ _ _=>oT λ_ _=>rfl|exact λ_ _ _ _ _ _=>p9 λ_ _ _=>rfl|exact λ_ _ _ _ _ _=>p8 λ_ _ _ _=>rfl|exact λ_ _ _ _ _ _=>om λ_ _ _ _ _=>rfl|exact λ_ _ _ _ _ _=>l6_ λ_ _ _ _ _ _=>rfl):Binds K fd ps []:=F.binds h
def bc(ha:AE X kd a fa)(hr:AA X kd es fr)(hs:isStar a=false:=by rfl):AA X kd (a::es) (aC fa fr):=CQ ha hr<|Ky hs
def bd(ha:AE X kd a fa)(hr:AD X kd es fd_)(hs:isStar a=false:=by rfl):AD X kd (a::es) (dC fa fd_):=Ip ha hr<|Ky hs
def bn{op}(ha:AE X kd a fa)(hb:AE X kd b fb):AE X kd (.BinOp a op b pos) (f2 fa fb<|Vc op):=Du (Dq op) ha hb
def tc{op}(hkd:vk P w K kd)(hr:Room k X.A)(ha:AE X kd a fa)(hb:AE X kd b fb)(h1:X.prog=P:=by rfl)(h2:X.w=w:=by rfl)(h3:X.K=K:=by rfl)(hm:behindInMarks op b=false:=by exact Hm _):AT X kd (.Compare a [op] [b] pos) (fT<|f2 fa fb<|zt op):=AN (Zk (hkd _ h1 h2 h3) (YS hr) op) (L0 op) ha hb hm
def ec{op}(hkd:vk P w K kd)(hr:Room k X.A)(ha:AE X kd a fa)(hb:AE X kd b fb)(h1:X.prog=P:=by rfl)(h2:X.w=w:=by rfl)(h3:X.K=K:=by rfl)(hm:behindInMarks op b=false:=by exact Hm _):AE X kd (.Compare a [op] [b] pos) (f2 fa fb<|zt op):=Oy (Zk (hkd _ h1 h2 h3) (YS hr) op) ha hb hm
def bi{id}{gg}{x}(hc:Y8 X kd (.builtin id) gg)(hm:X.mg x=none)(hv:bootBuiltins x=some (.builtin id))(ha:AA X kd (e::es) fr)(hg:Gl X x:=by rfl)(hn:x≠"__name__":=by exact Bt.n _ rfl)(hdb:(x==("__debug__":Str))=false:=by decide)
 (he:starEach (e::es) X.env=(false,eval e X.env)::starEach es X.env:=by rfl) (hpl:(backTo pos<|starEach es X.env).any (·.1)=false:=by rfl):AE X kd (.Call (.Name x p) (e::es) [] pos) (fP fr gg):=Dh hc hg hm hv ha hn hdb he hpl
def qh(hc:Y8 X kd (.type T) gg)(hm:X.mg x=none)(hv:bootBuiltins x=some (.type T))(ha:AA X kd (e::es) fr)(hg:Gl X x:=by rfl)(hn:x≠"__name__":=by exact Bt.n _ rfl)(hdb:(x==("__debug__":Str))=false:=by decide)
 (he:starEach (e::es) X.env=(false,eval e X.env)::starEach es X.env:=by rfl) (hpl:(backTo pos<|starEach es X.env).any (·.1)=false:=by rfl):AE X kd (.Call (.Name x p) (e::es) [] pos) (fP fr gg):=Al hc hg hm hv ha hn hdb he hpl
def sj(i:Nat){z}{x}{pos'}{rest}{g}(hN:X.N.Nodup)(he:AE X kd e fa)(h2:EW X kd rest g)(hi:X.N[i]? = some x:=by rfl)(hx:Loc X.env.scope x:=by first|exact Or.inl rfl|exact Or.inr rfl)(hs:swapsWith e (some<|.Name x pos') pos.line X.env=pure false:=by rfl)(hf:X.fn x=true\/X.env.scope.names.lookup x=some .local:=by first|exact Or.inl rfl|exact Or.inr rfl):
 EW X kd (.Assign [.Name x pos'] e pos::rest) (zp (zz z i fa) g):=yS (Oz hN hi hx he hs hf) h2
end
end PF
end
section
namespace PySem
section
variable{prog:Program}{w:World}{K:Type}[DecidableEq K]{knd:HeapKind prog w K}{A:Around}{E:Value->Shared->Prop}{s:Shared}
def OP(hu:knd.room A)(hkey:knd.is s.heap k a)(hm:s.heap.DictOfH knd d xs)
 (h1:∀u,(atKey xs k).map (·.2)=some u->Q u {s with toks:=s.toks+knd.draws k})
 (hQ:atKey xs k=none->∀h',h'.DictOfH knd d (storedH xs k a v)->Heap.SameBut d s.heap h'->Q v {s with heap:=h',toks:=s.toks+knd.draws k})
 (hsz:xs.length<=sizeLine):wpAny (model prog w) A (dictSetDefault d (.ref a) v) Q E s:=by
 obtain⟨o,es,ep,ho,hc,hd,he,his,hn⟩:=hm;unfold dictSetDefault
 try with_reducible refine zxM ?_
 refine zxG<|knd.pyHash hu hkey<|zxG<|wpAny_dictFind_heap (s:={s with toks:=s.toks+knd.draws k}) hu hkey ho hd he his hn ?_ ?_
 . intro hno;have hnot:k ∉ xs.map (·.1):=not_mem_keys_of_get hno;refine zxG<|wpAny_rule<|zxG<|wpAny_updateDictKeys (hz:=by have e:=size_of_entries he;omega) (s:={s with toks:=s.toks+knd.draws k}) ho hd<|zxH<|hQ (atKey_none_of_get hno) _ ⟨_,_,ep+1,zxO _ ho<|Obj.isFreed_of_dict<|Obj.data_mapDictKeys hd _,
    hc.mapDictKeys _,Obj.data_mapDictKeys hd _, ?_, ?_, ?_⟩<|Heap.SameBut.update ..
   . rw[storedH_new<|atKey_none_of_get hno];simp[he,entryOfKey]
   . rw[storedH_new<|atKey_none_of_get hno];intro x hx
     rcases zzM.mp hx with hx|hx
     . exact knd.keeps (his x hx) ho hd<|Heap.SameBut.update ..
     . simp only[zzR]at hx;subst hx;exact knd.keeps hkey ho hd<|Heap.SameBut.update ..
   . rw[storedH_new<|atKey_none_of_get hno,zyM,zxF];refine⟨hn,by simp, ?_⟩;intro x hx y hy;simp only[zyS,List.map_nil,zzR]at hy;subst hy;exact λe=>hnot<|e ▸ hx
 . intro j p hj;refine zxG<|wpAny_dictEntries (s:={s with toks:=s.toks+knd.draws k}) ho hd ?_;rw[entry_at he j,hj];exact zxG (wpAny_rule<|zxH<|h1 _<|by rw[atKey_of_get hn hj];rfl)
def Ej(knd:HeapKind prog w K)(d a:Addr)(hd:(d==sysModules)=false)(dflt:Value):
 MeetsIn prog w (Builtin.«dict.setdefault» ⟨[.ref d,.ref a,dflt],[]⟩) (λA R s=>knd.room A.in1/\∃k xs,knd.is s.heap k a/\s.heap.DictOfH knd d xs/\xs.length<=sizeLine/\
  (∀u,(atKey xs k).map (·.2)=some u->R (.ok<|.ret u) {s with toks:=s.toks+knd.draws k})/\
  (atKey xs k=none->∀h',h'.DictOfH knd d (storedH xs k a dflt)->Heap.SameBut d s.heap h'->R (.ok<|.ret dflt) {s with heap:=h',toks:=s.toks+knd.draws k})):=
 .of_wp λA R s ⟨hu,k,xs,hkey,hm,hz,h1,h2⟩=>by
  unfold Builtin.«dict.setdefault»;refine zxG ?_;unfold Builtin.Dict.keyAndDefault;refine zxG<|wpAny_notOrdered_dict hm.typeIs ?_;show wpAny _ _ (pure (d,Value.ref a,some dflt)) _ _ s;refine zxH ?_;show wpAny _ _ (if(d==sysModules)=true then _ else(dictSetDefault d (.ref a) dflt >>= _)) _ _ s;rw[if_neg<|by rw[hd];exact zyW];exact zxG<|OP hu hkey hm (λv hv=>zxH ⟨v,rfl,h1 v hv⟩) (λhn h' hm' hs'=>zxH ⟨dflt,rfl,h2 hn h' hm' hs'⟩) hz
end
end PySem
namespace PF
open PySem PySem.Spec PyProof.Rows L2
def rP(x:V)(xs:List V)(H:Hp)(Q:VK):Prop:=∃a kvs k b y,x = .ref a/\xs=[.ref b,y]/\H a=some (.dT kvs)/\KC H b k/\kvs.length<sizeLine/\
 (∀v,wG kvs k=some v->Q v H)/\(wG kvs k=none->Q y (upd H a<|.dT<|putK kvs k y))
section
variable{X:Cx}{kd:KD}
def Ak(hu:X.A.units+1<cLine):tZ X "dict.setdefault" rP:=by
 intro pins s σ H x xs v us Q I rx rv h;obtain⟨a,kvs,k,b,y,rfl,rfl,hH,hb,hz,q1,q2⟩:=h;cases rx;obtain⟨u1,u2,rfl,r1,r2⟩:=rv.two;cases r1;obtain⟨z,hd,ys,rel,dd⟩:=Jp I.hok hH;have hyl:ys.length<=sizeLine:=by rw[<-rel.length];exact z
 refine call_meetsIn PySem.F.slot_dict_setdefault dd.typeIs PySem.F.entry_dict_setdefault (PySem.F.args_dict_setdefault_3 _ _ _) (Ej (tupleKind<|xf X.prog X.w) a b hd u2) ⟨tupleKind_room_in1 hu,k,ys,Tj I.hok hb,dd,hyl,λu hu'=>?_,λhn h' dd' hs=>?_⟩
 . have:=rel.val k;rw[hu']at this;cases hv:wG kvs k with
   |none=>rw[hv]at this;exact absurd this (by intro z;cases z)
   |some w=>
    rw[hv]at this;exact⟨w,H,I.tok _,this,q1 w hv⟩
 . have hv:wG kvs k=none:=by
    have:=rel.val k;rw[hn]at this;cases hv:wG kvs k with
    |none=>rfl
    |some w=>rw[hv]at this;exact absurd this (by intro z;cases z)
   refine⟨y,_, ?_,r2,q2 hv⟩;obtain⟨q,es,ep,hq,h2,h3,h4,_,h5⟩:=dd';refine Cu I (by rw[hH];exact True.intro) hs ⟨q,hq⟩ ⟨?_,hd,_,(rel.put k hb r2).keeps λc ys' ec=>?_,q,es,ep,hq,h2,h3,h4,h5⟩
   . have:(putK kvs k y).length<=kvs.length+1:=by
      unfold putK
      split
      . rw[zzB];omega
      . rw[zzJ];exact zzN _
     omega
   . rw[zX<|u0 ec hH (λz=>nomatch z)];exact ec
def pw:List O->Option (O×Bool×D)
 | [ok,.lf st d]=>some (ok,st,d)
 |_=>none
def Bu(i:Nat)(fr:DF):SF:=λas=>match as[i]? with
 |some (some (.nd (.dt _) _))=>(fr as).bind λp=>(pw p.1).bind λz=>match p.2[i]? with
  |some (some (.nd (.dt ks) os))=>(QV z.1.toD).bind λk=>if ks.length<sizeLine then some (.nx (if KP ks k=true then p.2 else p.2.set i<|some<|.nd (.dt<|ks++[k])<|os++[.lf z.2.1 z.2.2]))else none
  |_=>none
 |_=>none
def Do{os:List O}{z:O×Bool×D}(h:pw os=some z):os=[z.1,.lf z.2.1 z.2.2]:=by
 match os,h with
 | [ok,.lf st d],h=>cases h;rfl
def Aa{i:Nat}{x:Str}{p apos cpos pos':Pos}{e:Expr}{es:List Expr}{fr:DF}(hu:X.A.units+1<cLine)(ho:PE X (.Name x p) (QM i))(ha:AD X kd (e::es) fr)
 (hbase:attributeBase (.Name x p) "setdefault" X.env (eval (.Name x p) X.env)=eval (.Name x p) X.env)
 (hfew:((backTo cpos<|starEach (e::es) X.env).all (λx=>!x.1)&&(backToKw cpos<|keywordEach [] X.env).all (λx=>x.1.isSome)
  && decide ((e::es).length+([]:List Keyword).length+(if([]:List Keyword).isEmpty then 0 else 1)<30))=true)
 (hline:(apos.endLine==cpos.line)=true) (hs:starEach (e::es) X.env=(false,eval e X.env)::starEach es X.env) (hplain:(backTo cpos<|starEach es X.env).any (·.1)=false)
 (hsw:swapsWith (.Call (.Attribute (.Name x p) "setdefault" apos) (e::es) [] cpos) none pos'.line X.env=pure false):
 Ks X kd (.Expr (.Call (.Attribute (.Name x p) "setdefault" apos) (e::es) [] cpos) pos') (Bu i fr):=by
 with_unfolding_all exact(vM (E4 (Jo PySem.F.plainAttrs_dict PySem.F.slot_dict_setdefault PySem.F.type_dict_setdefault (Ak hu) ho ha hbase hfew hline hs hplain) hsw) λD σ H h=>by
  obtain⟨F,B,ad,as,o,R,e,q⟩:=h;cases k1:as[i]? with
  |none=>unfold Bu at e;rw[k1]at e;cases e
  |some a0=>
   unfold Bu at e;rw[k1]at e
   match a0,e,k1 with
   |some (.nd (.dt ks0) os0),e,k1=>
    obtain⟨⟨os1,as1⟩,h1,e⟩:=bS_<|show(fr as).bind _=_ from e;obtain⟨v0,hs0,ro0⟩:=R.sl i _ k1;generalize hfp0:ad i=fp0 at ro0;cases ro0 with
    |dt hH0 hl0 rl0=>
     rename_i l vs0 fp00;refine⟨_,hs0,.inr<|.inr<|.inl ⟨rfl,.inr ⟨_,hH0⟩⟩,F,B,ad,as,os1,as1,R,h1,λws T1 ad1 H1 R1 ro1 g1=>?_⟩;obtain⟨⟨ok,st,d⟩,h2,e⟩:=bS_ e;cases Do h2;cases k2:as1[i]? with
     |none=>rw[k2]at e;cases e
     |some a2=>
      rw[k2]at e
      match a2,e,k2 with
      |some (.nd (.dt ks) os),e,k2=>
           obtain⟨k,hk,e⟩:=bS_<|show(QV ok.toD).bind _=_ from e;obtain⟨hz,e⟩:=zT e;cases e;have R2:=R1.drop;obtain⟨v1,hs1,ro2⟩:=R2.sl i _ k2;rw[hs0]at hs1;cases hs1;cases ro1 with
           |cons ra rb=>
            rename_i va wb fa fb;cases rb with
            |cons rc rd=>
             rename_i vc we fc fe;cases rd;cases rc with
             |lf rp=>
              have rk:Rp X.K kd (λ_=>False) H1 va ok.toD:=Ro.rp false (λst v d _ r=>Rp.less (λa z=>z.elim) r) (λ_ _ z=>z) (λz=>nomatch z) (λ_ _ z=>z) ra;obtain⟨bk,rfl,hbk⟩:=RM rk.vw hk;generalize hfp:ad1 i=fp1 at ro2;cases ro2 with
              |dt hH hl rl=>
               rename_i vs fp;have hv:KP ks k=(wG (ks.zip vs) k).isSome:=by rw[<-RW,LQ k ks vs hl]
               have gd:=g1.trans<|Grow.less (H:=H1)<|Gw.drop (T:=fa++([]++[])) (ad:=ad1);refine⟨_,ks.zip vs,k,bk,vc,rfl,rfl,hH,hbk,by rw[List.length_zip,hl,Nat.min_self,<-hl];exact hz,λv ev=>?_,λev=>?_⟩
               . rw[ev]at hv;rw[show KP ks k=true from hv,if_pos rfl]at q;exact q σ ad1 H1 R2 gd
               . rw[ev]at hv;have hv:KP ks k=false:=hv;rw[hv,if_neg zyW]at q;have rp2:Zj X.K kd F B (Gw [] ad1) H1 vc (.lf st d) []:=.lf<|Rp.less (λa z=>z.imp id λy=>Gw.drop a y) rp;have rl':vQ X.K kd F B (Gw [] ad1) H1 (vs++[vc]) (os++[.lf st d]) fp:=by have:=rl.append<|RoL.one rp2;rw[zyE]at this;exact this
                 have hnd:=R2.nd i;rw[hfp]at hnd;rw[Hd hl,show F_ ks k=ks++[k] by unfold F_;rw[hv];rfl,show Bg ks vs k vc=vs++[vc] by unfold Bg;rw[hv];rfl];obtain⟨R4,g4⟩:=R2.mut (fo:=[]) (n:=.nd (.dt<|ks++[k])<|os++[.lf st d]) (u:=.dT<|(ks++[k]).zip<|vs++[vc]) (zzG.mp k2).1 hfp hs0 (fp':=fp) (λa m=>m) (by rw[zyE];exact(zzW.mp hnd).2) (by rw[hH];simp) λH' G' hl' gr kp=>.dt hl' (by rw[zzJ,zzJ,hl];rfl)<|vQ.grow gr kp rl';exact q σ _ _ R4<|gd.trans g4)
end
def Tb(ss:List Int):Nat:=(ss.foldl step_dedup []).length
def Hq(ss:List Int):(List.range ss.length).map (λi=>ss.getD i 0)=ss:=by
 refine List.ext_getElem? λi=>?_;rw[zzI]
 by_cases h:i<ss.length
 . rw[zzE (by rw[zyU];exact h),List.getElem_range,zzE h];show some (ss.getD i 0)=_;rw[zyF,zzE h];rfl
 . rw[List.getElem?_eq_none (by rw[zyU];omega),List.getElem?_eq_none<|by omega];rfl
def Ab:bootBuiltins "set"=some (.type "set"):=by decide +kernel
theorem G0:∀{us:List Value}{ss:List Int},IntsAre us ss->us.length=ss.length
 |_,_,.nil=>rfl
 |_,_,.cons _ _ r=>congrArg (· + 1)<|G0 r
section
variable{X:Cx}{kd:KD}
def oJ(K:zzA)(ta:TA):TE:=λσ H Q=>ta σ H λvs H1=>∃r ys ss,vs=[.ref r]/\YM K H1 r ys/\(∀us,ya ys us->IntsAre us ss)/\ss.length<=1000/\Q (.int<|Tb ss) H1
def Bk(hc:X.calm=true)(hg:Gl X "set")(hm:X.mg "set"=none)(hgl:Gl X "len")(hml:X.mg "len"=none)(ha:PA X [a] ta)(hs:starEach [a] X.env=[(false,eval a X.env)])
 (hs':starEach [.Call (.Name "set" p) [a] [] pos] X.env=[(false,eval (.Call (.Name "set" p) [a] [] pos) X.env)]):PE X (.Call (.Name "len" p') [.Call (.Name "set" p) [a] [] pos] [] pos') (oJ X.K ta):=by
 intro pins s σ H Q I h;refine wpAny_Call_Name_kw<|Ze I hgl hml Bt.len<|PyProof.Rows.callWith_builtin1 ?_ hs' rfl;rw[hs'];refine Calls.spliced_cons ?_;refine wpAny_Call_Name_kw<|Ze I hg hm Ab<|PyProof.Rows.callWith_type1 (thn (ha pos pins s σ H _ I h) λus s1 ⟨vs,H1,I1,r1,q1⟩=>?_) hs rfl;obtain⟨r,ys,ss,rfl,sq,hss,hz,q⟩:=q1;cases r1 with
 |cons rr rs=>
  cases rs;cases rr;obtain⟨its,rv,pl,_⟩:=I1.list sq;have hS:=hss its rv;have hl:=G0 hS;refine call_set_list (I1.ok.hd hc) pl.isList (by simpa using hS) (by simp only[zzH];unfold scanBound;omega) λh' tk hSet hk=>?_;refine Calls.spliced_nil ?_;obtain⟨o,es,ep,t,ho,hex,hd,_,_,hb,hf,hn⟩:=hSet;refine call_len_set ho hex hd hf (by unfold scanBound at hb;omega) ?_;have e:es.size=Tb ss:=by
   rw[hn,zzH,hl];unfold PyProof.Rows.firstMet Tb;rw[Hq]
  refine⟨.int<|Tb ss,H1,I1.kept λb u e=>hk b u (zxJ e) e,⟨_,by rw[e]⟩,q⟩
def sY:List D->Option R0:=Dj λx=>(Il x).bind λds=>(Zm ds).bind λss=>if ss.length<=1000 then some (.im<|.int<|Tb ss)else none
def Bl(hc:X.calm=true)(hg:Gl X "set")(hm:X.mg "set"=none)(hgl:Gl X "len")(hml:X.mg "len"=none)(ha:AA X kd [a] fr)(hs:starEach [a] X.env=[(false,eval a X.env)])
 (hs':starEach [.Call (.Name "set" p) [a] [] pos] X.env=[(false,eval (.Call (.Name "set" p) [a] [] pos) X.env)]):AE X kd (.Call (.Name "len" p') [.Call (.Name "set" p) [a] [] pos] [] pos') (fP fr sY):=by
 with_unfolding_all exact(yH (Bk hc hg hm hgl hml ha hs hs') λσ H Q h=>by
  obtain⟨F,B,ad,as,r,as',R,e,q⟩:=h;obtain⟨⟨rs,as1⟩,h1,e⟩:=bS_<|e;obtain⟨⟨ds,lv⟩,h2,e⟩:=bS_ e;obtain⟨r0,h3,e⟩:=bS_ e;obtain⟨z,h4,e⟩:=bS_ e;cases e;refine(⟨F,B,ad,as,rs,as1,R,h1,λvs ad1 H1 R1 rv1 g1=>?_⟩);have vl:=XR R1 rv1 h2;have rq:=wJ R1 h4 λw T' H' R' rv' g'=>q w T' ad1 H' R' rv'<|g1.trans g';obtain⟨x,d,rfl,vx,he⟩:=Q2 vl h3;obtain⟨ds',h0,he2⟩:=bS_<|he;cases Xj h0;obtain⟨ss,k1,he3⟩:=bS_ he2;obtain⟨hz,he4⟩:=zT he3;cases he4;cases vx with
  |lst hr rl=>exact⟨_,_,ss,rfl,hr.sq,λus hv=>XW rl hv k1,hz,ym rq<|.int _⟩)
end
def tF:EF:=λas=>some (.ow<|.nd (.dt []) [],as)
section
variable{X:Cx}{kd:KD}{n:Nat}
def Au:AE X kd (.Dict [] [] pos) tF:=by with_unfolding_all exact(yH Ht λσ H Q h=>by
 obtain⟨F,B,ad,as,r,as',R,e,q⟩:=h;cases e;intro p hp;have k:∀b o,H b=some o->upd H p (.dT []) b=some o:=λb o hb=>by rw[zX<|yC hb hp];exact hb
 obtain⟨R2,g2⟩:=R.news (T':=[p]) (by simp) (λa m=>by rw[zzR.mp m];exact hp) k (λa m=>by rw[zzR.mp m,yy];simp);exact q _ [p] ad _ R2 (.dt yy rfl .nil) g2)
end
structure Co(x:Str)(P:Program)(w:World)(K:zzA)(mg:Str->Option Value)(base:Heap)(kd:KD)(k:Nat)(f:Addr)(d:FuncData)(ps:List Str)(gg:List (Bool×D)->Option O):Prop where
 F:FnOk P w K mg base Sm k f d ps (ui K kd gg)
 m:mg x=some (.ref f)
 kp:W.keepIn K (.ref f)=true
 b:Binds K d ps []
def OR:List Str->List Str->List (Option Nat)->List Str
 |t::ts,XN,none::c=>t::OR ts XN c
 | [],XN,none::c=>""::OR [] XN c
 |ts,XN,some j::c=>XN.getD j ""::OR ts XN c
 |_,_,[]=>[]
def uX:Expr->Str
 | .Name x _=>x
 |_=>""
def JI:Expr->List Str
 | .Tuple es _ _=>es.map uX
 |e=>[uX e]
def uv:Nat->List (Option Nat)->List Nat
 |_,[]=>[]
 |k,none::c=>k::uv (k+1) c
 |k,some _::c=>uv (k+1) c
theorem Ec:∀(c d:List (Option Nat)) (i:Nat),i ∈ uv d.length c->(d++c)[i]? = some none
 | [],_,_,h=>nomatch h
 |none::c,d,i,h=>by
  have ih:=Ec c (d++[none]) i;rw[zzJ,zxD]at ih
  rcases zzC.mp (h)with rfl|h
  . simp
  . exact ih h
 |some x::c,d,i,h=>by
  have ih:=Ec c (d++[some x]) i;rw[zzJ,zxD]at ih;exact ih h
def Sz:(uv 0 cap).all (λi=>cap[i]? == some none)=true:=List.all_eq_true.mpr λi m=>by
 have:=Ec cap [] i m;rw[List.nil_append]at this;rw[this];rfl
def oQ{N:List Str}(h:decide N.Nodup=true):N.Nodup:=of_decide_eq_true h
section
variable{X:Cx}{kd:KD}{elt tg iter e:Expr}{es ifs:List Expr}{scope:Scope}{pos p:Pos}{cap:List (Option Nat)}{g:GF}{tt:TF}{fe:EF}{fi:IF}{S:List Nat}{fr:AF}{k n:Nat}
def cq(C:Co x X.prog X.w X.K X.mg X.base kd k f d ps gg)(hr:Room n X.A)(ha:AA X kd (e::es) fr)(hn:k<=n:=by omega)(hg:Gl X x:=by rfl)(hdb:(x==("__debug__":Str))=false:=by decide)(he:starEach (e::es) X.env=(false,eval e X.env)::starEach es X.env:=by rfl)(hpl:(backTo pos<|starEach es X.env).any (·.1)=false:=by rfl):
 AE X kd (.Call (.Name x p) (e::es) [] pos) (zx fr gg):=IC C.F (hr.mono hn) hg C.m C.kp C.b uT ha hdb he hpl
def oP(h1:AG X kd a [i] g)(h2:JO X kd es S gs)(hs:(assignEach (a::es) X.env).map (·.2)=assign a X.env::(assignEach es X.env).map (·.2):=by rfl):JO X kd (a::es) (i::S) (yd g gs):=vF h1 h2 hs
def uw(X:Cx)(kd:KD)(tg:Expr)(g:GF):Prop:=∃S,AG X kd tg S g
def OV(X:Cx)(kd:KD)(es:List Expr)(gs:JS):Prop:=∃S,JO X kd es S gs
def qC(i:Nat)(hN:X.N.Nodup)(hi:X.N[i]? = some x:=by rfl)(hx:Loc X.env.scope x:=by first|exact Or.inl rfl|exact Or.inr rfl)(hf:X.fn x=true\/X.env.scope.names.lookup x=some .local:=by first|exact Or.inl rfl|exact Or.inr rfl):uw X kd (.Name x pos) (gN i):=⟨_,FN hN hi hx hf⟩
def qw(h:OV X kd es gs)(hc:X.calm=true:=by rfl)(hn:(assignEach es X.env).length=m:=by rfl)(hst:(assignEach es X.env).findIdx? (·.1)=none:=by rfl):uw X kd (.Tuple es j pos) (gT m gs):=h.elim λ_ h=>⟨_,P4 hc h hn hst⟩
def r_(h1:uw X kd a g)(h2:OV X kd es gs)(hs:(assignEach (a::es) X.env).map (·.2)=assign a X.env::(assignEach es X.env).map (·.2):=by rfl):OV X kd (a::es) (yd g gs):=h1.elim λ_ h1=>h2.elim λ_ h2=>⟨_,vF h1 h2 hs⟩
def rL:OV X kd [] xG:=⟨_,Vx⟩
def oC(hi:AI X kd tg iter fi)(hg:uw X kd tg g)(hb:EW X kd body f)(hp:PassesOwn (model X.prog X.w) X.A X.env X.xe:=by exact PassesOwn.never)(hc:X.calm=true:=by rfl)(hs:∀x,foldedSetIterable iter X.env x=pure x:=by exact λ_=>rfl):Ks X kd (.For tg iter body [] pos) (yK fi g f):=hg.elim λ_ hg=>Xk hp hc hi hg hb hs
def qy(he:AE X kd e fe)(hg:uw X kd tg g)(hs:swapsWithSole [tg] e pos.line X.env=pure false:=by rfl)(hw:swappedStores [tg] e X.env=pure none:=by rfl)(h1:(assignEach [tg] X.env).map (·.2)=[assign tg X.env]:=by rfl):Ks X kd (.Assign [tg] e pos) (Zo fe g):=hg.elim λ_ hg=>uf he hg hs hw h1
theorem cm(hi:CV X kd tg iter fi)(hg:∀cl s H fp,AG (yZ X (OR (JI tg) X.N cap) scope cl s H fp) kd tg (uv 0 cap) g)(ht:∀cl s H fp,So (yZ X (OR (JI tg) X.N cap) scope cl s H fp) ifs<|C9 X.K kd tt)(he:∀cl s H fp,AE (yZ X (OR (JI tg) X.N cap) scope cl s H fp) kd elt fe)
 (hc:X.calm=true:=by rfl) (hk:scope.kind = .function:=by rfl) (hcap:Xy (OR (JI tg) X.N cap) X.N scope.names X.env.scope.names cap=true:=by kernel_rfl) (hs:∀x,foldedSetIterable iter X.env x=pure x:=by exact λ_=>rfl):AE X kd (.ListComp elt [⟨tg,iter,ifs,0⟩] scope pos) (zr fi cap g tt fe):=Rw hc hi hk hcap Sz hg ht he hs
theorem oy(hN:X.N.Nodup)(hi:CV X kd tg iter fi)(hg:∀cl s H fp,AG (yZ X (OR (JI tg) X.N cap) scope cl s H fp) kd tg (uv 0 cap) g)(ht:∀cl s H fp,So (yZ X (OR (JI tg) X.N cap) scope cl s H fp) ifs<|C9 X.K kd tt)(he:∀cl s H fp,AE (yZ X (OR (JI tg) X.N cap) scope cl s H fp) kd elt fe)
 (hiy:X.N[i]? = some y:=by rfl) (hy:Loc X.env.scope y:=by first|exact Or.inl rfl|exact Or.inr rfl) (hf:X.fn y=true\/X.env.scope.names.lookup y=some .local:=by first|exact Or.inl rfl|exact Or.inr rfl) (hsw:swapsWith (.ListComp elt [⟨tg,iter,ifs,0⟩] scope pos) (some<|.Name y py) spos.line X.env=pure true:=by rfl)
 (hc:X.calm=true:=by rfl) (hk:scope.kind = .function:=by rfl) (hcap:Xy (OR (JI tg) X.N cap) X.N scope.names X.env.scope.names cap=true:=by kernel_rfl) (hs:∀x,foldedSetIterable iter X.env x=pure x:=by exact λ_=>rfl):Ks X kd (.Assign [.Name y py] (.ListComp elt [⟨tg,iter,ifs,0⟩] scope pos) spos) (zz z i<|zr fi cap g tt fe):=CK hN hiy hy hf hsw hc hi hk hcap Sz hg ht he hs
end
section
variable{X:Cx}{kd:KD}{a b c:Expr}{fa fb fc:EF}{pos:Pos}{g g':D->D->Option R0}
def OB{K}{kd}{σ}{H}{Q}(h:al K kd (wa fa fb fc g g') σ H Q):EC (λx y H Q=>∃O d e r,(∀a,O a->H a≠none)/\Vw K kd O H x d/\Vw K kd O H y e/\g d e=some r/\RQ K kd O H Q r) (λx y H Q=>∃O d e r,(∀a,O a->H a≠none)/\Vw K kd O H x d/\Vw K kd O H y e/\g' d e=some r/\RQ K kd O H Q r) (al K kd fa) (al K kd fb) (al K kd fc) σ H Q:=by
 obtain⟨F,B,ad,as,r,as',R,e,q⟩:=h;obtain⟨⟨p,as1⟩,h1,e⟩:=bS_<|e;obtain⟨⟨z,as2⟩,h2,e⟩:=bS_ e;obtain⟨⟨x,lx⟩,h3,e⟩:=bS_ e;obtain⟨⟨y,ly⟩,h4,e⟩:=bS_ e;obtain⟨r0,h5,e⟩:=bS_ e;refine x_ R h1 λv ad1 H1 R1 rv1 g1=>x_ R1 h2 λu ad2 H2 R2 rv2 g2=>⟨_,x,y,r0,R2.tr<|meet lx ly,(xh.vw R2 (rv1.grow g2) h3).less Vd.meet1,(xh.vw R2 rv2 h4).less Vd.meet2,h5, ?_⟩
 match r0,e with
 | .im (.bl true),e=>
  obtain⟨⟨t,as3⟩,h6,e⟩:=bS_<|e;obtain⟨⟨y',ly'⟩,h7,e⟩:=bS_ e;obtain⟨⟨z',lz'⟩,h8,e⟩:=bS_ e;obtain⟨r1,h9,e⟩:=bS_ e;obtain⟨o,h10,e⟩:=bS_ e;cases e;intro w H3 kp rp;cases rp;obtain⟨R3,g3⟩:=R2.more kp;refine⟨true,rfl, ?_⟩;rw[if_pos rfl];refine x_ R3 h6 λw' ad4 H4 R4 rv4 g4=>⟨_,y',z',r1,R4.tr<|meet ly' lz',(xh.vw R4 ((rv2.grow g3).grow g4) h7).less Vd.meet1,(xh.vw R4 rv4 h8).less Vd.meet2,h9, ?_⟩;exact wJ R4 h10 λw T' H' R' rv' g'=>q w T' ad4 H' R' rv'<|(((g1.trans g2).trans g3).trans g4).trans g'
 | .im (.bl false),e=>
  cases e;intro w H3 kp rp;cases rp;obtain⟨R3,g3⟩:=R2.more kp;refine⟨false,rfl, ?_⟩;rw[if_neg zyW];exact q _ [] ad2 H3 R3 (.lf<|.bl _)<|(g1.trans g2).trans g3
def S6(hg:∀x y r,g' x y=some r->∃k,r = .im (.bl k))(h:wa fa fb fc g g' as=some (p,as1)):∃k,p = .ow (.lf true<|.bl k):=by
 obtain⟨_,_,h⟩:=bS_<|h;obtain⟨_,_,h⟩:=bS_ h;obtain⟨_,_,h⟩:=bS_ h;obtain⟨_,_,h⟩:=bS_ h;obtain⟨r0,_,h⟩:=bS_ h
 match r0,h with
 | .im (.bl true),h=>
  obtain⟨_,_,h⟩:=bS_ h;obtain⟨_,_,h⟩:=bS_ h;obtain⟨_,_,h⟩:=bS_ h;obtain⟨r1,h1,h⟩:=bS_ h;obtain⟨o,h2,h⟩:=bS_ h;cases h;obtain⟨k,rfl⟩:=hg _ _ _ h1;cases h2;exact⟨k,rfl⟩
 | .im (.bl false),h=>cases h;exact⟨false,rfl⟩
def NI{op op'}(ho:ID X kd (compareOp op) g)(ho':ID X kd (compareOp op') g')(hg:∀x y r,g' x y=some r->∃k,r = .im (.bl k))(ha:AE X kd a fa)(hb:AE X kd b fb)(hc:AE X kd c fc)(hm:lastMarks [op,op'] [b,c]=false):
 AT X kd (.Compare a [op,op'] [b,c] pos) (fT<|wa fa fb fc g g'):=by with_unfolding_all exact(K_ (HV ho ho' ha hb hc hm) λσ H Q h=>by
 obtain⟨F,B,ad,as,bb,as',R,e,q⟩:=h;obtain⟨⟨p,as1⟩,h1,e⟩:=bS_<|e;obtain⟨⟨d,lv⟩,h2,e⟩:=bS_ e;obtain⟨k,h3,e⟩:=bS_ e;cases e;obtain⟨k',rfl⟩:=S6 hg h1;cases h2;cases h3;refine OB ⟨F,B,ad,as,_,_,R,h1,λv T' ad' H' R' rv g'=>?_⟩;generalize hT:T'=T2 at rv R' g';cases rv with
 |lf rp=>
  cases rp;exact⟨_,rfl,q ad' H' R' g'⟩)
end
end PF
end
section
namespace G55
open PySem PySem.Spec PyProof.Rows L2 PF
abbrev zi:EF:=fV 1
abbrev zL:EF:=fC<|.int 0
abbrev zg:EF:=fV 0
abbrev yq:EF:=fC<|.int 2
abbrev zH:EF:=fC<|.int 1
abbrev zu:EF:=fV 2
abbrev yV:EF:=fC<|.int 4
abbrev wO:GF:=gN 4
abbrev zZ:EF:=fV 4
abbrev zC:EF:=fV 3
abbrev zG:GF:=gN 0
abbrev zA:=Vc .Add
abbrev yP:EF:=fV 5
abbrev wR:EF:=fC<|.int 5
abbrev y9:EF:=fV 6
abbrev yR:EF:=fV 7
abbrev yO:EF:=fV 11
abbrev zy:=Vc .Mod
abbrev zF:=Vc .Mult
abbrev vd:EF:=fC<|.int 8
abbrev zB:=Vc .FloorDiv
abbrev xr:EF:=fC<|.int 3
abbrev ZT:=Vc .Sub
abbrev Xf:EF:=fC<|.int 6
abbrev Xg:AF:=aC (fV 3) aN
abbrev xq:AF:=aC (fV 0) aN
abbrev yW:AF:=aC (fV 1) aN
abbrev xg:AF:=aC (fV 2) aN
abbrev ug:AF:=aC (fV 5) aN
abbrev qT:AF:=aC (fV 7) aN
abbrev Ts:List Str:=["thing"]
def Q_:FnScope Ts ["thing"] (zw YC):=v7
def Tg:SF:=
 (zV<|YF (GH zg "int")<|IT<|GH zg "bool")
def W_:Fn:=wQ 1 1 Tg
abbrev UT:List Str:=["thing","least","most"]
def L6:FnScope UT ["thing","least","most"] (zw ZI):=v7
def Um:SF:=
 (zV<|YF (zx xq W_)<|wa zi zg zu (zt .LtE)<|zt .LtE)
def vC:Fn:=wQ 3 3 Um
abbrev Mv:List Str:=["thing","n"]
def G3:FnScope Mv ["thing","n"] (zw Vj):=v7
def Ms:SF:=
 (zV<|YF (GH zg "list")<|fP (aC (zr (yu zg) [none,some 1] zG zN<|zx (aC zg<|aC zL<|aC (f2 zi zH ZT) aN) vC) aN) Nj)
def Z1:Fn:=wQ 2 2 Ms
abbrev Xa:List Str:=["algebra","join","nothing","a"]
def Z7:FnScope Xa ["algebra"] (zw wq):=v7
def YN:SF:=
 (zp (zz true 1<|f2 zg yq zk)
  (zp (zz true 2<|f2 zg xr zk)
  (zp (yK (zY (aC (f2 zg zL zk) aN) z_) (gN 3)<|xB (vA (fT<|f2 (f2 (f2 zi zu zk) zC zk) zC<|zt .NotEq)<|fT<|f2 (f2 (f2 zi zC zk) zu zk) zC<|zt .NotEq) (zV<|yh<|dC (fC<|.str "nothing")<|dC zC dN) xQ)
  (zV<|fC .non))))
def vH:Fn:=wQ 4 1 YN
abbrev YX:List Str:=["algebra","n","join","a","b","c"]
def Z5:FnScope YX ["algebra"] (zw wu):=v7
def YR:SF:=
 (zp (zz true 1<|f2 zg zL zk)
  (zp (zz true 2<|f2 zg yq zk)
  (zp (yK (zY yW z_) (gN 3)<|yK (zY yW z_) wO<|yK (zY yW z_) (gN 5)<|xB (fT<|f2 (f2 (f2 zu (f2 (f2 zu zC zk) zZ zk) zk) yP zk) (f2 (f2 zu zC zk) (f2 (f2 zu zZ zk) yP zk) zk)<|zt .NotEq) (zV<|yh<|dC (fC<|.str "parting")<|dC zC<|dC zZ<|dC yP dN) xQ)
  (zV<|fC .non))))
def vG:Fn:=wQ 6 1 YR
abbrev W0:List Str:=["algebra","name","rows","n","m","join","a","i","b","j"]
def XF:FnScope W0 ["algebra","name","rows"] (zw vm):=v7
def Wi:SF:=
 (zp (zz true 3<|f2 zg zL zk)
  (zp (zz true 4<|f2 zg zH zk)
  (zp (zz true 5<|f2 zg yq zk)
  (zp (yK (zY Xg z_) (gN 6)<|yK (zY (aC zZ aN) z_) (gN 7)<|yK (zY Xg z_) (gN 8)<|yK (zY (aC zZ aN) z_) (gN 9)<|xB (fT<|f2 (f2 (f2 zu (f2 (f2 yR (fV 9) zA) zZ zy) zk) (f2 (f2 yP y9 zk) (fV 8) zk) zk) (f2 (f2 yP (f2 (f2 zu yR zk) y9 zk) zk) (f2 (f2 zu (fV 9) zk) (fV 8) zk) zk)<|zt .NotEq) (zV<|yh<|dC (fC<|.str "doing")<|dC zi<|dC y9<|dC yR<|dC (fV 8)<|dC (fV 9) dN) xQ)
  (zV<|fC .non)))))
def vp:Fn:=wQ 10 3 Wi
abbrev VW:List Str:=["algebra","nothing","name","rows","fault"]
def Wy:FnScope VW ["algebra"] (zw vV):=v7
def V6:SF:=
 (zp (zz true 1<|f2 zg xr zk)
  (zp (yK (Wa<|f2 zg yV zk) (gT 2<|yd (gN 2)<|yd (gN 3) xG)<|zp (xB (fT<|f2 (f2 (f2 zC zL zk) zi zk) zi<|zt .NotEq) (zV<|yh<|dC (fC<|.str "empty")<|dC zu dN) xQ)
  (zp (zz true 4<|zx (aC zg<|aC zu Xg) vp)
  (xB (fT<|f2 zZ (fC .non)<|zt .IsNot) (zV zZ) xQ)))
  (zV<|fC .non)))
def YD:Fn:=wQ 5 1 V6
abbrev VX:List Str:=["algebra","fault"]
def Wr:FnScope VX ["algebra"] (zw vU):=v7
def Vk:SF:=
 (zp (zz true 1<|zx xq vH)
  (zp (xB (fT<|f2 zi (fC .non)<|zt .Is) (zz true 1<|zx xq vG) xQ)
  (zp (xB (fT<|f2 zi (fC .non)<|zt .Is) (zz true 1<|zx xq YD) xQ)
  (zV zi))))
def Yr:Fn:=wQ 2 1 Vk
abbrev Xx:List Str:=["algebra","fault"]
def Xb:FnScope Xx ["algebra"] (zw wI):=v7
def Zd:SF:=
 (zp (zz true 1<|zx xq Yr)
  (xB (fT<|f2 zi (fC .non)<|zt .IsNot) pY xQ))
def xo:Fn:=wQ 2 1 Zd
abbrev UR:List Str:=["algebra","join","places","found","name","rows"]
def VO:FnScope UR ["algebra"] (zw ZE):=v7
def Uv:SF:=
 (zp (zz true 1<|f2 zg yq zk)
  (zp (zz true 2<|fP (aC (f2 zg zL zk) aN) Ce)
  (zp (zz false 3<|f2 (zr (yu zu) [none,some 1] zG zN<|yh<|dC (yh<|dC (fC<|.str "left")<|dC zg dN)<|dC (f2 zi zg zk) dN) (zr (yu zu) [none,some 1] zG zN<|yh<|dC (yh<|dC (fC<|.str "right")<|dC zg dN)<|dC (zr (yu zi) [none,some 0] zG zN<|f2 zg zi zk) dN) zA)
  (zp (yK (Wa<|f2 zg yV zk) (gT 2<|yd wO<|yd (gN 5) xG)<|yI<|xt 3 (dC (zr (M9 yP) [none,none,some 4] (gT 2<|yd zG<|yd (gN 1) xG) zN<|yh<|dC (yh<|dC (fC<|.str "deed")<|dC zu<|dC zg dN)<|dC zi dN) dN) BB)
  (zV zC)))))
def Xz:Fn:=wQ 6 1 Uv
abbrev Tu:List Str:=["keys","numbers","key"]
def Ul:FnScope Tu ["keys"] (zw Yi):=v7
def Pw:SF:=
 (zp (zz false 1 tF)
  (zp (yK (Wa zg) (gN 2)<|Bu 1<|dC zu<|dC (fP yW xx) dN)
  (zV<|zr (yu zg) [none,some 1] zG zN<|f2 zi zg qj)))
def vb:Fn:=wQ 3 1 Pw
abbrev TM:List Str:=["algebra","value"]
def UD:FnScope TM ["algebra","value"] (zw YG):=v7
def Tx:SF:=
 (zV<|fP (aC (zr (yu<|f2 zg wR zk) [none,none,some 1] (gT 2<|yd zG<|yd (gN 1) xG) zN<|f2 zu zi<|zt .In) aN) tupP)
def W6:Fn:=wQ 2 2 Tx
abbrev Xe:List Str:=["algebra","places","rows","numbers","finer"]
def Z2:FnScope Xe ["algebra"] (zw wt):=v7
def Y_:SF:=
 (zp (zz true 1<|fP (aC (f2 zg zL zk) aN) Ce)
  (zp (zz true 2<|f2 (yA<|dC zi dN) (zr (yu<|zx xq Xz) [none,none] (gT 2<|yd zG<|yd (gN 1) xG) zN zi) zA)
  (zp (zz true 3<|zx (aC (zr (yu zi) [none,some 0] zG zN<|zx (aC zi xq) W6) aN) vb)
  (zp (zz true 4<|zx (aC (zr (yu zi) [none,some 3,some 2] zG zN<|fP (aC (zr (yu zu) [none,some 1,some 0] zG zN<|f2 zi (f2 zg zu zk) zk) aN) tupP) aN) vb)
  (zp (Sr (fT<|f2 zZ zC<|zt .NotEq) (zp (zz true 3 zZ)
  (zz true 4<|zx (aC (zr (yu zi) [none,some 3,some 2] zG zN<|fP (aC (zr (yu zu) [none,some 1,some 0] zG zN<|f2 zi (f2 zg zu zk) zk) aN) tupP) aN) vb)) 10000)
  (zV zC))))))
def wm:Fn:=wQ 5 1 Y_
abbrev Y4:List Str:=["algebra","numbers","chosen","join","deeds","signs"]
def ZY:FnScope Y4 ["algebra"] (zw wx):=v7
def YV:SF:=
 (zp (yI<|zx xq xo)
  (zp (zz true 1<|zx xq wm)
  (zp (zz true 2<|zr (zY (aC (fP yW sY) aN) z_) [none,some 1] zG zN<|wV .lst zi xq wC)
  (zp (zz true 3<|zr (yu zu) [none,some 1,some 2,some 0] zG zN<|zr (yu zu) [none,some 1,some 0,some 3] zG zN<|f2 zi (f2 (f2 (f2 zC yq zk) zu zk) zg zk) zk)
  (zp (zz true 4<|zr (yu<|f2 zg yV zk) [none,none,some 1,some 2] (gT 2<|yd zG<|yd (gN 1) xG) zN<|yh<|dC zg<|dC (zr (yu zi) [none,some 2,some 3] zG zN<|zr (yu zu) [none,some 1,some 0] zG zN<|f2 zi (f2 zu zg zk) zk) dN)
  (zp (zz true 5<|zr (yu<|f2 zg wR zk) [none,none,some 1,some 2] (gT 2<|yd zG<|yd (gN 1) xG) zN<|yh<|dC zg<|dC (zr (yu zC) [none,some 2,some 1] zG (fT<|f2 zg zu<|zt .In)<|f2 zi zg zk) dN)
  (zV<|yh<|dC (yh<|dC (fP xg xx)<|dC (f2 zg zH zk)<|dC zC<|dC (f2 zi (f2 zg xr zk) zk)<|dC zZ<|dC yP dN)<|dC zi dN)))))))
def xM:Fn:=wQ 6 1 YV
abbrev TJ:List Str:=["told"]
def U_:FnScope TJ ["told"] (zw Yy):=v7
def Ph:SF:=
 (zV<|zr (yu zg) [none] zG zN<|f2 zg zL zk)
def vf:Fn:=wQ 1 1 Ph
abbrev Pm:List Str:=["one","other"]
def U6:FnScope Pm ["one","other"] (zw Ye):=v7
def Pg:SF:=
 (zp (xB (fT<|f2 (f2 zg zH zk) (f2 zi zH zk)<|zt .NotEq) (zV<|fC<|.bl false) xQ)
  (zV<|YF (f2 (zx (aC (f2 zg yV zk) aN) vf) (zx (aC (f2 zi yV zk) aN) vf)<|zt .Eq)<|f2 (zx (aC (f2 zg wR zk) aN) vf) (zx (aC (f2 zi wR zk) aN) vf)<|zt .Eq))
def wZ:Fn:=wQ 2 2 Pg
abbrev Vz:List Str:=["one","other","numbers","a","b"]
def WY:FnScope Vz ["one","other","numbers"] (zw v5):=v7
def VU:SF:=
 (zp (yK (zY (aC (f2 zg zL zk) aN) z_) (gN 3)<|yK (zY (aC (f2 zg zL zk) aN) z_) wO<|xB (fT<|f2 (f2 zu (f2 (f2 (f2 zg yq zk) zC zk) zZ zk) zk) (f2 (f2 (f2 zi yq zk) (f2 zu zC zk) zk) (f2 zu zZ zk) zk)<|zt .NotEq) (zV<|fC<|.bl false) xQ)
  (zV<|f2 (f2 zu (f2 zg xr zk) zk) (f2 zi xr zk)<|zt .Eq))
def wD:Fn:=wQ 5 3 VU
abbrev V9:List Str:=["rows","others","numbers","row","beside"]
def Wt:FnScope V9 ["rows","others","numbers"] (zw vW):=v7
def Qv:SF:=
 (zp (yK (Qk<|aC zg yW) (gT 2<|yd (gN 3)<|yd wO xG)<|xB (fT<|f2 (zr (yu zC) [none,some 2] zG zN<|f2 zi zg zk) (zr (yu zu) [none,some 4] zG zN<|f2 zi zg zk)<|zt .NotEq) (zV<|fC<|.bl false) xQ)
  (zV<|fC<|.bl true))
def xY:Fn:=wQ 5 3 Qv
abbrev Qo:List Str:=["values","others","numbers"]
def WL:FnScope Qo ["values","others","numbers"] (zw Za):=v7
def VM:SF:=
 (zV<|fP (aC (zr (M9 zu) [none,none,some 0,some 1] (gT 2<|yd zG<|yd (gN 1) xG) zN<|f2 (f2 zg zu<|zt .In) (f2 zi zC<|zt .In)<|zt .Eq) aN) Nj)
def x9:Fn:=wQ 3 3 VM
abbrev VT:List Str:=["one","other","numbers"]
def Ws:FnScope VT ["one","other","numbers"] (zw Zb):=v7
def Qq:SF:=
 (zp (xB (vA (wU<|fT<|zx (aC zg yW) wZ)<|vA (fT<|f2 (fP xg xx) (f2 zg zL zk)<|zt .NotEq)<|wU<|fT<|zx (aC zu<|aC (f2 zi zL zk) aN) Z1) (zV<|fC<|.bl false) xQ)
  (zp (xB (wU<|fT<|zx (aC zg<|aC zi xg) wD) (zV<|fC<|.bl false) xQ)
  (zp (xB (wU<|fT<|fP (aC (zr (NN<|aC (f2 zg yV zk)<|aC (f2 zi yV zk) aN) [none,none,some 2] (gT 2<|yd zG<|yd (gN 1) xG) zN<|zx (aC (f2 zg zH zk)<|aC (f2 zi zH zk) xg) xY) aN) Nj) (zV<|fC<|.bl false) xQ)
  (zV<|fP (aC (zr (NN<|aC (f2 zg wR zk)<|aC (f2 zi wR zk) aN) [none,none,some 2] (gT 2<|yd zG<|yd (gN 1) xG) zN<|zx (aC (f2 zg zH zk)<|aC (f2 zi zH zk) xg) x9) aN) Nj))))
def yX:Fn:=wQ 3 3 Qq
abbrev Wp:List Str:=["_law_script","_law_k"]
def Xl:FnScope Wp ["_law_script","_law_k"] (zw vv):=v7
def Wk:SF:=
 (zp (xB (fT<|f2 zi (fP xq xx)<|zt .Lt) (zV<|f2 zg zi zk) xQ)
  (zV zL))
def yi:Fn:=wQ 2 2 Wk
abbrev Qx:List Str:=["_law_cell","_law_many","_law_found","_law_number","_law_k"]
def WZ:FnScope Qx ["_law_cell","_law_many"] (zw vP):=v7
def VP:SF:=
 (zp (zz false 2<|yA dN)
  (zp (zz true 3<|f2 (f2 zg (fC<|.int 2147483647) zy) (fC<|.int 48271) zA)
  (zp (yK (zY (aC (f2 zi zH zA) aN) z_) wO<|zp (zz true 3<|f2 (f2 (f2 (f2 zC zC zF) (f2 (fC<|.int 48271) zC zF) zA) zZ zA) (fC<|.int 2147483647) zy)
  (yI<|xt 2 (dC (f2 (f2 (f2 zC (fC<|.int 40692) zF) (f2 (fC<|.int 7) zZ zF) zA) (fC<|.int 2147483399) zy) dN) xF))
  (zV<|ZW zu (oS zH) oN Qa))))
def yo:Fn:=wQ 5 2 VP
abbrev UI:List Str:=["_law_cell","_law_many","_law_letters","_law_xs","_law_base","_law_at","_law_found","_law_k"]
def VY:FnScope UI ["_law_cell","_law_many"] (zw ZF):=v7
def UM:SF:=
 (zp (zz true 2<|fC<|.str "abcdefghijklmnopqrstuvwxyz")
  (zp (zz true 3<|zx (aC zg<|aC (fC<|.int 9) aN) yo)
  (zp (zz true 4<|wV .str (fC<|.str "") (aC (zr (yu<|ZW zC oN (oS<|f2 zH (f2 zg vd zy) zA) Qa) [none,some 2] zG zN<|f2 zi (f2 zg (fC<|.int 26) zy) zk) aN) Fb)
  (zp (zz true 5<|f2 (f2 zg vd zB) (fP (aC zZ aN) xx) zy)
  (zp (zz false 6<|yA dN)
  (zp (yK (zY yW z_) (gN 7)<|yI<|xt 6 (dC (f2 (f2 (ZW zZ oN (oS yP) Jd) (f2 zu (f2 (f2 (f2 zC vd zk) (f2 xr yR zF) zA) (fC<|.int 26) zy) zk) zA) (ZW zZ (oS<|f2 yP zH zA) oN Jd) zA) dN) xF)
  (zV y9)))))))
def Xm:Fn:=wQ 8 2 UM
abbrev Ww:List Str:=["_law_one","_law_other_here"]
def XA:FnScope Ww ["_law_one","_law_other_here"] (zw vg):=v7
def Wu:SF:=
 (zp (Sr (fT<|f2 zi zL<|zt .Gt) (OQ 0 1<|dC zi<|dC (f2 zg zi zy) dN) 10000)
  (zV zg))
def ZR:Fn:=wQ 2 2 Wu
abbrev Ti:List Str:=["_law_n","_law_m","_law_xs","_law_step","_law_rows_here","_law_c"]
def U7:FnScope Ti ["_law_n","_law_m","_law_xs"] (zw Yp):=v7
def Pf:SF:=
 (zp (zz true 3<|f2 zg (zx (aC zg yW) ZR) zB)
  (zp (zz false 4<|yA dN)
  (zp (yK (zY yW z_) (gN 5)<|yI<|xt 4 (dC (zr (zY xq z_) [none,some 0,some 2,some 5,some 3] zG zN<|f2 (f2 (f2 zg (f2 zu zL zk) zF) (f2 (f2 zC zZ zF) (f2 zu zH zk) zF) zA) zi zy) dN) xF)
  (zV zZ))))
def W5:Fn:=wQ 6 3 Pf
abbrev Vu:List Str:=["_law_n","_law_m","_law_xs","_law_row"]
def W4:FnScope Vu ["_law_n","_law_m","_law_xs"] (zw vT):=v7
def V8:SF:=
 (zp (zz false 3<|fP (aC (f2 (yA<|dC zL dN) (zr (zY (aC (f2 zg zH ZT) aN) z_) [none,some 0,some 2] zG zN<|f2 (f2 zu zg zk) zi zy) zA) aN) PV)
  (zp (OK 3 (xC 0)<|xC 0)
  (zV<|zr (zY yW z_) [none,some 3] zG zN<|fP yW lstP)))
def Z_:Fn:=wQ 4 3 V8
abbrev PJ:List Str:=["_law_n","_law_m","_law_xs","_law_row"]
def Ux:FnScope PJ ["_law_n","_law_m","_law_xs"] (zw Yb):=v7
def PN:SF:=
 (zp (zz true 3<|f2 (yA<|dC zL dN) (zr (zY (aC (f2 zg zH ZT) aN) z_) [none,some 2,some 0] zG zN<|f2 zH (f2 (f2 zi zg zk) (f2 zu zH ZT) zy) zA) zA)
  (zV<|zr (zY yW z_) [none,some 3] zG zN<|fP yW lstP))
def Ve:Fn:=wQ 4 3 PN
abbrev UX:List Str:=["_law_kind","_law_n","_law_maps"]
def VG:FnScope UX ["_law_kind","_law_n"] (zw Zu):=v7
def Uh:SF:=
 (zp (xB (fT<|f2 zg zL<|zt .Eq) (zV<|zr (zY yW z_) [none,some 1] zG zN<|zr (zY yW z_) [none,some 1,some 0] zG zN<|f2 (f2 zu zg zA) zi zy) xQ)
  (zp (xB (fT<|f2 zg zH<|zt .Eq) (zV<|zr (zY yW z_) [none,some 1] zG zN<|zr (zY yW z_) [none,some 0] zG zN<|fP (aC zi xq) D_) xQ)
  (zp (xB (fT<|f2 zg yq<|zt .Eq) (zV<|zr (zY yW z_) [none,some 1] zG zN<|zr (zY yW z_) [none,some 0] zG zN<|f2 (yA<|dC zg<|dC zi dN) (fP (aC (f2 zg zL<|zt .Eq) aN) V0) zk) xQ)
  (zp (xB (fT<|f2 zg xr<|zt .Eq) (zV<|zr (zY yW z_) [none,some 1] zG zN<|zr (zY yW z_) [none,some 0] zG zN<|f2 (yA<|dC zi<|dC zg dN) (fP (aC (f2 zi zL<|zt .Eq) aN) V0) zk) xQ)
  (zp (zz true 2<|yA<|dC (yh<|dC zL<|dC zH dN)<|dC (yh<|dC zH<|dC zL dN)<|dC (yh<|dC zL<|dC zL dN)<|dC (yh<|dC zH<|dC zH dN) dN)
  (zV<|zr (yu zu) [none,some 2] zG zN<|zr (yu zi) [none,some 1,some 0] zG zN<|wV .lst zi (aC (yh<|dC (f2 zg (f2 zu zL zk) zk)<|dC (f2 zg (f2 zu zH zk) zk) dN) aN) wC))))))
def ZD:Fn:=wQ 3 2 Uh
abbrev P6:List Str:=["_law_kind","_law_n","_law_m","_law_xs"]
def UC:FnScope P6 ["_law_kind","_law_n","_law_m","_law_xs"] (zw YB):=v7
def Tt:SF:=
 (zp (xB (fT<|f2 zg zL<|zt .Eq) (zV<|zx (aC zi<|aC zu Xg) W5) xQ)
  (zp (xB (fT<|f2 zg zH<|zt .Eq) (zV<|zx (aC zi<|aC zu Xg) Z_) xQ)
  (zp (xB (fT<|f2 zg yV<|zt .Lt) (zV<|zx (aC zi<|aC zu Xg) Ve) xQ)
  (zV<|zr (zY xg z_) [none,some 3] zG zN<|f2 (yA<|dC (yA<|dC zL<|dC zH<|dC yq<|dC xr dN)<|dC (yA<|dC zL<|dC zH<|dC xr<|dC yq dN) dN) (f2 (f2 zi zL zk) yq zy) zk))))
def Yc:Fn:=wQ 4 4 Tt
abbrev UB:List Str:=["_law_kind","_law_n","_law_m","_law_many","_law_cell","_law_rows_here"]
def VS:FnScope UB ["_law_kind","_law_n","_law_m","_law_many","_law_cell"] (zw Zt):=v7
def U2:SF:=
 (zp (zz true 5<|zr (zY Xg z_) [none,some 0,some 1,some 2,some 4] zG zN<|zx (aC zi<|aC zu<|aC zC<|aC (zx (aC (f2 zZ (f2 (fC<|.int 31) zg zF) zA)<|aC (fC<|.int 9) aN) yo) aN) Yc)
  (zV<|yh<|dC zi<|dC (zx (aC zg yW) ZD)<|dC yP dN))
def wz:Fn:=wQ 6 5 U2
abbrev Vy:List Str:=["_law_one","_law_other_here","_law_m","_law_n","_law_by","_law_join","_law_p","_law_here","_law_there","_law_deeds","_law_rows_here","_law_c","_law_made_here","_law_ahead"]
def Wm:FnScope Vy ["_law_one","_law_other_here","_law_m"] (zw v3):=v7
def V5:SF:=
 (zp (zz true 3<|f2 (f2 zg zL zk) (f2 zi zL zk) zF)
  (zp (zz true 4<|f2 zi zL zk)
  (zp (zz false 5<|yA dN)
  (zp (yK (zY Xg z_) (gN 6)<|zp (zz true 7<|f2 (f2 zg zH zk) (f2 y9 zZ zB) zk)
  (zp (zz true 8<|f2 (f2 zi zH zk) (f2 y9 zZ zy) zk)
  (yI<|xt 5 (dC (zr (zY Xg z_) [none,some 4,some 8,some 7] zG zN<|f2 (f2 (f2 zC (f2 zg zi zB) zk) zi zF) (f2 zu (f2 zg zi zy) zk) zA) dN) xF)))
  (zp (zz false 9<|yA dN)
  (zp (yK (Qk<|aC (f2 zg yq zk)<|aC (f2 zi yq zk) aN) (gT 2<|yd (gN 7)<|yd (gN 8) xG)<|zp (zz false 10<|yA dN)
  (zp (yK (zY xg z_) (gN 11)<|zp (zz false 12<|yA dN)
  (zp (yK (zY Xg z_) (gN 6)<|zp (zz true 13<|f2 (f2 (f2 yR yO zk) (f2 y9 zZ zB) zk) zZ zF)
  (yI<|xt 12 (dC (f2 (fV 13) (f2 (f2 (fV 8) yO zk) (f2 y9 zZ zy) zk) zA) dN) xF))
  (yI<|xt 10 (dC (fV 12) dN) xF)))
  (yI<|xt 9 (dC (fV 10) dN) xF)))
  (zV<|yh<|dC zC<|dC yP<|dC (fV 9) dN)))))))
def Ys:Fn:=wQ 14 3 V5
abbrev P5:List Str:=["_law_cell","_law_m","_law_many","_law_xs","_law_kind","_law_sizes","_law_one","_law_n"]
def Uz:FnScope P5 ["_law_cell","_law_m","_law_many"] (zw Yo):=v7
def RO:SF:=
 (zp (zz true 3<|zx (aC zg<|aC wR aN) yo)
  (zp (zz true 4<|f2 (f2 zC zL zk) (fC<|.int 7) zy)
  (zp (xB (fT<|f2 zZ yV<|zt .Gt) (zp (zz true 5<|f2 (yA<|dC (yh<|dC yq<|dC yq dN)<|dC (yh<|dC xr<|dC yq dN)<|dC (yh<|dC yq<|dC xr dN)<|dC (yh<|dC yV<|dC yq dN)<|dC (yh<|dC yq<|dC yV dN)<|dC (yh<|dC yq<|dC yq dN) dN) (f2 (f2 zC zH zk) Xf zy) zk)
  (zp (zz true 6<|zx (aC (f2 (f2 zC yq zk) yV zy)<|aC (f2 yP zL zk)<|aC zi<|aC zu<|aC (f2 zC xr zk) aN) wz)
  (zV<|zx (aC y9<|aC (zx (aC (f2 (f2 zC yV zk) yV zy)<|aC (f2 yP zH zk)<|aC zi<|aC zu<|aC (f2 (f2 zC xr zk) (fC<|.int 7) zA) aN) wz) yW) Ys))) xQ)
  (zp (zz true 7<|f2 (yA<|dC yq<|dC xr<|dC yV<|dC wR<|dC xr<|dC yV<|dC Xf<|dC vd dN) (f2 (f2 zC zH zk) vd zy) zk)
  (zp (xB (YW (fT<|f2 zZ zL<|zt .Eq)<|fT<|f2 (f2 (f2 zC yq zk) (fC<|.int 9) zy) zL<|zt .Eq) (zz true 7 zH) xQ)
  (zp (xB (fT<|f2 zZ yV<|zt .Eq) (zz true 7 yV) xQ)
  (zV<|zx (aC zZ<|aC yR<|aC zi<|aC zu<|aC (f2 zC xr zk) aN) wz)))))))
def Vh:Fn:=wQ 8 3 RO
abbrev Up:List Str:=["_law_cell","_law_n","_law_left","_law_found","_law_x"]
def VN:FnScope Up ["_law_cell","_law_n"] (zw Zx):=v7
def Uk:SF:=
 (zp (zz false 2<|fP yW Ce)
  (zp (zz false 3<|yA dN)
  (zp (yK (Wa<|zx (aC zg yW) yo) wO<|yI<|xt 3 (dC (xt 2 (dC (f2 zZ (fP xg xx) zy) dN) Vb) dN) xF)
  (zV zC))))
def Zz:Fn:=wQ 5 2 Uk
abbrev UE:List Str:=["_law_cell","_law_n","_law_names_here","_law_signs_here","_law_x","_law_name"]
def Qe:FnScope UE ["_law_cell","_law_n","_law_names_here"] (zw ZL):=v7
def UK:SF:=
 (zp (zz false 3<|yA dN)
  (zp (yK (Qk<|aC (zx (aC zg<|aC (fP xg xx) aN) yo) xg) (gT 2<|yd wO<|yd (gN 5) xG)<|yI<|xt 3 (dC (yh<|dC yP<|dC (zr (zY yW z_) [none,some 4] zG (fT<|f2 (f2 (f2 zi (f2 (yA<|dC zH<|dC yq<|dC yV<|dC vd<|dC (fC<|.int 16)<|dC (fC<|.int 32)<|dC (fC<|.int 64)<|dC (fC<|.int 128) dN) zg zk) zB) yq zy) zH<|zt .Eq) zg) dN) dN) xF)
  (zV zC)))
def ZM:Fn:=wQ 6 3 UK
abbrev WW:List Str:=["_law_cell","_law_other_here","_law_ys","_law_m","_law_many","_law_n","_law_join","_law_deeds","_law_order_here","_law_back","_law_joins_here","_law_names_here","_law_told","_law_name","_law_rows_here","_law_signs_here"]
def Xs:FnScope WW ["_law_cell","_law_other_here"] (zw vt):=v7
def WN:SF:=
 (zp (zz true 2<|zx (aC zi<|aC Xf aN) yo)
  (zp (zz true 3<|f2 zH (f2 (f2 zu zL zk) Xf zy) zA)
  (zp (xB (fT<|f2 (f2 (f2 (f2 zu zL zk) Xf zB) yq zy) zL<|zt .Eq) (zz true 3<|f2 zH (f2 (f2 (f2 zu zL zk) (fC<|.int 12) zB) xr zy) zA) xQ)
  (zp (zz true 4<|f2 (yA<|dC zH<|dC yq<|dC zL<|dC yV<|dC xr<|dC yq<|dC Xf<|dC wR dN) (f2 (f2 zu zH zk) vd zy) zk)
  (zp (xB (fT<|f2 zZ xr<|zt .Gt) (zz true 3<|f2 zH (f2 zC yq zy) zA) xQ)
  (zp (Zo (zx (aC zg<|aC zC<|aC zZ aN) Vh)<|gT 3<|yd (gN 5)<|yd (gN 6)<|yd (gN 7) xG)
  (zp (zz true 8<|zx (aC (f2 zu yq zk) ug) Zz)
  (zp (zz true 9<|zr (zY ug z_) [none,some 8] zG zN<|wV .lst zi xq wC)
  (zp (zz true 10<|zr (zY ug z_) [none,some 8,some 5,some 6,some 9] zG zN<|zr (zY xg z_) [none,some 1,some 3,some 4,some 0] zG zN<|f2 zi (f2 (f2 zu (f2 zC zZ zk) zk) (f2 zC zg zk) zk) zk)
  (zp (zz true 11<|zx (aC (f2 zu xr zk)<|aC (fC<|.int 10) aN) Xm)
  (zp (zz false 12<|yA dN)
  (zp (yK (Qk<|aC (ZW yO oN (oS Xf) Qa) qT) (gT 2<|yd (gN 13)<|yd (gN 14) xG)<|yI<|xt 12 (dC (yh<|dC (fV 13)<|dC (zr (yu<|fV 14) [none,some 8,some 5,some 9] zG zN<|zr (zY xg z_) [none,some 1,some 0,some 3] zG zN<|f2 zi (f2 zu (f2 zC zg zk) zk) zk) dN) dN) xF)
  (zp (zz true 15<|zx (aC (f2 zu yV zk)<|aC yP<|aC (ZW yO (oS Xf) (oS<|f2 Xf (f2 (yA<|dC zH<|dC yq<|dC zH<|dC yV<|dC zL<|dC yq<|dC xr<|dC zH dN) (f2 (f2 zu wR zk) vd zy) zk) zA) Qa) aN) ZM)
  (zV<|yh<|dC yP<|dC zC<|dC (fV 10)<|dC (f2 (fV 8) zL zk)<|dC (fV 12)<|dC (fV 15) dN))))))))))))))
def xO:Fn:=wQ 16 2 WN
abbrev WR:List Str:=["_law_n","_law_join","_law_nothing","_law_a","_law_b","_law_c"]
def XQ:FnScope WR ["_law_n","_law_join","_law_nothing"] (zw vq):=v7
def WH:SF:=
 (zp (yK (zY xq z_) (gN 3)<|xB (vA (fT<|f2 (f2 (f2 zi zu zk) zC zk) zC<|zt .NotEq)<|fT<|f2 (f2 (f2 zi zC zk) zu zk) zC<|zt .NotEq) (zV<|yh<|dC (fC<|.str "nothing")<|dC zC dN) xQ)
  (zp (yK (zY xq z_) (gN 3)<|yK (zY xq z_) wO<|yK (zY xq z_) (gN 5)<|xB (fT<|f2 (f2 (f2 zi (f2 (f2 zi zC zk) zZ zk) zk) yP zk) (f2 (f2 zi zC zk) (f2 (f2 zi zZ zk) yP zk) zk)<|zt .NotEq) (zV<|yh<|dC (fC<|.str "parting")<|dC zC<|dC zZ<|dC yP dN) xQ)
  (zV<|fC .non)))
def ZO:Fn:=wQ 6 3 WH
abbrev UY:List Str:=["_law_n","_law_m","_law_join","_law_name","_law_rows_here","_law_p","_law_q","_law_a","_law_i","_law_b","_law_j","_law_made_here"]
def VC:FnScope UY ["_law_n","_law_m","_law_join","_law_name","_law_rows_here"] (zw ZH):=v7
def Uo:SF:=
 (zp (yK (zY (aC (f2 zg zi zF) aN) z_) (gN 5)<|yK (zY (aC (f2 zg zi zF) aN) z_) (gN 6)<|zp (Zo (fP (aC yP yW) LC)<|gT 2<|yd (gN 7)<|yd (gN 8) xG)
  (zp (Zo (fP (aC y9 yW) LC)<|gT 2<|yd (gN 9)<|yd (gN 10) xG)
  (zp (zz true 11<|f2 (f2 zu (f2 (f2 zZ (fV 8) zk) yR zk) zk) (f2 (f2 zZ (fV 10) zk) (fV 9) zk) zk)
  (xB (fT<|f2 (f2 (f2 zZ (f2 (f2 (fV 8) (fV 10) zA) zi zy) zk) (f2 (f2 zu yR zk) (fV 9) zk) zk) yO<|zt .NotEq) (zV<|yh<|dC (fC<|.str "doing")<|dC zC<|dC yR<|dC (fV 8)<|dC (fV 9)<|dC (fV 10) dN) xQ))))
  (zV<|fC .non))
def ZK:Fn:=wQ 12 5 Uo
abbrev Ra:List Str:=["_law_algebra_here","_law_n","_law_m","_law_join","_law_nothing","_law_deeds","_law_signs_here","_law_found","_law_name","_law_rows_here"]
def VA:FnScope Ra ["_law_algebra_here"] (zw Zv):=v7
def Uu:SF:=
 (zp (Zo zg<|gT 6<|yd (gN 1)<|yd (gN 2)<|yd (gN 3)<|yd wO<|yd (gN 5)<|yd (gN 6) xG)
  (zp (zz true 7<|zx (aC zi<|aC zC<|aC zZ aN) ZO)
  (zp (yK (Wa yP) (gT 2<|yd (gN 8)<|yd (gN 9) xG)<|zp (xB (YW (fT<|f2 yR (fC .non)<|zt .Is)<|fT<|f2 (f2 (f2 (fV 9) zL zk) zZ zk) zZ<|zt .NotEq) (zz true 7<|yh<|dC (fC<|.str "empty")<|dC (fV 8) dN) xQ)
  (xB (fT<|f2 yR (fC .non)<|zt .Is) (zz true 7<|zx (aC zi<|aC zu<|aC zC<|aC (fV 8)<|aC (fV 9) aN) ZK) xQ))
  (zV yR))))
def ZC:Fn:=wQ 10 1 Uu
abbrev TN:List Str:=["_law_algebra_here","_law_cell","_law_n","_law_m","_law_join","_law_nothing","_law_deeds","_law_signs_here","_law_xs","_law_joins_here","_law_told","_law_way","_law_rows_here"]
def vE:FnScope TN ["_law_algebra_here","_law_cell"] (zw Yk):=v7
def PX:SF:=
 (zp (Zo zg<|gT 6<|yd (gN 2)<|yd (gN 3)<|yd wO<|yd (gN 5)<|yd (gN 6)<|yd (gN 7) xG)
  (zp (zz true 8<|zx (aC zi<|aC vd aN) yo)
  (zp (zz false 9<|zr (yu zZ) [none] zG zN<|fP xq lstP)
  (zp (zz false 10<|zr (yu y9) [none,none] (gT 2<|yd zG<|yd (gN 1) xG) zN<|yh<|dC zg<|dC (zr (yu zi) [none] zG zN<|fP xq lstP) dN)
  (zp (zz true 11<|f2 (f2 (fV 8) zL zk) Xf zy)
  (zp (xB (fT<|f2 yO zL<|zt .Eq) (zz true 5<|f2 (f2 (fV 8) zH zk) zu zy) xQ)
  (zp (xB (vA (fT<|f2 yO zH<|zt .Eq)<|fT<|f2 yO yq<|zt .Eq) (MD 9 (Xu (Mj 8<|xC 2)<|xV 2) (Xu (Mj 8<|xC 3)<|xV 2)<|Xu (Mj 8<|xC 4)<|xV 2) xQ)
  (zp (xB (YW (fT<|f2 yO yq<|zt .Gt)<|fT<|f2 (fV 10) (yA dN)<|zt .NotEq) (SM 12 10 (Xu (Mj 8<|xC 5)<|HF 10) 1 (Xu (Mj 8<|xC 6)<|xV 3) (Xu (Mj 8<|xC 7)<|xV 2)<|Xu (Mj 8<|xC 4)<|xV 2) xQ)
  (zV<|yh<|dC zu<|dC zC<|dC (fV 9)<|dC yP<|dC (fV 10)<|dC yR dN)))))))))
def Yz:Fn:=wQ 13 2 PX
abbrev Qr:List Str:=["_law_cell","_law_base","_law_many","_law_found","_law_k"]
def We:FnScope Qr ["_law_cell","_law_base","_law_many"] (zw vZ):=v7
def Qp:SF:=
 (zp (zz false 3<|yA dN)
  (zp (yK (zY xg z_) wO<|zp (yI<|xt 3 (dC (f2 zg zi zy) dN) xF)
  (zz true 0<|f2 zg zi zB))
  (zV zC)))
def wF:Fn:=wQ 5 3 Qp
abbrev Y3:List Str:=["_law_algebra_here","_law_cell","_law_n","_law_m","_law_join","_law_nothing","_law_deeds","_law_signs_here","_law_digits_here","_law_joins_here","_law_told","_law_k","_law_at"]
def ZZ:FnScope Y3 ["_law_algebra_here","_law_cell"] (zw wo):=v7
def Y0:SF:=
 (zp (Zo zg<|gT 6<|yd (gN 2)<|yd (gN 3)<|yd wO<|yd (gN 5)<|yd (gN 6)<|yd (gN 7) xG)
  (zp (zz true 8<|zx (aC zi<|aC zu<|aC (f2 (f2 zH (f2 zu zu zF) zA) (f2 (f2 zu zC zF) (fP (aC y9 aN) xx) zF) zA) aN) wF)
  (zp (zz true 9<|zr (zY xg z_) [none,some 8,some 2] zG zN<|ZW zi (oS<|f2 zH (f2 zu zg zF) zA) (oS<|f2 (f2 zH (f2 zu zg zF) zA) zu zA) Qa)
  (zp (zz false 10<|yA dN)
  (zp (yK (zY (aC (fP (aC y9 aN) xx) aN) z_) (gN 11)<|zp (zz true 12<|f2 (f2 zH (f2 zu zu zF) zA) (f2 (f2 zu zC zF) yO zF) zA)
  (yI<|xt 10 (dC (yh<|dC (f2 (f2 y9 yO zk) zL zk)<|dC (zr (zY Xg z_) [none,some 8,some 12,some 2] zG zN<|ZW zi (oS<|f2 zu (f2 zC zg zF) zA) (oS<|f2 (f2 zu (f2 zC zg zF) zA) zC zA) Qa) dN) dN) xF))
  (zV<|yh<|dC zu<|dC zC<|dC (fV 9)<|dC (f2 (fV 8) zL zk)<|dC (fV 10)<|dC yR dN))))))
def vK:Fn:=wQ 13 2 Y0
abbrev GX:List Str:=["_law_script","_law_cell","_law_algebra_here"]
def T6:FnScope GX ["_law_script"] (zw XT):=v7
def Kk:SF:=
 (zp (zz true 1<|zx (aC zg<|aC yq aN) yi)
  (zp (zz true 2<|zx (aC (zx (aC zg<|aC zL aN) yi)<|aC (zx (aC zg<|aC zH aN) yi) aN) xO)
  (zp (xB (fT<|f2 (f2 zi yq zy) zH<|zt .Eq) (zV<|zx (aC zu<|aC (f2 zi yq zB) aN) vK) xQ)
  (zV<|zx (aC zu<|aC (f2 zi yq zB) aN) Yz))))
def XX:Fn:=wQ 3 1 Kk
abbrev TV:List Str:=["_law_script","_law_some"]
def Uw:FnScope TV ["_law_script"] (zw Yq):=v7
def TR:SF:=
 (zp (zz true 1<|zx xq XX)
  (zp (xB (YW (fT<|f2 (f2 (zx (aC zg<|aC yq aN) yi) yq zy) zH<|zt .Eq)<|fT<|f2 (zx yW ZC) (fC .non)<|zt .Is) (zV zi) xQ)
  (zV<|zx (aC (zx (aC zg<|aC zL aN) yi)<|aC (zx (aC zg<|aC zH aN) yi) aN) xO)))
def Vg:Fn:=wQ 2 1 TR
abbrev Kn:List Str:=["_law_algebra_here","_law_cell","_law_n","_law_m","_law_join","_law_nothing","_law_deeds","_law_signs_here","_law_x","_law_values"]
def PC:FnScope Kn ["_law_algebra_here","_law_cell"] (zw XZ):=v7
def Kc:SF:=
 (zp (Zo zg<|gT 6<|yd (gN 2)<|yd (gN 3)<|yd wO<|yd (gN 5)<|yd (gN 6)<|yd (gN 7) xG)
  (zp (xB (vA (fT<|f2 (f2 zi yq zy) zL<|zt .Eq)<|fT<|f2 yR (yA dN)<|zt .Eq) (zV zg) xQ)
  (zp (zz true 8<|f2 (zx (aC zi<|aC zH aN) yo) zL zk)
  (zp (zz true 9<|zr (zY xg z_) [none,some 2,some 4,some 8] zG (fT<|f2 (f2 (f2 zu zg zk) (f2 zC zi zy) zk) (f2 (f2 zC vd zB) zi zy)<|zt .Eq) zg)
  (zV<|yh<|dC zu<|dC zC<|dC zZ<|dC yP<|dC y9<|dC (yA<|dC (yh<|dC (f2 (f2 yR zL zk) zL zk)<|dC (fV 9) dN) dN) dN)))))
def QC:Fn:=wQ 10 2 Kc
abbrev Wl:List Str:=["_law_algebra_here","_law_order_here","_law_n","_law_m","_law_join","_law_nothing","_law_deeds","_law_signs_here","_law_back","_law_joins_here","_law_told","_law_held"]
def Xq:FnScope Wl ["_law_algebra_here","_law_order_here"] (zw vz):=v7
def W3:SF:=
 (zp (Zo zg<|gT 6<|yd (gN 2)<|yd (gN 3)<|yd wO<|yd (gN 5)<|yd (gN 6)<|yd (gN 7) xG)
  (zp (zz true 8<|zr (zY xg z_) [none,some 1] zG zN<|wV .lst zi xq wC)
  (zp (zz true 9<|zr (zY xg z_) [none,some 1,some 2,some 4,some 8] zG zN<|zr (zY xg z_) [none,some 1,some 3,some 4,some 0] zG zN<|f2 zi (f2 (f2 zu (f2 zC zZ zk) zk) (f2 zC zg zk) zk) zk)
  (zp (zz true 10<|zr (yu y9) [none,none,some 1,some 2,some 8] (gT 2<|yd zG<|yd (gN 1) xG) zN<|yh<|dC zg<|dC (zr (yu zi) [none,some 2,some 3,some 4] zG zN<|zr (zY xg z_) [none,some 1,some 0,some 3] zG zN<|f2 zi (f2 zu (f2 zC zg zk) zk) zk) dN)
  (zp (zz true 11<|zr (yu yR) [none,none,some 1] (gT 2<|yd zG<|yd (gN 1) xG) zN<|yh<|dC zg<|dC (fP (aC (zr (yu zi) [none,some 2] zG zN<|f2 zi zg zk) aN) PV) dN)
  (zV<|yh<|dC zu<|dC zC<|dC (fV 9)<|dC (f2 zi yP zk)<|dC (fV 10)<|dC yO dN))))))
def ZQ:Fn:=wQ 12 2 W3
abbrev Q9:List Str:=["_law_algebra_here","_law_x","_law_n","_law_m","_law_join","_law_nothing","_law_deeds","_law_signs_here","_law_held"]
def Qd:FnScope Q9 ["_law_algebra_here","_law_x"] (zw Zw):=v7
def UW:SF:=
 (zp (Zo zg<|gT 6<|yd (gN 2)<|yd (gN 3)<|yd wO<|yd (gN 5)<|yd (gN 6)<|yd (gN 7) xG)
  (zp (xB (fT<|f2 (f2 zi (fC<|.int 9) zy) zH<|zt .Eq) (zV<|zx (aC zg yW) Yz) xQ)
  (zp (xB (fT<|f2 (f2 zi (fC<|.int 9) zy) yq<|zt .Eq) (zV<|yh<|dC zu<|dC zC<|dC zZ<|dC yP<|dC (ZW y9 oN (oS<|f1 zH Rm) J5)<|dC yR dN) xQ)
  (zp (xB (fT<|f2 (f2 zi (fC<|.int 9) zy) xr<|zt .Eq) (zV<|yh<|dC zu<|dC zC<|dC zZ<|dC yP<|dC y9<|dC (ZW yR oN (oS<|f1 zH Rm) J5) dN) xQ)
  (zp (xB (fT<|f2 (f2 zi (fC<|.int 9) zy) yV<|zt .Eq) (zp (zz true 8<|zr (yu yR) [none,none,some 2] (gT 2<|yd zG<|yd (gN 1) xG) zN<|yh<|dC zg<|dC (zr (zY xg z_) [none,some 1] zG (fT<|f2 zg zi<|zt .NotIn) zg) dN)
  (zV<|yh<|dC zu<|dC zC<|dC zZ<|dC yP<|dC y9<|dC (fV 8) dN)) xQ)
  (zp (xB (fT<|f2 (f2 zi (fC<|.int 9) zy) wR<|zt .Eq) (zV<|yh<|dC zu<|dC zC<|dC zZ<|dC yP<|dC (ZW y9 (oS zH) oN Qa)<|dC yR dN) xQ)
  (zp (xB (YW (fT<|f2 (f2 zi (fC<|.int 9) zy) Xf<|zt .Eq)<|fT<|f2 y9 (yA dN)<|zt .Eq) (zV<|yh<|dC zu<|dC (f2 (f2 zC Xf zy) zH zA)<|dC zZ<|dC yP<|dC y9<|dC yR dN) xQ)
  (zV zg))))))))
def ZG:Fn:=wQ 9 2 UW
abbrev xj:List Str:=["_law_one","_law_other_here","_law_numbers_here","_law_good_here","_law_k","_law_a","_law_b","_law_made_here","_law_here","_law_there","_law_row","_law_again","_law_held"]
def zO:FnScope xj ["_law_one","_law_other_here","_law_numbers_here"] (zw yL):=v7
def Wd:(["_law_v","_law_other_here"]:List Str).Nodup:=by decide +kernel
def Wc:(["_law_v","_law_numbers_here"]:List Str).Nodup:=by decide +kernel
def Wb:(["_law_v","_law_here"]:List Str).Nodup:=by decide +kernel
def Z0:SF:=
 (zp (xB (vA (fT<|f2 (fP xg xx) (f2 zg zL zk)<|zt .NotEq)<|fT<|f2 (zr (yu zu) [none,some 1] zG (wU<|fT<|wa zL zg (f2 zi zL zk) (zt .LtE)<|zt .Lt) zg) (yA dN)<|zt .NotEq) (zV<|fC<|.bl false) xQ)
  (zp (xB (vA (fT<|f2 (f2 zg zH zk) (f2 zi zH zk)<|zt .NotEq)<|vA (fT<|f2 (fP (aC (f2 zg yV zk) aN) xx) (fP (aC (f2 zi yV zk) aN) xx)<|zt .NotEq)<|fT<|f2 (fP (aC (f2 zg wR zk) aN) xx) (fP (aC (f2 zi wR zk) aN) xx)<|zt .NotEq) (zV<|fC<|.bl false) xQ)
  (zp (zz true 3<|f2 (f2 zu (f2 zg xr zk) zk) (f2 zi xr zk)<|zt .Eq)
  (zp (yK (zY (aC (f2 (f2 zg zL zk) (f2 zg zL zk) zF) aN) z_) wO<|zp (Zo (fP (aC zZ<|aC (f2 zg zL zk) aN) LC)<|gT 2<|yd (gN 5)<|yd (gN 6) xG)
  (zp (zz true 7<|f2 (f2 (f2 zi yq zk) (f2 zu yP zk) zk) (f2 zu y9 zk) zk)
  (zz true 3<|YF zC<|f2 (f2 zu (f2 (f2 (f2 zg yq zk) yP zk) y9 zk) zk) yR<|zt .Eq)))
  (zp (yK (Qk<|aC (f2 zg yV zk)<|aC (f2 zi yV zk) aN) (gT 2<|yd (gN 8)<|yd (gN 9) xG)<|zp (zz true 3<|YF zC<|f2 (f2 (fV 8) zL zk) (f2 (fV 9) zL zk)<|zt .Eq)
  (yK (Qk<|aC (f2 (fV 8) zH zk)<|aC (f2 (fV 9) zH zk) aN) (gT 2<|yd (gN 10)<|yd (gN 11) xG)<|zp (zz true 7<|zr (yu zu) [none,some 11] zG zN<|f2 zi zg zk)
  (zz true 3<|YF zC<|f2 (zr (yu<|fV 10) [none,some 2] zG zN<|f2 zi zg zk) yR<|zt .Eq)))
  (zp (yK (Qk<|aC (f2 zg wR zk)<|aC (f2 zi wR zk) aN) (gT 2<|yd (gN 8)<|yd (gN 9) xG)<|zp (zz true 3<|YF zC<|f2 (f2 (fV 8) zL zk) (f2 (fV 9) zL zk)<|zt .Eq)
  (zp (zz true 12<|zr (yu zu) [none,some 9] zG zN<|f2 zg (f2 zi zH zk)<|zt .In)
  (zz true 3<|YF zC<|f2 (zr (zY (aC (f2 zg zL zk) aN) z_) [none,some 8] zG zN<|f2 zg (f2 zi zH zk)<|zt .In) (fV 12)<|zt .Eq)))
  (zV zC)))))))
def yY:Fn:=wQ 13 3 Z0
abbrev WK:List Str:=["_law_numbers_here","_law_n","_law_x","_law_at","_law_odd","_law_some"]
def Xn:FnScope WK ["_law_numbers_here","_law_n","_law_x"] (zw vo):=v7
def WU:SF:=
 (zp (zz true 3<|f2 (f2 zu vd zB) (fP xq xx) zy)
  (zp (zz true 4<|f2 (yA<|dC (f2 (f2 zu (fC<|.int 64) zB) zi zy)<|dC zi<|dC (f1 zH Rm)<|dC (f2 zi zu zA)<|dC (f2 (f1 zH Rm) zu ZT) dN) (f2 (f2 zu vd zB) wR zy) zk)
  (zp (zz true 5<|yA<|dC zg<|dC zg<|dC (f2 (f2 (ZW zg oN (oS zC) Qa) (yA<|dC zZ dN) zA) (ZW zg (oS<|f2 zC zH zA) oN Qa) zA)<|dC (f2 zg (yA<|dC zZ dN) zA)<|dC (ZW zg oN (oS<|f1 zH Rm) Qa)<|dC (yA dN) dN)
  (zV<|f2 (f2 yP (yA<|dC (ZW zg oN (oS<|f1 zH Rm) J5)<|dC (zx (aC (f2 zu vd zB)<|aC zi<|aC (fP xq xx) aN) wF) dN) zA) (f2 zu vd zy) zk))))
def vh:Fn:=wQ 6 3 WU
abbrev Jx:List Str:=["_law_script","_law_algebra_here","_law_least","_law_numbers_here","_law_order_here","_law_named","_law_pairs","_law_one","_law_other_here","_law_some","_law_cell","_law_x","_law_there","_law_handed","_law_kept_here","_law_found"]
def O3:FnScope Jx ["_law_script"] (zw Fz):=v7
def Jj:SF:=
 (zp (zz true 1<|zx (aC (zx xq Vg)<|aC (zx (aC zg<|aC yV aN) yi) aN) QC)
  (zp (Zo (zx yW xM)<|gT 2<|yd (gN 2)<|yd (gN 3) xG)
  (zp (zz true 4<|zx (aC (zx (aC zg<|aC xr aN) yi)<|aC (f2 zi zL zk) aN) Zz)
  (zp (zz true 5<|zx (aC zi<|aC zZ aN) ZQ)
  (zp (zz false 6<|yA<|dC (yh<|dC zi<|dC zu<|dC zC dN)<|dC (yh<|dC zi<|dC yP<|dC zZ dN)<|dC (yh<|dC zi<|dC zi<|dC zZ dN) dN)
  (zp (yI<|xt 6 (dC (yh<|dC (zx xq XX)<|dC zi<|dC (fP (aC (f2 zi zL zk) aN) Ce) dN) dN) xF)
  (zp (yK (Wa y9) (gT 3<|yd (gN 7)<|yd (gN 8)<|yd (gN 9) xG)<|yK (Wa<|f2 (yA<|dC zL dN) (ZW zg (oS yV) (oS<|fC<|.int 12) Qa) zA) (gN 10)<|zp (zz true 11<|f2 (f2 (zx (aC (fV 10)<|aC zH aN) yo) zL zk) (fP (aC (f2 (fV 10) zL<|zt .NotEq) aN) V0) zF)
  (zp (zz true 12<|zx (aC (fV 8)<|aC (f2 yO vd zB) aN) ZG)
  (zp (zz true 13<|zx (aC (fV 9)<|aC (f2 (fV 12) zL zk)<|aC yO aN) vh)
  (zp (zz true 14<|fP (aC (fV 13) aN) lstP)
  (zp (zz true 15<|zx (aC yR<|aC (fV 12)<|aC (fV 13) aN) yX)
  (zp (xB (vA (wU<|fT<|GH (fV 15) "bool")<|fT<|f2 (fV 13) (fV 14)<|zt .NotEq) (zV<|fC<|.bl false) xQ)
  (xB (fT<|f2 (fV 15) (zx (aC yR<|aC (fV 12)<|aC (fV 14) aN) yY)<|zt .NotEq) (zV<|fC<|.bl false) xQ)))))))
  (zp (xB (fT<|f2 (zx (aC zi<|aC zu Xg) yX) (fC<|.bl true)<|zt .IsNot) (zV<|fC<|.bl false) xQ)
  (zV<|f2 (zx (aC zi<|aC yP<|aC zZ aN) yX) (fC<|.bl true)<|zt .Is)))))))))
def Kb:Fn:=wQ 16 1 Jj
structure Fq(K:zzA)(mg:Str->Option Value)(x:Str)(st:Stmt)(f:Addr)(d:FuncData)(ps:List Str):Prop where
 F:Fun K x x st f d
 b:Binds K d ps []
 m:mg x=some (.ref f)
def vX{P:Program}{w:World}{K:zzA}{mg:Str->Option Value}{base:Heap}{kd:KD}{x:Str}{st:Stmt}{f:Addr}{d:FuncData}{N ps:List Str}{k:Nat}{c:SF}(Q:Fq K mg x st f d ps)(S:FnScope N ps (zw st))
 (hb:∀(cdv:Value) (A:Around) (outer:List Env) (s:Shared) (H:Hp) (E:XK),Room k (A.deeper<|envOfC x (zw st) s.heap.objs.size f cdv)->EW (Md Sm P w K mg base N x (zw st) f cdv A outer s H E).nox kd (YH st) c):
 Co x P w K mg base kd (k+1) f d ps (wQ N.length ps.length c):=⟨tB Q.F S hb,Q.m,Q.F.kp,Q.b⟩
set_option genInjectivity false in
set_option genSizeOf false in
structure Adr where
 Pj:Addr
 Tw:FuncData
 U0:Addr
 U3:FuncData
 Nu:Addr
 Nx:FuncData
 Y9:Addr
 Y2:FuncData
 Y6:Addr
 YZ:FuncData
 Wx:Addr
 Wo:FuncData
 VB:Addr
 V1:FuncData
 VI:Addr
 Vl:FuncData
 XM:Addr
 XH:FuncData
 Uc:Addr
 U5:FuncData
 Pn:Addr
 TK:FuncData
 Pd:Addr
 PR:FuncData
 Y5:Addr
 YU:FuncData
 YY:Addr
 Xd:FuncData
 TX:Addr
 TB:FuncData
 Tq:Addr
 PK:FuncData
 VQ:Addr
 Vv:FuncData
 VF:Addr
 V2:FuncData
 VD:Addr
 Qg:FuncData
 VR:Addr
 Qc:FuncData
 WM:Addr
 Wz:FuncData
 Mp:Addr
 Nt:FuncData
 Qj:Addr
 VJ:FuncData
 Ui:Addr
 UG:FuncData
 WB:Addr
 WJ:FuncData
 P0:Addr
 Pz:FuncData
 VE:Addr
 Qu:FuncData
 TU:Addr
 Pa:FuncData
 Uy:Addr
 UQ:FuncData
 RY:Addr
 Tc:FuncData
 UN:Addr
 UZ:FuncData
 Qt:Addr
 Qs:FuncData
 Ta:Addr
 PM:FuncData
 UA:Addr
 U4:FuncData
 UU:Addr
 UH:FuncData
 WS:Addr
 Wq:FuncData
 Wg:Addr
 WV:FuncData
 Uj:Addr
 Ut:FuncData
 U8:Addr
 UJ:FuncData
 PQ:Addr
 Pt:FuncData
 Vm:Addr
 VV:FuncData
 Y1:Addr
 YO:FuncData
 GP:Addr
 Ke:FuncData
 R_:Addr
 T4:FuncData
 GO:Addr
 G9:FuncData
 WQ:Addr
 WC:FuncData
 Ud:Addr
 US:FuncData
 Z3:Addr
 Z6:FuncData
 Wv:Addr
 WG:FuncData
 JK:Addr
 JW:FuncData
structure Txt(K:zzA)(kd:KD)(mg:Str->Option Value)(t:Adr):Prop where
 EK:Fq K mg "is_whole" YC t.Pj t.Tw ["thing"]
 Mt:Fq K mg "is_within" ZI t.U0 t.U3 ["thing","least","most"]
 Oc:Fq K mg "is_row" Vj t.Nu t.Nx ["thing","n"]
 Ru:Fq K mg "nothing_fails" wq t.Y9 t.Y2 ["algebra"]
 Rc:Fq K mg "parting_fails" wu t.Y6 t.YZ ["algebra"]
 Gv:Fq K mg "doing_fails" vm t.Wx t.Wo ["algebra","name","rows"]
 LA:Fq K mg "deeds_fail" vV t.VB t.V1 ["algebra"]
 L8:Fq K mg "what_fails" vU t.VI t.Vl ["algebra"]
 Tz:Fq K mg "check_let_by" wI t.XM t.XH ["algebra"]
 N4:Fq K mg "all_steps" ZE t.Uc t.U5 ["algebra"]
 Eb:Fq K mg "numbered" Yi t.Pn t.TK ["keys"]
 Ey:Fq K mg "signs_of" YG t.Pd t.PR ["algebra","value"]
 Rv:Fq K mg "class_numbers" wt t.Y5 t.YU ["algebra"]
 Rf:Fq K mg "least_algebra" wx t.YY t.Xd ["algebra"]
 MZ:Fq K mg "names_of" Yy t.TX t.TB ["told"]
 Eh:Fq K mg "are_akin" Ye t.Tq t.PK ["one","other"]
 LY:Fq K mg "keeps_join" v5 t.VQ t.Vv ["one","other","numbers"]
 Nc:Fq K mg "keeps_rows" vW t.VF t.V2 ["rows","others","numbers"]
 KH:Fq K mg "keeps_sign" Za t.VD t.Qg ["values","others","numbers"]
 Lo:Fq K mg "is_picture" Zb t.VR t.Qc ["one","other","numbers"]
 Gn:Fq K mg "_law_cell_at" vv t.WM t.Wz ["_law_script","_law_k"]
 JC:Fq K mg "_law_whole" Xp t.Mp t.Nt ["_law_found"]
 LO:Fq K mg "_law_stream" vP t.Qj t.VJ ["_law_cell","_law_many"]
 Mz:Fq K mg "_law_names" ZF t.Ui t.UG ["_law_cell","_law_many"]
 GJ:Fq K mg "_law_divisor" vg t.WB t.WJ ["_law_one","_law_other_here"]
 ML:Fq K mg "_law_sums" Yp t.P0 t.Pz ["_law_n","_law_m","_law_xs"]
 Lx:Fq K mg "_law_rising" vT t.VE t.Qu ["_law_n","_law_m","_law_xs"]
 Eg:Fq K mg "_law_kept" Yb t.TU t.Pa ["_law_n","_law_m","_law_xs"]
 N5:Fq K mg "_law_joins" Zu t.Uy t.UQ ["_law_kind","_law_n"]
 M_:Fq K mg "_law_rows" YB t.RY t.Tc ["_law_kind","_law_n","_law_m","_law_xs"]
 NM:Fq K mg "_law_plain" Zt t.UN t.UZ ["_law_kind","_law_n","_law_m","_law_many","_law_cell"]
 LX:Fq K mg "_law_beside" v3 t.Qt t.Qs ["_law_one","_law_other_here","_law_m"]
 Eu:Fq K mg "_law_made" Yo t.Ta t.PM ["_law_cell","_law_m","_law_many"]
 N2:Fq K mg "_law_order" Zx t.UA t.U4 ["_law_cell","_law_n"]
 Mf:Fq K mg "_law_signs" ZL t.UU t.UH ["_law_cell","_law_n","_law_names_here"]
 GG:Fq K mg "_law_algebra" vt t.WS t.Wq ["_law_cell","_law_other_here"]
 Gb:Fq K mg "_law_parting" vq t.Wg t.WV ["_law_n","_law_join","_law_nothing"]
 NX:Fq K mg "_law_doing" ZH t.Uj t.Ut ["_law_n","_law_m","_law_join","_law_name","_law_rows_here"]
 NF:Fq K mg "_law_fails" Zv t.U8 t.UJ ["_law_algebra_here"]
 Ep:Fq K mg "_law_bent" Yk t.PQ t.Pt ["_law_algebra_here","_law_cell"]
 LI:Fq K mg "_law_digits" vZ t.Vm t.VV ["_law_cell","_law_base","_law_many"]
 Rq:Fq K mg "_law_by_digits" wo t.Y1 t.YO ["_law_algebra_here","_law_cell"]
 Bx:Fq K mg "_law_any" XT t.GP t.Ke ["_law_script"]
 Ei:Fq K mg "_law_good" Yq t.R_ t.T4 ["_law_script"]
 Bp:Fq K mg "_law_few" XZ t.GO t.G9 ["_law_algebra_here","_law_cell"]
 GD:Fq K mg "_law_renamed" vz t.WQ t.WC ["_law_algebra_here","_law_order_here"]
 Nm:Fq K mg "_law_other" Zw t.Ud t.US ["_law_algebra_here","_law_x"]
 QW:Fq K mg "_law_is_picture" yL t.Z3 t.Z6 ["_law_one","_law_other_here","_law_numbers_here"]
 GB:Fq K mg "_law_numbers" vo t.Wv t.WG ["_law_numbers_here","_law_n","_law_x"]
 uC:Fq K mg "law" Fz t.JK t.JW ["_law_script"]
 tT:mg "all"=none
 DD:mg "bool"=none
 S9:mg "divmod"=none
 My:mg "enumerate"=none
 JA:mg "int"=none
 YL:mg "isinstance"=none
 Ma:mg "len"=none
 M8:mg "list"=none
 su:mg "max"=none
 Qb:mg "range"=none
 sG:mg "set"=none
 Ss:mg "sorted"=none
 IR:mg "tuple"=none
 NJ:mg "zip"=none
set_option maxHeartbeats 8000000
section
variable{P:Program}{w:World}{K:zzA}{mg:Str->Option Value}{base:Heap}{kd:KD}{t:Adr}
local macro_rules | `(tactic| trivial)=>do let T:=Lean.mkIdent `T;let h:=Lean.mkIdent `hkd;let r:=Lean.mkIdent `hr;`(tactic| first|(show AE _ _ _ _;first|exact av _|exact aI|(refine ax $h ?_ ?_<;>trivial)|(refine bn ?_ ?_<;>trivial)|exact aS|exact aZ|exact aB|(refine ec $h $r ?_ ?_<;>trivial)|(refine ec $h $r ?_ ?_ (hm:=rfl)<;>trivial)|(refine cq (by assumption) $r ?_<;>trivial)|(refine S3 ?_;trivial)|(refine EU ?_;trivial)|(refine cm ?_ ?_ ?_ ?_<;>trivial)|(refine Hn ?_ ?_ ?_<;>trivial)|(refine Bq ?_ ?_ ?_<;>trivial)|(refine DT ?_ ?_<;>trivial)|(refine bi (Kw ($h _ rfl rfl rfl)) (Txt.Ma $T) Bt.len ?_;trivial)|(refine bi (BM rfl) (Txt.su $T) Bt.max ?_;trivial)|(refine bi (Sj rfl) (Txt.tT $T) Bt.all ?_;trivial)|(refine bi MK (Txt.Ss $T) Bt.sorted ?_;trivial)|(refine bi Bz (Txt.S9 $T) Bt.divmod ?_;trivial)|(refine qh ER (Txt.JA $T) Bt.int ?_;trivial)|(refine Er ($h _ rfl rfl rfl) rfl rfl (Txt.YL $T) Bt.isinstance rfl (Txt.JA $T) Bt.int ?_ (Bt.n _ rfl) (by decide) (Bt.n _ rfl) (by decide) rfl rfl rfl;trivial)|(refine qh BH (Txt.IR $T) Bt.tuple ?_;trivial)|(refine qh BN (Txt.M8 $T) Bt.list ?_;trivial)|(refine Er ($h _ rfl rfl rfl) rfl rfl (Txt.YL $T) Bt.isinstance rfl (Txt.M8 $T) Bt.list ?_ (Bt.n _ rfl) (by decide) (Bt.n _ rfl) (by decide) rfl rfl rfl;trivial)|(refine Er ($h _ rfl rfl rfl) rfl rfl (Txt.YL $T) Bt.isinstance rfl (Txt.DD $T) Bt.bool ?_ (Bt.n _ rfl) (by decide) (Bt.n _ rfl) (by decide) rfl rfl rfl;trivial)|(refine B3 rfl rfl (Txt.Qb $T) rfl (Txt.M8 $T) ?_ rfl rfl;trivial)|(refine Bl rfl rfl (Txt.sG $T) rfl (Txt.Ma $T) ?_ rfl rfl;trivial)|(refine DH ?_;trivial)|(refine sr rR ?_;trivial)|(refine PZ ?_ ?_<;>trivial)|(refine PL ?_;trivial)|(refine Mg (Zk ($h _ rfl rfl rfl) (YS $r) _) (Zk ($h _ rfl rfl rfl) (YS $r) _) ?_ ?_ ?_ (by with_unfolding_all rfl)<;>trivial)|(refine Jn (u7 (JQ $r)) ?_ ?_ (λ_ _=>rfl)<;>trivial)|exact Au|exact ae_d0|(refine MR Bv J6 PySem.F.slot_list_append PySem.F.type_list_append (pv _) ?_ rfl rfl rfl rfl rfl;trivial)|(refine MR Sv HJ PySem.F.slot_list_pop PySem.F.type_list_pop (pv _) ?_ rfl rfl rfl rfl rfl;trivial)|(refine MR BG DW PySem.F.slot_list_extend PySem.F.type_list_extend (pv _) ?_ rfl rfl rfl rfl rfl;trivial)|(refine Fs (ty:=.str) ($h _ rfl rfl rfl) Cq PySem.F.plainAttrs_str PySem.F.slot_str_join PySem.F.type_str_join ?_ ?_ rfl rfl rfl rfl rfl<;>trivial)|(refine Fs (ty:=.lst) ($h _ rfl rfl rfl) (Sx ($h _ rfl rfl rfl) (YS $r)) PySem.F.plainAttrs_list PySem.F.slot_list_index PySem.F.type_list_index ?_ ?_ rfl rfl rfl rfl rfl<;>trivial))|(show AA _ _ _ _;first|(refine bc ?_ ?_<;>trivial)|exact XI)|exact K2|(refine E8 ?_;trivial)|(intro _;trivial)|(show Ks _ _ _ _;first|(refine oy (by assumption) ?_ ?_ ?_ ?_<;>trivial)|(refine Aa (JQ $r) (pv _) ?_ rfl rfl rfl rfl rfl rfl;trivial)|(refine Tf ?_;trivial)|(refine Om ?_ ?_ ?_<;>trivial)|(refine oC ?_ ?_ ?_<;>trivial)|(refine SW PassesOwn.never ?_ ?_<;>trivial)|(refine IG ?_ rfl;trivial)|(refine sv _ _ (by assumption) ?_;trivial)|(refine DN rfl (by assumption) rfl rfl (by decide) rfl rfl ?_ rfl rfl;trivial)|(refine qy ?_ ?_<;>trivial)|(refine Cz (pv _) ?_ ?_ (λ_=>rfl) rfl rfl rfl<;>trivial)|(refine CO (pv _) ?_ (λ_ _=>rfl) ?_ ?_ (λ_=>rfl) rfl rfl rfl<;>trivial)|exact tQ)|(show EW _ _ _ _;first|(refine sj _ (by assumption) ?_ ?_<;>trivial)|(refine yS ?_ ?_<;>trivial)|(refine vS ?_;trivial)|exact KA)|(show AT _ _ _ _;first|(refine tc $h $r ?_ ?_<;>trivial)|(refine tc $h $r ?_ ?_ (hm:=rfl)<;>trivial)|(refine NI (Zk ($h _ rfl rfl rfl) (YS $r) _) (Zk ($h _ rfl rfl rfl) (YS $r) _) (L0 _) ?_ ?_ ?_ (by with_unfolding_all rfl)<;>trivial)|(refine Ov ?_;trivial)|(refine J7 ?_ (λ_=>rfl);trivial)|(refine AW.at_ ?_;trivial))|(show AD _ _ _ _;first|(refine bd ?_ ?_<;>trivial)|exact LF)|(show AO _ _ _ _;first|(refine FO ?_;trivial)|exact Jg)|(show AG _ _ _ _ _;first|exact an _ (by assumption)|exact an _ (oQ (by kernel_rfl))|(refine P4 rfl ?_ rfl rfl;trivial))|(show JO _ _ _ _ _;first|(refine oP ?_ ?_<;>trivial)|exact Vx)|(show uw _ _ _ _;first|exact qC _ (by assumption)|(refine qw ?_;trivial))|(show OV _ _ _ _;first|(refine r_ ?_ ?_<;>trivial)|exact rL)|(show CV _ _ _ _ _;first|(refine Kl rfl (Txt.Qb $T) ?_ rfl;trivial)|(refine I0 rfl (Txt.My $T) ?_ rfl;trivial)|(refine Cy rfl (Txt.NJ $T) ?_ rfl rfl;trivial)|(refine ET ?_;trivial))|(show AI _ _ _ _ _;first|(refine Ki rfl (Txt.Qb $T) ?_ rfl;trivial)|(refine Na rfl (Txt.NJ $T) ?_ rfl rfl;trivial)|(refine Ae ?_;trivial))|(show AW _ _ _ _;first|(refine JL ?_ ?_<;>trivial)|(refine Hv ?_ ?_<;>trivial)|(refine G1 ?_;trivial)|(refine RP ?_;trivial))|(show AK _ _ _ _;first|exact P_|exact L9 (pv _)|(refine Nl (pv _) ?_ (λ_ _=>rfl);trivial)|(refine P7 ?_ ?_<;>trivial)|exact SV rfl (Txt.Ma $T) Bt.len (pv _) rfl rfl))
def MU(T:Txt K kd mg t)(hkd:vk P w K kd):Co "is_whole" P w K mg base kd 1 t.Pj t.Tw ["thing"] W_:=by
 refine vX (N:=Ts) (k:=0) (c:=Tg) T.EK Q_ λ_ _ _ _ _ _ hr=>?_;have:=Q_.nd;conv=>arg 3;whnf
 trivial
def Nw(T:Txt K kd mg t)(hkd:vk P w K kd):Co "is_within" P w K mg base kd 2 t.U0 t.U3 ["thing","least","most"] vC:=by
 refine vX (N:=UT) (k:=1) (c:=Um) T.Mt L6 λcdv A outer s H E hr=>?_;exact(vS<|Tf<|PZ (cq (MU T hkd) hr<|bc (av 0) XI)<|PL<|Mg (Zk (hkd _ rfl rfl rfl) (YS hr) .LtE) (Zk (hkd _ rfl rfl rfl) (YS hr) .LtE) (av 1) (av 0) (av 2)<|by with_unfolding_all rfl)
def H9(T:Txt K kd mg t)(hkd:vk P w K kd):Co "is_row" P w K mg base kd 3 t.Nu t.Nx ["thing","n"] Z1:=by
 refine vX (N:=Mv) (k:=2) (c:=Ms) T.Oc G3 λ_ _ _ _ _ _ hr=>?_;have:=G3.nd;have:=Nw (base:=base) T hkd;conv=>arg 3;whnf
 trivial
def Rj(T:Txt K kd mg t)(hkd:vk P w K kd):Co "nothing_fails" P w K mg base kd 1 t.Y9 t.Y2 ["algebra"] vH:=by
 refine vX (N:=Xa) (k:=0) (c:=YN) T.Ru Z7 λ_ _ _ _ _ _ hr=>?_;have:=Z7.nd;conv=>arg 3;whnf
 trivial
def Rn(T:Txt K kd mg t)(hkd:vk P w K kd):Co "parting_fails" P w K mg base kd 1 t.Y6 t.YZ ["algebra"] vG:=by
 refine vX (N:=YX) (k:=0) (c:=YR) T.Rc Z5 λ_ _ _ _ _ _ hr=>?_;have:=Z5.nd;conv=>arg 3;whnf
 trivial
def Gz(T:Txt K kd mg t)(hkd:vk P w K kd):Co "doing_fails" P w K mg base kd 1 t.Wx t.Wo ["algebra","name","rows"] vp:=by
 refine vX (N:=W0) (k:=0) (c:=Wi) T.Gv XF λ_ _ _ _ _ _ hr=>?_;have:=XF.nd;conv=>arg 3;whnf
 trivial
def K8(T:Txt K kd mg t)(hkd:vk P w K kd):Co "deeds_fail" P w K mg base kd 2 t.VB t.V1 ["algebra"] YD:=by
 refine vX (N:=VW) (k:=1) (c:=V6) T.LA Wy λ_ _ _ _ _ _ hr=>?_;have:=Wy.nd;have:=Gz (base:=base) T hkd;conv=>arg 3;whnf
 trivial
def Lg(T:Txt K kd mg t)(hkd:vk P w K kd):Co "what_fails" P w K mg base kd 3 t.VI t.Vl ["algebra"] Yr:=by
 refine vX (N:=VX) (k:=2) (c:=Vk) T.L8 Wr λ_ _ _ _ _ _ hr=>?_;have:=Wr.nd;have:=Rj (base:=base) T hkd;have:=Rn (base:=base) T hkd;have:=K8 (base:=base) T hkd;conv=>arg 3;whnf
 trivial
def TY(T:Txt K kd mg t)(hkd:vk P w K kd):Co "check_let_by" P w K mg base kd 4 t.XM t.XH ["algebra"] xo:=by
 refine vX (N:=Xx) (k:=3) (c:=Zd) T.Tz Xb λ_ _ _ _ _ _ hr=>?_;have:=Xb.nd;have:=Lg (base:=base) T hkd;conv=>arg 3;whnf
 trivial
def NK(T:Txt K kd mg t)(hkd:vk P w K kd):Co "all_steps" P w K mg base kd 1 t.Uc t.U5 ["algebra"] Xz:=by
 refine vX (N:=UR) (k:=0) (c:=Uv) T.N4 VO λ_ _ _ _ _ _ hr=>?_;have:=VO.nd;conv=>arg 3;whnf
 trivial
def MV(T:Txt K kd mg t)(hkd:vk P w K kd):Co "numbered" P w K mg base kd 1 t.Pn t.TK ["keys"] vb:=by
 refine vX (N:=Tu) (k:=0) (c:=Pw) T.Eb Ul λ_ _ _ _ _ _ hr=>?_;have:=Ul.nd;conv=>arg 3;whnf
 trivial
def Ea(T:Txt K kd mg t)(hkd:vk P w K kd):Co "signs_of" P w K mg base kd 1 t.Pd t.PR ["algebra","value"] W6:=by
 refine vX (N:=TM) (k:=0) (c:=Tx) T.Ey UD λ_ _ _ _ _ _ hr=>?_;have:=UD.nd;conv=>arg 3;whnf
 trivial
def Re(T:Txt K kd mg t)(hkd:vk P w K kd):Co "class_numbers" P w K mg base kd 2 t.Y5 t.YU ["algebra"] wm:=by
 refine vX (N:=Xe) (k:=1) (c:=Y_) T.Rv Z2 λ_ _ _ _ _ _ hr=>?_;have:=Z2.nd;have:=NK (base:=base) T hkd;have:=MV (base:=base) T hkd;have:=Ea (base:=base) T hkd;conv=>arg 3;whnf
 trivial
def Rk(T:Txt K kd mg t)(hkd:vk P w K kd):Co "least_algebra" P w K mg base kd 5 t.YY t.Xd ["algebra"] xM:=by
 refine vX (N:=Y4) (k:=4) (c:=YV) T.Rf ZY λ_ _ _ _ _ _ hr=>?_;have:=ZY.nd;have:=TY (base:=base) T hkd;have:=Re (base:=base) T hkd;conv=>arg 3;whnf
 trivial
def En(T:Txt K kd mg t)(hkd:vk P w K kd):Co "names_of" P w K mg base kd 1 t.TX t.TB ["told"] vf:=by
 refine vX (N:=TJ) (k:=0) (c:=Ph) T.MZ U_ λ_ _ _ _ _ _ hr=>?_;have:=U_.nd;conv=>arg 3;whnf
 trivial
def EE(T:Txt K kd mg t)(hkd:vk P w K kd):Co "are_akin" P w K mg base kd 2 t.Tq t.PK ["one","other"] wZ:=by
 refine vX (N:=Pm) (k:=1) (c:=Pg) T.Eh U6 λ_ _ _ _ _ _ hr=>?_;have:=U6.nd;have:=En (base:=base) T hkd;conv=>arg 3;whnf
 trivial
def Lr(T:Txt K kd mg t)(hkd:vk P w K kd):Co "keeps_join" P w K mg base kd 1 t.VQ t.Vv ["one","other","numbers"] wD:=by
 refine vX (N:=Vz) (k:=0) (c:=VU) T.LY WY λ_ _ _ _ _ _ hr=>?_;have:=WY.nd;conv=>arg 3;whnf
 trivial
def Lu(T:Txt K kd mg t)(hkd:vk P w K kd):Co "keeps_rows" P w K mg base kd 1 t.VF t.V2 ["rows","others","numbers"] xY:=by
 refine vX (N:=V9) (k:=0) (c:=Qv) T.Nc Wt λ_ _ _ _ _ _ hr=>?_;have:=Wt.nd;conv=>arg 3;whnf
 trivial
def L7(T:Txt K kd mg t)(hkd:vk P w K kd):Co "keeps_sign" P w K mg base kd 1 t.VD t.Qg ["values","others","numbers"] x9:=by
 refine vX (N:=Qo) (k:=0) (c:=VM) T.KH WL λ_ _ _ _ _ _ hr=>?_;have:=WL.nd;conv=>arg 3;whnf
 trivial
def K7(T:Txt K kd mg t)(hkd:vk P w K kd):Co "is_picture" P w K mg base kd 4 t.VR t.Qc ["one","other","numbers"] yX:=by
 refine vX (N:=VT) (k:=3) (c:=Qq) T.Lo Ws λ_ _ _ _ _ _ hr=>?_;have:=Ws.nd;have:=EE (base:=base) T hkd;have:=H9 (base:=base) T hkd;have:=Lr (base:=base) T hkd;have:=Lu (base:=base) T hkd;have:=L7 (base:=base) T hkd;conv=>arg 3;whnf
 trivial
def ZN(T:Txt K kd mg t)(hkd:vk P w K kd):Co "_law_cell_at" P w K mg base kd 1 t.WM t.Wz ["_law_script","_law_k"] yi:=by
 refine vX (N:=Wp) (k:=0) (c:=Wk) T.Gn Xl λ_ _ _ _ _ _ hr=>?_;have:=Xl.nd;conv=>arg 3;whnf
 trivial
def yT(T:Txt K kd mg t)(hkd:vk P w K kd):Co "_law_stream" P w K mg base kd 1 t.Qj t.VJ ["_law_cell","_law_many"] yo:=by
 refine vX (N:=Qx) (k:=0) (c:=VP) T.LO WZ λ_ _ _ _ _ _ hr=>?_;have:=WZ.nd;conv=>arg 3;whnf
 trivial
def Nz(T:Txt K kd mg t)(hkd:vk P w K kd):Co "_law_names" P w K mg base kd 2 t.Ui t.UG ["_law_cell","_law_many"] Xm:=by
 refine vX (N:=UI) (k:=1) (c:=UM) T.Mz VY λ_ _ _ _ _ _ hr=>?_;have:=VY.nd;have:=yT (base:=base) T hkd;conv=>arg 3;whnf
 trivial
def Gf(T:Txt K kd mg t)(hkd:vk P w K kd):Co "_law_divisor" P w K mg base kd 1 t.WB t.WJ ["_law_one","_law_other_here"] ZR:=by
 refine vX (N:=Ww) (k:=0) (c:=Wu) T.GJ XA λ_ _ _ _ _ _ hr=>?_;have:=XA.nd;conv=>arg 3;whnf
 trivial
def EM(T:Txt K kd mg t)(hkd:vk P w K kd):Co "_law_sums" P w K mg base kd 2 t.P0 t.Pz ["_law_n","_law_m","_law_xs"] W5:=by
 refine vX (N:=Ti) (k:=1) (c:=Pf) T.ML U7 λ_ _ _ _ _ _ hr=>?_;have:=U7.nd;have:=Gf (base:=base) T hkd;conv=>arg 3;whnf
 trivial
def LW(T:Txt K kd mg t)(hkd:vk P w K kd):Co "_law_rising" P w K mg base kd 1 t.VE t.Qu ["_law_n","_law_m","_law_xs"] Z_:=by
 refine vX (N:=Vu) (k:=0) (c:=V8) T.Lx W4 λ_ _ _ _ _ _ hr=>?_;have:=W4.nd;conv=>arg 3;whnf
 trivial
def MT(T:Txt K kd mg t)(hkd:vk P w K kd):Co "_law_kept" P w K mg base kd 1 t.TU t.Pa ["_law_n","_law_m","_law_xs"] Ve:=by
 refine vX (N:=PJ) (k:=0) (c:=PN) T.Eg Ux λ_ _ _ _ _ _ hr=>?_;have:=Ux.nd;conv=>arg 3;whnf
 trivial
def N9(T:Txt K kd mg t)(hkd:vk P w K kd):Co "_law_joins" P w K mg base kd 1 t.Uy t.UQ ["_law_kind","_law_n"] ZD:=by
 refine vX (N:=UX) (k:=0) (c:=Uh) T.N5 VG λ_ _ _ _ _ _ hr=>?_;have:=VG.nd;conv=>arg 3;whnf
 trivial
def MI(T:Txt K kd mg t)(hkd:vk P w K kd):Co "_law_rows" P w K mg base kd 3 t.RY t.Tc ["_law_kind","_law_n","_law_m","_law_xs"] Yc:=by
 refine vX (N:=P6) (k:=2) (c:=Tt) T.M_ UC λ_ _ _ _ _ _ hr=>?_;have:=UC.nd;have:=EM (base:=base) T hkd;have:=LW (base:=base) T hkd;have:=MT (base:=base) T hkd;conv=>arg 3;whnf
 trivial
def NY(T:Txt K kd mg t)(hkd:vk P w K kd):Co "_law_plain" P w K mg base kd 4 t.UN t.UZ ["_law_kind","_law_n","_law_m","_law_many","_law_cell"] wz:=by
 refine vX (N:=UB) (k:=3) (c:=U2) T.NM VS λ_ _ _ _ _ _ hr=>?_;have:=VS.nd;have:=MI (base:=base) T hkd;have:=yT (base:=base) T hkd;have:=N9 (base:=base) T hkd;conv=>arg 3;whnf
 trivial
def L5(T:Txt K kd mg t)(hkd:vk P w K kd):Co "_law_beside" P w K mg base kd 1 t.Qt t.Qs ["_law_one","_law_other_here","_law_m"] Ys:=by
 refine vX (N:=Vy) (k:=0) (c:=V5) T.LX Wm λ_ _ _ _ _ _ hr=>?_;have:=Wm.nd;conv=>arg 3;whnf
 trivial
def M5(T:Txt K kd mg t)(hkd:vk P w K kd):Co "_law_made" P w K mg base kd 5 t.Ta t.PM ["_law_cell","_law_m","_law_many"] Vh:=by
 refine vX (N:=P5) (k:=4) (c:=RO) T.Eu Uz λ_ _ _ _ _ _ hr=>?_;have:=Uz.nd;have:=yT (base:=base) T hkd;have:=NY (base:=base) T hkd;have:=L5 (base:=base) T hkd;conv=>arg 3;whnf
 trivial
def UF(T:Txt K kd mg t)(hkd:vk P w K kd):Co "_law_order" P w K mg base kd 2 t.UA t.U4 ["_law_cell","_law_n"] Zz:=by
 refine vX (N:=Up) (k:=1) (c:=Uk) T.N2 VN λ_ _ _ _ _ _ hr=>?_;have:=VN.nd;have:=yT (base:=base) T hkd;conv=>arg 3;whnf
 trivial
def NU(T:Txt K kd mg t)(hkd:vk P w K kd):Co "_law_signs" P w K mg base kd 2 t.UU t.UH ["_law_cell","_law_n","_law_names_here"] ZM:=by
 refine vX (N:=UE) (k:=1) (c:=UK) T.Mf Qe λ_ _ _ _ _ _ hr=>?_;have:=Qe.nd;have:=yT (base:=base) T hkd;conv=>arg 3;whnf
 trivial
def WI(T:Txt K kd mg t)(hkd:vk P w K kd):Co "_law_algebra" P w K mg base kd 6 t.WS t.Wq ["_law_cell","_law_other_here"] xO:=by
 refine vX (N:=WW) (k:=5) (c:=WN) T.GG Xs λ_ _ _ _ _ _ hr=>?_;have:=Xs.nd;have:=yT (base:=base) T hkd;have:=M5 (base:=base) T hkd;have:=UF (base:=base) T hkd;have:=Nz (base:=base) T hkd;have:=NU (base:=base) T hkd;conv=>arg 3;whnf
 trivial
def GK(T:Txt K kd mg t)(hkd:vk P w K kd):Co "_law_parting" P w K mg base kd 1 t.Wg t.WV ["_law_n","_law_join","_law_nothing"] ZO:=by
 refine vX (N:=WR) (k:=0) (c:=WH) T.Gb XQ λ_ _ _ _ _ _ hr=>?_;have:=XQ.nd;conv=>arg 3;whnf
 trivial
def Nn(T:Txt K kd mg t)(hkd:vk P w K kd):Co "_law_doing" P w K mg base kd 1 t.Uj t.Ut ["_law_n","_law_m","_law_join","_law_name","_law_rows_here"] ZK:=by
 refine vX (N:=UY) (k:=0) (c:=Uo) T.NX VC λ_ _ _ _ _ _ hr=>?_;have:=VC.nd;conv=>arg 3;whnf
 trivial
def N3(T:Txt K kd mg t)(hkd:vk P w K kd):Co "_law_fails" P w K mg base kd 2 t.U8 t.UJ ["_law_algebra_here"] ZC:=by
 refine vX (N:=Ra) (k:=1) (c:=Uu) T.NF VA λ_ _ _ _ _ _ hr=>?_;have:=VA.nd;have:=GK (base:=base) T hkd;have:=Nn (base:=base) T hkd;conv=>arg 3;whnf
 trivial
def RX(T:Txt K kd mg t)(hkd:vk P w K kd):Co "_law_bent" P w K mg base kd 2 t.PQ t.Pt ["_law_algebra_here","_law_cell"] Yz:=by
 refine vX (N:=TN) (k:=1) (c:=PX) T.Ep vE λ_ _ _ _ _ _ hr=>?_;have:=vE.nd;have:=yT (base:=base) T hkd;conv=>arg 3;whnf
 exact(by
  refine yS ?_ ?_;trivial;refine sj 8 vE.nd ?_ ?_;trivial;refine yS ?_ ?_;trivial;refine yS ?_ ?_;trivial;refine sj 11 vE.nd ?_ ?_;trivial;refine yS ?_ ?_;trivial;refine yS ?_ ?_;trivial;refine yS ?_ ?_;exact(Om (AW.at_<|Hv (tc hkd hr (av 11) aI)<|RP<|tc hkd hr (av 10)<|EU LF) (Ck (y:=12) (n:=1) vE.nd rfl (by exact Or.inl rfl) (by exact Or.inr rfl) (pv 10) (P7 (Nl (pv 8) P_ λ_ _=>rfl)<|SV rfl T.Ma Bt.len (pv 10) rfl rfl) (λ_ _=>rfl) M6 (λ_ _=>rfl) rfl (pv 12) (P7 (Nl (pv 8) P_ λ_ _=>rfl)<|L9<|pv 3) (λ_ _=>rfl) (P7 (Nl (pv 8) P_ λ_ _=>rfl)<|L9<|pv 2) (P7 (Nl (pv 8) P_ λ_ _=>rfl)<|L9<|pv 2) (λ_=>rfl) rfl rfl rfl) KA);exact vS<|Tf<|S3<|bd (av 2)<|bd (av 3)<|bd (av 9)<|bd (av 5)<|bd (av 10)<|bd (av 7) LF)
def VL(T:Txt K kd mg t)(hkd:vk P w K kd):Co "_law_digits" P w K mg base kd 1 t.Vm t.VV ["_law_cell","_law_base","_law_many"] wF:=by
 refine vX (N:=Qr) (k:=0) (c:=Qp) T.LI We λ_ _ _ _ _ _ hr=>?_;have:=We.nd;conv=>arg 3;whnf
 trivial
def Ri(T:Txt K kd mg t)(hkd:vk P w K kd):Co "_law_by_digits" P w K mg base kd 2 t.Y1 t.YO ["_law_algebra_here","_law_cell"] vK:=by
 refine vX (N:=Y3) (k:=1) (c:=Y0) T.Rq ZZ λ_ _ _ _ _ _ hr=>?_;have:=ZZ.nd;have:=VL (base:=base) T hkd;conv=>arg 3;whnf
 trivial
def Kz(T:Txt K kd mg t)(hkd:vk P w K kd):Co "_law_any" P w K mg base kd 7 t.GP t.Ke ["_law_script"] XX:=by
 refine vX (N:=GX) (k:=6) (c:=Kk) T.Bx T6 λ_ _ _ _ _ _ hr=>?_;have:=T6.nd;have:=ZN (base:=base) T hkd;have:=WI (base:=base) T hkd;have:=Ri (base:=base) T hkd;have:=RX (base:=base) T hkd;conv=>arg 3;whnf
 trivial
def EH(T:Txt K kd mg t)(hkd:vk P w K kd):Co "_law_good" P w K mg base kd 8 t.R_ t.T4 ["_law_script"] Vg:=by
 refine vX (N:=TV) (k:=7) (c:=TR) T.Ei Uw λ_ _ _ _ _ _ hr=>?_;have:=Uw.nd;have:=Kz (base:=base) T hkd;have:=ZN (base:=base) T hkd;have:=N3 (base:=base) T hkd;have:=WI (base:=base) T hkd;conv=>arg 3;whnf
 trivial
def B1(T:Txt K kd mg t)(hkd:vk P w K kd):Co "_law_few" P w K mg base kd 2 t.GO t.G9 ["_law_algebra_here","_law_cell"] QC:=by
 refine vX (N:=Kn) (k:=1) (c:=Kc) T.Bp PC λ_ _ _ _ _ _ hr=>?_;have:=PC.nd;have:=yT (base:=base) T hkd;conv=>arg 3;whnf
 trivial
def Gq(T:Txt K kd mg t)(hkd:vk P w K kd):Co "_law_renamed" P w K mg base kd 1 t.WQ t.WC ["_law_algebra_here","_law_order_here"] ZQ:=by
 refine vX (N:=Wl) (k:=0) (c:=W3) T.GD Xq λ_ _ _ _ _ _ hr=>?_;have:=Xq.nd;conv=>arg 3;whnf
 trivial
def NG(T:Txt K kd mg t)(hkd:vk P w K kd):Co "_law_other" P w K mg base kd 3 t.Ud t.US ["_law_algebra_here","_law_x"] ZG:=by
 refine vX (N:=Q9) (k:=2) (c:=UW) T.Nm Qd λ_ _ _ _ _ _ hr=>?_;have:=Qd.nd;have:=RX (base:=base) T hkd;conv=>arg 3;whnf
 trivial
def Q0(T:Txt K kd mg t)(hkd:vk P w K kd):Co "_law_is_picture" P w K mg base kd 1 t.Z3 t.Z6 ["_law_one","_law_other_here","_law_numbers_here"] yY:=by
 refine vX (N:=xj) (k:=0) (c:=Z0) T.QW zO λ_ _ _ _ _ _ hr=>?_;have:=zO.nd;conv=>arg 3;whnf
 exact(by
  refine yS ?_ ?_;exact(Om (AW.at_<|JL (tc hkd hr (bi (Kw<|hkd _ rfl rfl rfl) T.Ma Bt.len<|bc (av 2) XI)<|ax hkd (av 0) aI)<|G1<|tc hkd hr (Rw (N:=["_law_v","_law_other_here"]) (cap:=[none,some 1]) (S:=[0]) rfl (ET<|av 2) rfl (by change Xy _ xj _ (zw yL).names _=true;decide +kernel) (by decide) (λcl s H fp=>(an 0 Wd)) (λcl s H fp=>(E8<|Ov<|NI (Zk (hkd _ rfl rfl rfl) (YS hr) .LtE) (Zk (hkd _ rfl rfl rfl) (YS hr) .Lt) (L0 .Lt) aI (av 0) (ax hkd (av 1) aI)<|by with_unfolding_all rfl)) (λcl s H fp=>(av 0)) λ_=>rfl)<|EU LF) (vS<|Tf aB) KA);refine yS ?_ ?_;trivial;refine sj 3 zO.nd ?_ ?_;trivial;refine yS ?_ ?_;exact(Xk PassesOwn.never rfl (Ki rfl T.Qb (bc (bn (ax hkd (av 0) aI)<|ax hkd (av 0) aI) XI) rfl) (an 4 zO.nd) (by
  refine yS ?_ ?_;trivial;refine sj 7 zO.nd ?_ ?_;trivial;exact vS<|by refine sv true 3 zO.nd ?_;exact(PZ (av 3)<|PL<|ec hkd hr (ax hkd (av 2)<|ax hkd (ax hkd (ax hkd (av 0) aI)<|av 5)<|av 6)<|av 7)) λ_=>rfl)
  refine yS ?_ ?_;exact(Xk PassesOwn.never rfl (Na rfl T.NJ (bc (ax hkd (av 0) aI)<|bc (ax hkd (av 1) aI) XI) rfl rfl) (P4 rfl (vF (an 8 zO.nd) (vF (an 9 zO.nd) Vx rfl) rfl) rfl rfl) (by
  refine sj 3 zO.nd ?_ ?_;trivial;exact vS<|Xk PassesOwn.never rfl (Na rfl T.NJ (bc (ax hkd (av 8) aI)<|bc (ax hkd (av 9) aI) XI) rfl rfl) (P4 rfl (vF (an 10 zO.nd) (vF (an 11 zO.nd) Vx rfl) rfl) rfl rfl) (by
  refine yS ?_ ?_;trivial;exact vS<|by refine sv true 3 zO.nd ?_;exact(PZ (av 3)<|PL<|ec hkd hr (Rw (N:=["_law_v","_law_numbers_here"]) (cap:=[none,some 2]) (S:=[0]) rfl (ET<|av 10) rfl (by change Xy _ xj _ (zw yL).names _=true;decide +kernel) (by decide) (λcl s H fp=>(an 0 Wc)) (λcl s H fp=>K2) (λcl s H fp=>(ax hkd (av 1)<|av 0)) λ_=>rfl)<|av 7)) λ_=>rfl) λ_=>rfl)
  refine yS ?_ ?_;exact(Xk PassesOwn.never rfl (Na rfl T.NJ (bc (ax hkd (av 0) aI)<|bc (ax hkd (av 1) aI) XI) rfl rfl) (P4 rfl (vF (an 8 zO.nd) (vF (an 9 zO.nd) Vx rfl) rfl) rfl rfl) (by
  refine sj 3 zO.nd ?_ ?_;trivial;refine yS ?_ ?_;trivial;exact vS<|by refine sv true 3 zO.nd ?_;exact(PZ (av 3)<|PL<|ec hkd hr (Rw (N:=["_law_v","_law_here"]) (cap:=[none,some 8]) (S:=[0]) rfl (Kl rfl T.Qb (bc (ax hkd (av 0) aI) XI) rfl) rfl (by change Xy _ xj _ (zw yL).names _=true;decide +kernel) (by decide) (λcl s H fp=>(an 0 Wb)) (λcl s H fp=>K2) (λcl s H fp=>(Oy (Zk (hkd _ rfl rfl rfl) (YS hr) .In) (av 0) (ax hkd (av 1) aI) rfl)) λ_=>rfl)<|av 12)) λ_=>rfl)
  exact vS<|Tf<|av 3)
def GM(T:Txt K kd mg t)(hkd:vk P w K kd):Co "_law_numbers" P w K mg base kd 2 t.Wv t.WG ["_law_numbers_here","_law_n","_law_x"] vh:=by
 refine vX (N:=WK) (k:=1) (c:=WU) T.GB Xn λ_ _ _ _ _ _ hr=>?_;have:=Xn.nd;have:=VL (base:=base) T hkd;conv=>arg 3;whnf
 trivial
def sm(T:Txt K kd mg t)(hkd:vk P w K kd):Co "law" P w K mg base kd 9 t.JK t.JW ["_law_script"] Kb:=by
 refine vX (N:=Jx) (k:=8) (c:=Jj) T.uC O3 λ_ _ _ _ _ _ hr=>?_;have:=O3.nd;have:=B1 (base:=base) T hkd;have:=EH (base:=base) T hkd;have:=ZN (base:=base) T hkd;have:=Rk (base:=base) T hkd;have:=UF (base:=base) T hkd;have:=Gq (base:=base) T hkd;have:=Kz (base:=base) T hkd;have:=yT (base:=base) T hkd;have:=NG (base:=base) T hkd;have:=GM (base:=base) T hkd;have:=K7 (base:=base) T hkd;have:=Q0 (base:=base) T hkd;conv=>arg 3;whnf
 trivial
end
abbrev oo(K:zzA)(x:Str)(f:Addr):Prop:=W.nsIn K mainGlobals x=some (some<|.ref f)
abbrev FnAt(K:zzA)(x q:Str)(s:Stmt)(f:Addr):Prop:=∃d,Fun K x q s f d
abbrev Fk(K:zzA)(x:Str)(s:Stmt)(f:Addr):Prop:=oo K x f/\FnAt K x x s f
def Dv{l:PySem.W.OpenLaw}{w:World}{K:zzA}{h:Heap}{mg:Str->Option Value}{fa:Addr}(X:K.In h)(G:h.Ns mainGlobals mg)(hfa:mg "law"=some (.ref fa))
 {f0 f1 f2 f3 f4 f5 f6 f7 f8 f9 f10 f11 f12 f13 f14 f15 f16 f17 f18 f19 f20 f21 f22 f23 f24 f25 f26 f27 f28 f29 f30 f31 f32 f33 f34 f35 f36 f37 f38 f39 f40 f41 f42 f43 f44 f45 f46 f47 f48 f49:Addr}
 (a0:Fk K "is_whole" YC f0)
 (a1:Fk K "is_within" ZI f1)
 (a2:Fk K "is_row" Vj f2)
 (a3:Fk K "nothing_fails" wq f3)
 (a4:Fk K "parting_fails" wu f4)
 (a5:Fk K "doing_fails" vm f5)
 (a6:Fk K "deeds_fail" vV f6)
 (a7:Fk K "what_fails" vU f7)
 (a8:Fk K "check_let_by" wI f8)
 (a9:Fk K "all_steps" ZE f9)
 (a10:Fk K "numbered" Yi f10)
 (a11:Fk K "signs_of" YG f11)
 (a12:Fk K "class_numbers" wt f12)
 (a13:Fk K "least_algebra" wx f13)
 (a14:Fk K "names_of" Yy f14)
 (a15:Fk K "are_akin" Ye f15)
 (a16:Fk K "keeps_join" v5 f16)
 (a17:Fk K "keeps_rows" vW f17)
 (a18:Fk K "keeps_sign" Za f18)
 (a19:Fk K "is_picture" Zb f19)
 (a20:Fk K "_law_cell_at" vv f20)
 (a21:Fk K "_law_whole" Xp f21)
 (a22:Fk K "_law_stream" vP f22)
 (a23:Fk K "_law_names" ZF f23)
 (a24:Fk K "_law_divisor" vg f24)
 (a25:Fk K "_law_sums" Yp f25)
 (a26:Fk K "_law_rising" vT f26)
 (a27:Fk K "_law_kept" Yb f27)
 (a28:Fk K "_law_joins" Zu f28)
 (a29:Fk K "_law_rows" YB f29)
 (a30:Fk K "_law_plain" Zt f30)
 (a31:Fk K "_law_beside" v3 f31)
 (a32:Fk K "_law_made" Yo f32)
 (a33:Fk K "_law_order" Zx f33)
 (a34:Fk K "_law_signs" ZL f34)
 (a35:Fk K "_law_algebra" vt f35)
 (a36:Fk K "_law_parting" vq f36)
 (a37:Fk K "_law_doing" ZH f37)
 (a38:Fk K "_law_fails" Zv f38)
 (a39:Fk K "_law_bent" Yk f39)
 (a40:Fk K "_law_digits" vZ f40)
 (a41:Fk K "_law_by_digits" wo f41)
 (a42:Fk K "_law_any" XT f42)
 (a43:Fk K "_law_good" Yq f43)
 (a44:Fk K "_law_few" XZ f44)
 (a45:Fk K "_law_renamed" vz f45)
 (a46:Fk K "_law_other" Zw f46)
 (a47:Fk K "_law_is_picture" yL f47)
 (a48:Fk K "_law_numbers" vo f48)
 (a49:Fk K "law" Fz f49)
 (z0:W.nsIn K mainGlobals "all"=some none) (z1:W.nsIn K mainGlobals "bool"=some none) (z2:W.nsIn K mainGlobals "divmod"=some none) (z3:W.nsIn K mainGlobals "enumerate"=some none) (z4:W.nsIn K mainGlobals "int"=some none) (z5:W.nsIn K mainGlobals "isinstance"=some none) (z6:W.nsIn K mainGlobals "len"=some none) (z7:W.nsIn K mainGlobals "list"=some none) (z8:W.nsIn K mainGlobals "max"=some none) (z9:W.nsIn K mainGlobals "range"=some none) (z10:W.nsIn K mainGlobals "set"=some none) (z11:W.nsIn K mainGlobals "sorted"=some none) (z12:W.nsIn K mainGlobals "tuple"=some none) (z13:W.nsIn K mainGlobals "zip"=some none):
 ∃fd:FuncData,(∀(s:Shared) (v:Value),BindsTo s fd ⟨[v],[]⟩ [("_law_script",v)])/\∀base:Heap,K.In base->base.Ns mainGlobals mg->FnOk l.prog w K mg base Sm 9 fa fd ["_law_script"] (qY K Kb):=by
 have e:=hfa.symm.trans<|W.mg_of X G a49.1;cases e;obtain⟨a0,_,F0⟩:=a0;obtain⟨a1,_,F1⟩:=a1;obtain⟨a2,_,F2⟩:=a2;obtain⟨a3,_,F3⟩:=a3;obtain⟨a4,_,F4⟩:=a4;obtain⟨a5,_,F5⟩:=a5;obtain⟨a6,_,F6⟩:=a6;obtain⟨a7,_,F7⟩:=a7;obtain⟨a8,_,F8⟩:=a8;obtain⟨a9,_,F9⟩:=a9;obtain⟨a10,_,Jv⟩:=a10;obtain⟨a11,_,F11⟩:=a11;obtain⟨a12,_,F12⟩:=a12;obtain⟨a13,_,F13⟩:=a13;obtain⟨a14,_,F14⟩:=a14;obtain⟨a15,_,F15⟩:=a15;obtain⟨a16,_,F16⟩:=a16;obtain⟨a17,_,F17⟩:=a17;obtain⟨a18,_,F18⟩:=a18;obtain⟨a19,_,F19⟩:=a19;obtain⟨a20,_,F20⟩:=a20;obtain⟨a21,_,F21⟩:=a21;obtain⟨a22,_,F22⟩:=a22;obtain⟨a23,_,F23⟩:=a23;obtain⟨a24,_,F24⟩:=a24;obtain⟨a25,_,F25⟩:=a25;obtain⟨a26,_,F26⟩:=a26;obtain⟨a27,_,F27⟩:=a27;obtain⟨a28,_,F28⟩:=a28;obtain⟨a29,_,F29⟩:=a29;obtain⟨a30,_,F30⟩:=a30;obtain⟨a31,_,F31⟩:=a31;obtain⟨a32,_,F32⟩:=a32;obtain⟨a33,_,F33⟩:=a33;obtain⟨a34,_,F34⟩:=a34;obtain⟨a35,_,F35⟩:=a35;obtain⟨a36,_,F36⟩:=a36;obtain⟨a37,_,F37⟩:=a37;obtain⟨a38,_,F38⟩:=a38;obtain⟨a39,_,F39⟩:=a39;obtain⟨a40,_,F40⟩:=a40;obtain⟨a41,_,F41⟩:=a41;obtain⟨a42,_,F42⟩:=a42;obtain⟨a43,_,F43⟩:=a43;obtain⟨a44,_,F44⟩:=a44;obtain⟨a45,_,F45⟩:=a45;obtain⟨a46,_,F46⟩:=a46;obtain⟨a47,_,F47⟩:=a47;obtain⟨a48,_,F48⟩:=a48;obtain⟨a49,_,F49⟩:=a49;obtain⟨_,_,_,_,_,_,_,_,_,rfl,_,_⟩:=F49.ex;let KL:List (Addr×List (Key×V)):=[];have hkd:vk l.prog w K (rG KL):=DA λp m=>by
  exact absurd (show p ∈ ([]:List (Addr×List (Key×V)))from m) zxC
 have T:Txt K (rG KL) mg ⟨_,_,_,_,_,_,_,_,_,_,_,_,_,_,_,_,_,_,_,_,_,_,_,_,_,_,_,_,_,_,_,_,_,_,_,_,_,_,_,_,_,_,_,_,_,_,_,_,_,_,_,_,_,_,_,_,_,_,_,_,_,_,_,_,_,_,_,_,_,_,_,_,_,_,_,_,_,_,_,_,_,_,_,_,_,_,_,_,_,_,_,_,_,_,_,_,_,_,_,_⟩:=⟨⟨F0,bs F0,W.mg_of X G a0⟩,⟨F1,bs F1,W.mg_of X G a1⟩,⟨F2,bs F2,W.mg_of X G a2⟩,⟨F3,bs F3,W.mg_of X G a3⟩,⟨F4,bs F4,W.mg_of X G a4⟩,⟨F5,bs F5,W.mg_of X G a5⟩,⟨F6,bs F6,W.mg_of X G a6⟩,⟨F7,bs F7,W.mg_of X G a7⟩,⟨F8,bs F8,W.mg_of X G a8⟩,⟨F9,bs F9,W.mg_of X G a9⟩,⟨Jv,bs Jv,W.mg_of X G a10⟩,⟨F11,bs F11,W.mg_of X G a11⟩,⟨F12,bs F12,W.mg_of X G a12⟩,⟨F13,bs F13,W.mg_of X G a13⟩,⟨F14,bs F14,W.mg_of X G a14⟩,⟨F15,bs F15,W.mg_of X G a15⟩,⟨F16,bs F16,W.mg_of X G a16⟩,⟨F17,bs F17,W.mg_of X G a17⟩,⟨F18,bs F18,W.mg_of X G a18⟩,⟨F19,bs F19,W.mg_of X G a19⟩,⟨F20,bs F20,W.mg_of X G a20⟩,⟨F21,bs F21,W.mg_of X G a21⟩,⟨F22,bs F22,W.mg_of X G a22⟩,⟨F23,bs F23,W.mg_of X G a23⟩,⟨F24,bs F24,W.mg_of X G a24⟩,⟨F25,bs F25,W.mg_of X G a25⟩,⟨F26,bs F26,W.mg_of X G a26⟩,⟨F27,bs F27,W.mg_of X G a27⟩,⟨F28,bs F28,W.mg_of X G a28⟩,⟨F29,bs F29,W.mg_of X G a29⟩,⟨F30,bs F30,W.mg_of X G a30⟩,⟨F31,bs F31,W.mg_of X G a31⟩,⟨F32,bs F32,W.mg_of X G a32⟩,⟨F33,bs F33,W.mg_of X G a33⟩,⟨F34,bs F34,W.mg_of X G a34⟩,⟨F35,bs F35,W.mg_of X G a35⟩,⟨F36,bs F36,W.mg_of X G a36⟩,⟨F37,bs F37,W.mg_of X G a37⟩,⟨F38,bs F38,W.mg_of X G a38⟩,⟨F39,bs F39,W.mg_of X G a39⟩,⟨F40,bs F40,W.mg_of X G a40⟩,⟨F41,bs F41,W.mg_of X G a41⟩,⟨F42,bs F42,W.mg_of X G a42⟩,⟨F43,bs F43,W.mg_of X G a43⟩,⟨F44,bs F44,W.mg_of X G a44⟩,⟨F45,bs F45,W.mg_of X G a45⟩,⟨F46,bs F46,W.mg_of X G a46⟩,⟨F47,bs F47,W.mg_of X G a47⟩,⟨F48,bs F48,W.mg_of X G a48⟩,⟨F49,bs F49,W.mg_of X G a49⟩,W.mg_none_of X G z0,W.mg_none_of X G z1,W.mg_none_of X G z2,W.mg_none_of X G z3,W.mg_none_of X G z4,W.mg_none_of X G z5,W.mg_none_of X G z6,W.mg_none_of X G z7,W.mg_none_of X G z8,W.mg_none_of X G z9,W.mg_none_of X G z10,W.mg_none_of X G z11,W.mg_none_of X G z12,W.mg_none_of X G z13⟩;exact⟨_,λs v=>.of_eq rfl,λbase _ _=>(sm T hkd).F.imp λvs H Q E h=>h _⟩
def walk{l:PySem.W.OpenLaw}{q:Program}{loose:List Str}{XP:(Str->Option Value)->Heap->Prop}{YP:World->Heap->Prop}{d:DefRec}{K:Params->zzA}(hn:l.most=some 63)(hdf:d.params.defaults=[])
 (hY:∀(w:World) (h:Heap),YP w h->(K w.params).In h) (hm:∀ns:List Int,ns.length<=63->Kb [(true,.lst<|ns.map D.int)]=some (.lf true<|.bl true))
 (F:∀(w:World) (mg:Str->Option Value) (fa:Addr) (h:Heap),(K w.params).In h->h.Ns mainGlobals mg->mg d.name=some (.ref fa)->
  ∃fd:FuncData,(∀(s:Shared) (u:Value),BindsTo s fd ⟨[u],[]⟩ [("_law_script",u)])/\∀base:Heap,(K w.params).In base->base.Ns mainGlobals mg->FnOk l.prog w (K w.params) mg base Sm 9 fa fd ["_law_script"] (qY (K w.params) Kb)):
 PySem.W.WalkO q loose XP YP l.row.toRowW d [] (λf vs=>PySem.call f vs):=
 L2.walk_of (n:=63) (k:=9) (x:="_law_script") (CX:=λ_=>Sm) (sp:=λw=>qY (K w.params) Kb) hn (by decide) hdf ⟨rfl,by decide,by decide,rfl⟩ hY F (λ_ _ a ns hl _ hS kd=>As (hm ns hl) hS) λ_ _ _ _ _ z=>z
end G55
end
section
namespace PP
def least{P:Nat->Prop}:∀(x:Nat),P x->∃y,P y/\y<=x/\∀z,z<y->¬P z:=λx=>by
 induction x using Nat.strongRecOn with
 |_ x ih=>
  intro h
  by_cases e:∃z,z<x/\P z
  . obtain⟨z,hz,pz⟩:=e;obtain⟨y,h1,h2,h3⟩:=ih z hz pz;exact⟨y,h1,by omega,h3⟩
  . exact⟨x,h,zzN _,λz hz pz=>e ⟨z,hz,pz⟩⟩
noncomputable def cnt(P:Nat->Prop):Nat->Nat
 |0=>0
 |n+1=>cnt P n + @ite Nat (P n) (Classical.propDecidable _) 1 0
theorem Jt(P:Nat->Prop):∀n,cnt P n<=n
 |0=>zzN _
 |n+1=>by
  have:=Jt P n;unfold cnt
  split<;>omega
theorem Ex{P Q:Nat->Prop}:∀n,(∀v,v<n->P v->Q v)->cnt P n<=cnt Q n
 |0,_=>zzN _
 |n+1,h=>by
  have ih:=Ex n λv hv=>h v (by omega);unfold cnt
  by_cases p:P n
  . rw[if_pos p,if_pos<|h n (by omega) p];omega
  . rw[if_neg p];omega
theorem Ou{P Q:Nat->Prop}{v:Nat}:∀n,(∀v,v<n->P v->Q v)->v<n->Q v->¬P v->cnt P n<cnt Q n
 |0,_,hv,_,_=>absurd hv (Nat.not_lt_zero _)
 |n+1,h,hv,q,np=>by
  unfold cnt
  by_cases e:v=n
  . subst e;have ih:=Ex v λw hw=>h w (by omega);rw[if_neg np,if_pos q];omega
  . have ih:=Ou n (λw hw=>h w<|by omega) (by omega) q np
    by_cases p:P n
    . rw[if_pos p,if_pos<|h n (by omega) p];omega
    . rw[if_neg p];omega
section
variable{β δ:Type}{H:Int->β}{f:δ->Int->Int}{P:δ->Prop}{n:Nat}
def fr(f:δ->Int->Int)(r:List δ)(v:Int):Int:=r.foldl (λw d=>f d w) v
def Ek(H:Int->β)(f:δ->Int->Int)(P:δ->Prop)(k:Nat)(u v:Int):Prop:=∀r:List δ,(∀d ∈ r,P d)->r.length<=k->H (fr f r u)=H (fr f r v)
theorem Ek.symm{k:Nat}{u v:Int}(h:Ek H f P k u v):Ek H f P k v u:=λr hr hl=>(h r hr hl).symm
theorem Ek.trans{k:Nat}{u v w:Int}(h:Ek H f P k u v)(g:Ek H f P k v w):Ek H f P k u w:=λr hr hl=>(h r hr hl).trans<|g r hr hl
def Ek.refl{k:Nat}{u:Int}:Ek H f P k u u:=λ_ _ _=>rfl
def Ek.mono{j k:Nat}{u v:Int}(h:Ek H f P k u v)(g:j<=k):Ek H f P j u v:=λr hr hl=>h r hr<|zzO hl g
def Ek.succ{k:Nat}{u v:Int}:Ek H f P (k+1) u v ↔ Ek H f P k u v/\∀d,P d->Ek H f P k (f d u) (f d v):=
 ⟨λh=>⟨h.mono<|zyX _,λd hd r hr hl=>h (d::r) (λx mx=>(zzC.mp mx).elim (λz=>z ▸ hd)<|hr x)<|Nat.succ_le_succ hl⟩,λ⟨h,g⟩ r hr hl=>by
  cases r with
  |nil=>exact h [] hr (Nat.zero_le _)
  |cons d r=>exact g d (hr d<|zzF ..) r (λx mx=>hr x<|zzD _ mx) (Nat.le_of_succ_le_succ hl)⟩
def Ek.zero{u v:Int}:Ek H f P 0 u v ↔ H u=H v:=⟨λh=>h [] (λ_ m=>nomatch m)<|zzN _,λh r _ hl=>by
 cases r with
 |nil=>exact h
 |cons=>exact absurd hl (Nat.not_succ_le_zero _)⟩
abbrev St(H:Int->β)(f:δ->Int->Int)(P:δ->Prop)(n k:Nat):Prop:=∀u v:Nat,u<n->v<n->Ek H f P k u v->Ek H f P (k+1) u v
abbrev Rep(H:Int->β)(f:δ->Int->Int)(P:δ->Prop)(k v:Nat):Prop:=∀u:Nat,u<v->¬Ek H f P k (u:Int) (v:Int)
def Oe{k:Nat}(h:¬St H f P n k):cnt (Rep H f P k) n<cnt (Rep H f P<|k+1) n:=by
 have mo:∀v,v<n->Rep H f P k v->Rep H f P (k+1) v:=λv _ hv u hu z=>hv u hu<|z.mono<|zyX _;have⟨u,v,hu,hv,e,ne⟩:∃u v:Nat,u<n/\v<n/\Ek H f P k u v/\¬Ek H f P (k+1) u v:=Classical.byContradiction λz=>h λu v hu hv e=>Classical.byContradiction λne=>z ⟨u,v,hu,hv,e,ne⟩;obtain⟨m0,h1,h2,h3⟩:=least (P:=λw=>Ek H f P k u w) u .refl;have⟨x,hx,ex,nx⟩:∃x:Nat,x<n/\Ek H f P k u x/\¬Ek H f P (k+1) x m0:=by
  by_cases z:Ek H f P (k+1) u m0
  . exact⟨v,hv,e,λy=>ne<|z.trans y.symm⟩
  . exact⟨u,hu,.refl,z⟩
 obtain⟨w,g1,g2,g3⟩:=least (P:=λw=>Ek H f P (k+1) x w) x .refl;have kw:=ex.trans<|g1.mono<|zyX _;have mw:m0<w:=by
  have:m0<=w:=Nat.le_of_not_lt λz=>h3 w z kw
  rcases Nat.lt_or_eq_of_le this with z|z
  . exact z
  . exact absurd (z ▸ g1) nx
 exact Ou n mo (by omega) (λy hy z=>g3 y hy<|g1.trans z.symm) λz=>z m0 mw<|h1.symm.trans kw
def stable(n1:1<=n):∃k,k<n/\St H f P n k:=Classical.byContradiction λz=>by
 have gr:∀k,k<=n->k+1<=cnt (Rep H f P k) n:=λk=>by
  induction k with
  |zero=>
   intro _;obtain⟨m,rfl⟩:∃m,n=m+1:=⟨n-1,by omega⟩;have h0:cnt (λv=>v=0) (m+1)<=cnt (Rep H f P 0) (m+1):=Ex _ λv _ hv u hu=>by subst hv;exact absurd hu<|Nat.not_lt_zero _
   have h1:∀j,1<=cnt (λv=>v=0) (j+1):=λj=>by
    induction j with
    |zero=>unfold cnt;rw[if_pos rfl];omega
    |succ j ih=>unfold cnt;omega
   have:=h1 m;omega
  |succ k ih=>
   intro hk;have:=ih (by omega);have:=Oe λh=>z ⟨k,by omega,h⟩;omega
 have:=gr n<|zzN _;have:=Jt (Rep H f P n) n;omega
end
end PP
end
section
namespace G55
abbrev zQ(n:Nat)(x:Int):Prop:=0<=x/\x<(n:Int)
structure LJ(n:Nat)(j:Int->Int->Int)(e:Int):Prop where
 cl:∀a b,zQ n a->zQ n b->zQ n (j a b)
 ce:zQ n e
 ul:∀a,zQ n a->j e a=a
 ur:∀a,zQ n a->j a e=a
 as:∀a b c,zQ n a->zQ n b->zQ n c->j (j a b) c=j a (j b c)
structure LD(n m:Nat)(j:Int->Int->Int)(e:Int)(d:Int->Int->Int):Prop where
 cl:∀c a,zQ m c->zQ n a->zQ n (d c a)
 em:d 0 e=e
 dn:∀a i b k,zQ n a->zQ m i->zQ n b->zQ m k->d ((i+k)%m) (j a b)=j (d i a) (d k b)
def EO{x:Int}{n:Nat}(hn:0<n):zQ n (x%n):=⟨zyN _ (by omega),zyH _<|by omega⟩
def LJ.congr{n:Nat}{j j':Int->Int->Int}{e:Int}(h:LJ n j e)(q:∀a b,zQ n a->zQ n b->j' a b=j a b):LJ n j' e:=by
 refine⟨λa b ha hb=>by rw[q a b ha hb];exact h.cl a b ha hb,h.ce,λa ha=>by rw[q _ _ h.ce ha];exact h.ul a ha,λa ha=>by rw[q _ _ ha h.ce];exact h.ur a ha,λa b c ha hb hc=>?_⟩;rw[q a b ha hb,q b c hb hc,q _ _ (h.cl a b ha hb) hc,q _ _ ha<|h.cl b c hb hc];exact h.as a b c ha hb hc
def LD.congr{n m:Nat}{j j':Int->Int->Int}{e:Int}{d d':Int->Int->Int}(hm:0<m)(hj:LJ n j e)(h:LD n m j e d)(q:∀a b,zQ n a->zQ n b->j' a b=j a b)(p:∀c a,zQ m c->zQ n a->d' c a=d c a):LD n m j' e d':=by
 refine⟨λc a hc ha=>by rw[p c a hc ha];exact h.cl c a hc ha,by rw[p 0 e ⟨by omega,by omega⟩ hj.ce];exact h.em,λa i b k ha hi hb hk=>?_⟩;rw[q a b ha hb,p _ _ (EO hm)<|hj.cl a b ha hb,p i a hi ha,p k b hk hb,q _ _ (h.cl i a hi ha)<|h.cl k b hk hb];exact h.dn a i b k ha hi hb hk
def jS(n:Nat)(a b:Int):Int:=(a+b)%n
def jM(a b:Int):Int:=if b > a then b else a
def jL(a b:Int):Int:=if b=0 then a else b
def jF(a b:Int):Int:=if a=0 then b else a
def p1(a:Int):Int:=if a=1\/a=3 then 1 else 0
def p2(a:Int):Int:=if a=0\/a=3 then 1 else 0
def rS(u v:Int):Int:=if u=0 then(if v=0 then 2 else 0)else(if v=0 then 1 else 3)
def pk(u v k:Int):Int:=if k=0 then u else v
def j4(a b:Int):Int:=rS (pk (p1 b) (p2 b)<|p1 a)<|pk (p1 b) (p2 b)<|p2 a
def pI{n:Nat}(hn:0<n):LJ n (jS n) 0:=by
 refine⟨λa b _ _=>EO hn,⟨by omega,by omega⟩,λa ha=>?_,λa ha=>?_,λa b c _ _ _=>?_⟩
 . unfold jS;rw[Int.zero_add,Int.emod_eq_of_lt ha.1 ha.2]
 . unfold jS;rw[Int.add_zero,Int.emod_eq_of_lt ha.1 ha.2]
 . unfold jS;rw[Int.emod_add_emod,Int.add_emod_emod,Int.add_assoc]
def rj{n:Nat}(hn:0<n):LJ n jM 0:=by
 refine⟨λa b ha hb=>?_,⟨by omega,by omega⟩,λa ha=>?_,λa ha=>?_,λa b c _ _ _=>?_⟩<;>unfold jM<;>(try unfold jM)<;>grind
def qN{n:Nat}(hn:0<n):LJ n jL 0:=by
 refine⟨λa b ha hb=>?_,⟨by omega,by omega⟩,λa ha=>?_,λa ha=>?_,λa b c _ _ _=>?_⟩<;>unfold jL<;>grind
def qc{n:Nat}(hn:0<n):LJ n jF 0:=by
 refine⟨λa b ha hb=>?_,⟨by omega,by omega⟩,λa ha=>?_,λa ha=>?_,λa b c _ _ _=>?_⟩<;>unfold jF<;>grind
def four{P:Int->Prop}(h0:P 0)(h1:P 1)(h2:P 2)(h3:P 3){a:Int}(h:zQ 4 a):P a:=by
 rcases(show a=0\/a=1\/a=2\/a=3 by have:=h.1;have:=h.2;omega)with rfl|rfl|rfl|rfl<;>assumption
def f4{P:Int->Prop}(h:∀a ∈ ([0,1,2,3]:List Int),P a){a:Int}(ha:zQ 4 a):P a:=four (h 0<|by decide) (h 1<|by decide) (h 2<|by decide) (h 3<|by decide) ha
def sS:LJ 4 j4 0:=by
 refine⟨λa b ha hb=>?_,⟨by decide,by decide⟩,λa ha=>?_,λa ha=>?_,λa b c ha hb hc=>?_⟩
 . revert b;refine f4 (P:=λa=>∀b,zQ 4 b->zQ 4 (j4 a b)) ?_ ha
   have:∀a ∈ ([0,1,2,3]:List Int),∀b ∈ ([0,1,2,3]:List Int),zQ 4 (j4 a b):=by decide
   exact λa m b hb=>f4 (this a m) hb
 . exact f4 (P:=λa=>j4 0 a=a) (by decide) ha
 . exact f4 (P:=λa=>j4 a 0=a) (by decide) ha
 . have:∀a ∈ ([0,1,2,3]:List Int),∀b ∈ ([0,1,2,3]:List Int),∀c ∈ ([0,1,2,3]:List Int),j4 (j4 a b) c=j4 a (j4 b c):=by decide
   refine f4 (λa m=>f4 (λb m'=>f4 (this a m b m') hc) hb) ha
def p_{n m:Nat}{g x0 x1:Int}(hn:0<n)(hm:0<m)(g0:0<g)(gn:g ∣ n)(gm:g ∣ m):LD n m (jS n) 0 (λc a=>(a*x0+c*((n:Int)/g)*x1)%n):=by
 refine⟨λc a _ _=>EO hn,by simp,λa i b k _ _ _ _=>?_⟩;obtain⟨t,ht⟩:=gm;have h:(m:Int)*((n:Int)/g)=n*t:=by
  obtain⟨s,hs⟩:=gn;rw[hs,Int.mul_ediv_cancel_left _ (by omega),ht];grind
 unfold jS;rw[<-Int.add_emod];generalize n/g=st at h;rw[Int.emod_def (i+k) m,Int.emod_def (a+b) n];generalize (i+k)/m=q;generalize (a+b)/n=p;rw[show((a+b)-n*p)*x0+((i+k)-m*q)*st*x1=(a*x0+i*st*x1+(b*x0+k*st*x1))+n*(-(p*x0)-t*q*x1) by grind,Int.add_mul_emod_self_left]
def oA{n m:Nat}{r:Int->Int}(hm:0<m)(h0:r 0=0)(hc:∀a,zQ n a->zQ n (r a))(hr:∀a b,zQ n a->zQ n b->a<=b->r a<=r b):LD n m jM 0 (λ_ a=>r a):=by
 refine⟨λc a _ ha=>hc a ha,h0,λa i b k ha _ hb _=>?_⟩;unfold jM;have h1:=hr a b ha hb;have h2:=hr b a hb ha
 split<;>split<;>grind
def og{n m:Nat}{r:Int->Int}(h0:r 0=0)(hc:∀a,zQ n a->zQ n (r a))(hr:∀a,zQ n a->a≠0->r a≠0):LD n m jL 0 (λ_ a=>r a):=by
 refine⟨λc a _ ha=>hc a ha,h0,λa i b k ha _ hb _=>?_⟩;unfold jL;have h2:=hr b hb
 split<;>split<;>grind
def oV{n m:Nat}{r:Int->Int}(h0:r 0=0)(hc:∀a,zQ n a->zQ n (r a))(hr:∀a,zQ n a->a≠0->r a≠0):LD n m jF 0 (λ_ a=>r a):=by
 refine⟨λc a _ ha=>hc a ha,h0,λa i b k ha _ hb _=>?_⟩;unfold jF;have h2:=hr a ha
 split<;>split<;>grind
def pM{m:Nat}{r:Int->Int}(h:(∀a,zQ 4 a->r a=a)\/(∀a,zQ 4 a->r a=(if a=2 then 3 else if a=3 then 2 else a))):LD 4 m j4 0 (λ_ a=>r a):=by
 rcases h with h|h
 . refine⟨λc a _ ha=>by show zQ 4 (r a);rw[h a ha];exact ha,h 0 ⟨by decide,by decide⟩,λa i b k ha _ hb _=>?_⟩;rw[h a ha,h b hb,h _<|sS.cl a b ha hb]
 . refine⟨λc a _ ha=>by show zQ 4 (r a);rw[h a ha];exact f4 (P:=λa=>zQ 4 (if a=2 then 3 else if a=3 then 2 else a)) (by decide) ha,h 0 ⟨by decide,by decide⟩,λa i b k ha _ hb _=>?_⟩;rw[h a ha,h b hb,h _<|sS.cl a b ha hb];have:∀a ∈ ([0,1,2,3]:List Int),∀b ∈ ([0,1,2,3]:List Int),(if j4 a b=2 then 3 else if j4 a b=3 then 2 else j4 a b)=j4 (if a=2 then 3 else if a=3 then 2 else a) (if b=2 then 3 else if b=3 then 2 else b):=by decide
   exact f4 (λa m=>f4 (this a m) hb) ha
def OU{n1 n2:Nat}{x y:Int}(hx:zQ n1 x)(hy:zQ n2 y):zQ (n1*n2) (x*n2+y):=by
 have h1:0<=x*n2:=Int.mul_nonneg hx.1 (by omega);have h2:x*n2<=(n1-1)*n2:=Int.mul_le_mul_of_nonneg_right (by have:=hx.2;omega) (by omega);rw[Int.sub_mul,Int.one_mul]at h2;refine⟨by have:=hy.1;omega, ?_⟩;rw[zzV];have:=hy.2;omega
def yp{n1 n2:Nat}{p:Int}(h2:0<n2)(h:zQ (n1*n2) p):zQ n1 (p/n2)/\zQ n2 (p%n2):=
 ⟨⟨Int.ediv_nonneg h.1 (by omega),Int.ediv_lt_of_lt_mul (by omega)<|by have:=h.2;rw[zzV]at this;exact this⟩,EO h2⟩
def Gr{n2:Nat}{x y:Int}(hy:zQ n2 y):(x*n2+y)/n2=x/\(x*n2+y)%n2=y:=by
 have h0:(n2:Int)≠0:=by have:=hy.1;have:=hy.2;omega
 constructor
 . rw[Int.add_comm,Int.add_mul_ediv_right _ _ h0,Int.ediv_eq_zero_of_lt hy.1 hy.2,Int.zero_add]
 . rw[Int.add_comm,Int.add_mul_emod_self_right,Int.emod_eq_of_lt hy.1 hy.2]
def u_{n2:Nat}{p:Int}:(p/n2)*n2+p%n2=p:=by rw[Int.mul_comm];exact Int.mul_ediv_add_emod p n2
def jB(n2:Nat)(j1 j2:Int->Int->Int)(p q:Int):Int:=j1 (p/n2) (q/n2)*n2+j2 (p%n2) (q%n2)
def dB(n2:Nat)(d1 d2:Int->Int->Int)(c p:Int):Int:=d1 c (p/n2)*n2+d2 c (p%n2)
def ph{n1 n2:Nat}{j1 j2:Int->Int->Int}(h1:LJ n1 j1 0)(h2:LJ n2 j2 0)(p2:0<n2):LJ (n1*n2) (jB n2 j1 j2) 0:=by
 refine⟨λa b ha hb=>?_, ?_,λa ha=>?_,λa ha=>?_,λa b c ha hb hc=>?_⟩
 . exact OU (h1.cl _ _ (yp p2 ha).1 (yp p2 hb).1)<|h2.cl _ _ (yp p2 ha).2 (yp p2 hb).2
 . have:=OU h1.ce h2.ce;simpa using this
 . unfold jB;rw[Int.zero_ediv,Int.zero_emod,h1.ul _ (yp p2 ha).1,h2.ul _ (yp p2 ha).2,u_]
 . unfold jB;rw[Int.zero_ediv,Int.zero_emod,h1.ur _ (yp p2 ha).1,h2.ur _ (yp p2 ha).2,u_]
 . unfold jB;rw[(Gr<|h2.cl _ _ (yp p2 ha).2 (yp p2 hb).2).1,(Gr<|h2.cl _ _ (yp p2 ha).2 (yp p2 hb).2).2,(Gr<|h2.cl _ _ (yp p2 hb).2 (yp p2 hc).2).1,(Gr<|h2.cl _ _ (yp p2 hb).2 (yp p2 hc).2).2,h1.as _ _ _ (yp p2 ha).1 (yp p2 hb).1 (yp p2 hc).1,h2.as _ _ _ (yp p2 ha).2 (yp p2 hb).2 (yp p2 hc).2]
def oZ{n1 n2 m:Nat}{j1 j2 d1 d2:Int->Int->Int}(h1:LJ n1 j1 0)(h2:LJ n2 j2 0)(p2:0<n2)(e1:LD n1 m j1 0 d1)(e2:LD n2 m j2 0 d2):LD (n1*n2) m (jB n2 j1 j2) 0 (dB n2 d1 d2):=by
 refine⟨λc a hc ha=>OU (e1.cl _ _ hc (yp p2 ha).1)<|e2.cl _ _ hc (yp p2 ha).2, ?_,λa i b k ha hi hb hk=>?_⟩
 . unfold dB;rw[Int.zero_ediv,Int.zero_emod,e1.em,e2.em,Int.zero_mul,Int.add_zero]
 . unfold jB dB;rw[(Gr<|h2.cl _ _ (yp p2 ha).2 (yp p2 hb).2).1,(Gr<|h2.cl _ _ (yp p2 ha).2 (yp p2 hb).2).2,(Gr<|e2.cl i _ hi (yp p2 ha).2).1,(Gr<|e2.cl i _ hi (yp p2 ha).2).2,(Gr<|e2.cl k _ hk (yp p2 hb).2).1,(Gr<|e2.cl k _ hk (yp p2 hb).2).2,e1.dn _ _ _ _ (yp p2 ha).1 hi (yp p2 hb).1 hk,e2.dn _ _ _ _ (yp p2 ha).2 hi (yp p2 hb).2 hk]
def oI{n:Nat}{j:Int->Int->Int}{F B:Int->Int}(h:LJ n j 0)(hF:∀a,zQ n a->zQ n (F a))(hB:∀a,zQ n a->zQ n (B a))(hFB:∀a,zQ n a->F (B a)=a)(hBF:∀a,zQ n a->B (F a)=a):LJ n (λa b=>F<|j (B a)<|B b) (F 0):=by
 refine⟨λa b ha hb=>hF _<|h.cl _ _ (hB a ha)<|hB b hb,hF 0 h.ce,λa ha=>?_,λa ha=>?_,λa b c ha hb hc=>?_⟩
 . show _=a;rw[hBF 0 h.ce,h.ul _<|hB a ha,hFB a ha]
 . show _=a;rw[hBF 0 h.ce,h.ur _<|hB a ha,hFB a ha]
 . show _=_;rw[hBF _<|h.cl _ _ (hB a ha)<|hB b hb,hBF _<|h.cl _ _ (hB b hb)<|hB c hc,h.as _ _ _ (hB a ha) (hB b hb)<|hB c hc]
def oB{n m:Nat}{j d:Int->Int->Int}{F B:Int->Int}(hm:0<m)(h:LJ n j 0)(e:LD n m j 0 d)(hF:∀a,zQ n a->zQ n (F a))(hB:∀a,zQ n a->zQ n (B a))(hFB:∀a,zQ n a->F (B a)=a)(hBF:∀a,zQ n a->B (F a)=a):LD n m (λa b=>F<|j (B a)<|B b) (F 0) (λc a=>F<|d c<|B a):=by
 refine⟨λc a hc ha=>hF _<|e.cl _ _ hc<|hB a ha, ?_,λa i b k ha hi hb hk=>?_⟩
 . show _=F 0;rw[hBF 0 h.ce,e.em]
 . show _=_;rw[hBF _<|h.cl _ _ (hB a ha)<|hB b hb,hBF _<|e.cl _ _ hi<|hB a ha,hBF _<|e.cl _ _ hk<|hB b hb,e.dn _ _ _ _ (hB a ha) hi (hB b hb) hk]
def GA{n k:Nat}(h:n<=8)(hk:8<=k:=by decide):n<=k:=zzO h hk
def GL{n:Nat}(h:1<=n):(0:Int)<n:=Int.natCast_pos.mpr h
def Gc{n:Nat}(h:1<=n):0<n:=h
def Gy{n:Nat}(h:2<=n):0<n:=zzO (by decide) h
def Gu{x k:Int}(h:0<=x/\x<k) : -(10 ^ 200:Int)<x:=Int.lt_of_lt_of_le (by decide) h.1
def Gp{x:Int}(h:0<=x/\x<2147483399):x<10 ^ 200:=Int.lt_trans h.2 (by decide)
def GI{l i m:Nat}(h:m<=8)(e:l=0+i)(hi:i<m):l<1000:=by rw[e,zyY];exact zzK hi (zzO h<|by decide)
def Ga(i:Nat):0+i+1=i+1:=by rw[zyY]
def Gx{l m:Nat}(h:l=0+m):l=m:=by rw[h,zyY]
def Gi{l k:Nat}{a:Int}(h:l=k)(hk:a<(k:Int):=by decide):a<(l:Int):=h ▸ hk
def tS{a:Int}{n:Nat}(h0:0<=a)(h1:a<n):a.toNat<n:=Int.ofNat_lt.mp (by rw[zyZ h0];exact h1)
def b6{n:Nat}(h:n<=6):(n:Int)<10 ^ 200:=Int.lt_of_le_of_lt (Int.ofNat_le.mpr h) (by decide)
def Tn{n:Nat}(h:n<=8):(n:Int)<10 ^ 200:=Int.lt_of_le_of_lt (Int.ofNat_le.mpr h) (by decide)
def Gs(n:Nat) : -(10 ^ 200:Int)<n:=Int.lt_of_lt_of_le (by decide)<|Int.natCast_nonneg n
def mU{n:Nat}{k:Int}(h:n<=8)(hk:8<k:=by decide):(n:Int)<k:=Int.lt_of_le_of_lt (Int.ofNat_le.mpr h) hk
def iL{n:Nat}{x:Int}(h:zQ n x) : -(10 ^ 200:Int)<x:=Int.lt_of_lt_of_le (by decide) h.1
def iU{n:Nat}{x:Int}(h:zQ n x)(hn:n<=8):x<10 ^ 200:=Int.lt_trans h.2<|Tn hn
def iT{n:Nat}{x:Int}(h:zQ n x):x.toNat<n:=Int.ofNat_lt.mp (by rw[zyZ h.1];exact h.2)
def iC{n:Nat}{x:Int}(h:zQ n x):((x.toNat:Nat):Int)=x:=zyZ h.1
def zI(i:Nat):(0:Int)<=0+i:=by rw[Int.zero_add];exact Int.natCast_nonneg i
def Gg{x:Int}(h:0<=x) : -(10 ^ 200:Int)<x:=Int.lt_of_lt_of_le (by decide) h
def GE{x:Int}{n:Nat}(h:x<(n:Int))(hn:n<=8):x<10 ^ 200:=Int.lt_trans h<|Tn hn
def zM(r:List Int)(v:Int):Int:=(r[v.toNat]?).getD 0
def yE(J:List (List Int))(w v:Int):Int:=zM ((J[w.toNat]?).getD []) v
open PySem PySem.Spec PyProof.Rows L2 PF
local macro_rules | `(tactic| trivial)=>`(tactic| first|with_reducible first|assumption|exact Int.natCast_nonneg _|exact Nat.le_refl _|exact Int.le_refl _|exact rfl|exact GA (by assumption)|exact GL (by assumption)|exact np2 (by assumption)|exact Gc (by assumption)|exact Gy (by assumption)|exact Int.natCast_pos.mpr (by assumption)|exact Nat.le_trans (by assumption) (by decide)|exact Gs _|exact Tn (by assumption)|exact mU (by assumption)|exact zI _|exact Gg (by assumption)|exact GE (by assumption) (by assumption)|exact iL (by assumption)|exact iU (by assumption) (by assumption)|exact iC (by assumption)|exact iT (by assumption)|exact Gu (by assumption)|exact Gp (by assumption)|exact GI (by assumption) (by assumption) (by assumption)|exact Ga _|exact Gx (by assumption)|exact Gi (by assumption)|exact Int.toNat_of_nonneg (by assumption)|exact tS (by assumption) (by assumption)|exact b6 (by assumption)|exact Int.emod_nonneg _ (by decide)|exact Int.emod_lt_of_pos _ (by decide)|decide|omega)
abbrev vJ(x:Int):O:=.lf true<|.int x
abbrev sI(x:Int):Option O:=some<|vJ x
abbrev sT(d:D):Option O:=some<|.lf true d
abbrev sN(os:List O):Option O:=some<|.nd .ls os
abbrev TZ:Type:=List<|List Int
abbrev DZ:Type:=List<|Str×TZ
abbrev SS:Type:=List<|Str×List Int
def XS{f:EF}{as as1:AS}{o:O}(h:f as=some (.ow o,as1))(hs:o.str=true):zV f as=some (.rt o):=by
 unfold zV;rw[h];show((if o.str=true then some o else none).bind _)=_;rw[if_pos hs];rfl
def Gk{n:Nat}(h:n<=1000000):n<=sizeLine:=zzO h (by decide)
theorem xD:∀xs:List Int,(xs.map vJ).all O.isLf=true/\O.strs (xs.map vJ)=true/\O.toDs (xs.map vJ)=xs.map D.int
 | []=>⟨rfl,rfl,rfl⟩
 |x::r=>⟨(xD r).1,(xD r).2.1,congrArg (D.int x :: ·) (xD r).2.2⟩
def X9(xs:List Int):(xs.map D.int).map (O.lf true)=xs.map vJ:=by rw[zyB];rfl
def An{as:AS}{i:Nat}{os:List O}{fl fh:OF}{lo hi:Option Int}(h:as[i]? = some (sN os))(hl:os.all O.isLf=true)(hs:O.strs os=true)(h1:fl as=some (lo,as))(h2:fh as=some (hi,as)):
 ZW (fV i) fl fh Qa as=some (.ow<|.nd .ls<|(cutD (O.toDs os) lo hi).map<|O.lf true,as):=by
 unfold ZW;rw[UL h];show((fl as).bind _)=_;rw[h1];show((fh as).bind _)=_;rw[h2];show((RV.view as<|.bo i).bind _)=_;rw[Rx h];have e:(O.nd .ls os).kl=some true:=by simp only[O.kl,hl,if_true,hs]
 rw[e];show(if _=true then some (RV.ow<|.nd .ls<|(cutD _ lo hi).map<|MN true)else none:Option RV).bind _=_;rw[if_pos (by simp),X6];rfl
def B0{x:D}{xs:List D}:cutD (x::xs) (some 1) none=xs:=by
 have:=OS (xs:=[x]) (ys:=xs);have e:Qa (.lst<|[x]++xs) (some (([x]:List D).length:Int)) none=some (.fl<|cutD (x::xs) (some 1) none):=rfl;rw[e]at this;injection this with this
 injection this
abbrev ot:SF:=(zp (zz true 3<|f2 (f2 (f2 (f2 zC zC zF) (f2 (fC<|.int 48271) zC zF) zA) zZ zA) (fC<|.int 2147483647) zy)
 (yI<|xt 2 (dC (f2 (f2 (f2 zC (fC<|.int 40692) zF) (f2 (fC<|.int 7) zZ zF) zA) (fC<|.int 2147483399) zy) dN) xF))
def ME(ys:List Int)(w:Int):(ys++[w]).map vJ=ys.map vJ++[O.lf true<|.int w]:=by rw[zyM];rfl
theorem TH{A B:Option O}:∀(n:Nat) (k x:Int) (ys:List Int) (e4:Option O),0<=k->k+n<=1000->0<=x->x<2 ^ 40->ys.length+n<=1000->(∀y ∈ ys,0<=y/\y<2147483399)->∃(x':Int) (zs:List Int) (e4':Option O),zs.length=ys.length+n/\(∀z ∈ zs,0<=z/\z<2147483399)/\
 forL wO ot (xk k n) [A,B,sN<|ys.map vJ,sI x,e4]=some (.nx [A,B,sN<|zs.map vJ,sI x',e4'])
 |0,k,x,ys,e4,_,_,_,_,_,h=>⟨x,ys,e4,rfl,h,rfl⟩
 |n+1,k,x,ys,e4,hk,hkn,hx0,hx1,hl,h=>by
  have y0:=zyN (x*x+48271*x+k) (show 2147483647≠0 by decide);have y1:=zyH (x*x+48271*x+k) (show 0<2147483647 by decide);have w0:=zyN ((x*x+48271*x+k)%2147483647*40692+7*k) (show 2147483399≠0 by decide);have w1:=zyH ((x*x+48271*x+k)%2147483647*40692+7*k) (show 0<2147483399 by decide);obtain⟨x',zs,e4',h1,h2,h3⟩:=TH n (k+1) ((x*x+48271*x+k)%2147483647) (ys++[((x*x+48271*x+k)%2147483647*40692+7*k)%2147483399]) (sI k) (by trivial) (by trivial) y0 (Int.lt_trans y1<|by decide) (by rw[zzJ];show ys.length+1+n<=_;trivial) (λz m=>by
   rcases zzM.mp m with m|m
   . exact h z m
   . rw[zzR.mp m];exact⟨w0,w1⟩)
  refine⟨x',zs,e4',by rw[h1,zzJ];show ys.length+1+n=_;trivial,h2, ?_⟩;rw[ME]at h3;rw[QP];have bx:=zP (Int.lt_of_lt_of_le (by decide) hx0) (Int.lt_trans hx1<|by decide);have bk:k.natAbs<big:=zP (by trivial) (by trivial);exact xN rfl (zW (yf (yb (yD (yD (y6 (za rfl) (za rfl) bx bx)<|y6 zb (za rfl) (zP (by decide)<|by decide) bx)<|za rfl) zb<|by decide)<|zo rfl)
   (Az rfl (by rw[zzB];exact xZ<|by trivial)<|yb (yD (y6 (za rfl) zb (zP (Int.lt_of_lt_of_le (by decide) y0)<|Int.lt_trans y1<|by decide)<|zP (by decide)<|by decide)<|y6 zb (za rfl) (zP (by decide)<|by decide) bk) zb<|by decide)) h3
def Si{s:Bool}{c m:Int}(h0:0<=m)(h1:m<=900):∃xs:List Int,(xs.length:Int)=m/\(∀x ∈ xs,0<=x/\x<2147483399)/\yo [(true,.int c),(true,.int m)]=sN (xs.map vJ):=by
 have y0:=zyN c (show 2147483647≠0 by decide);have y1:=zyH c (show 0<2147483647 by decide);obtain⟨x',zs,e4,z1,z2,hf⟩:=TH (m+1).toNat 0 (c%2147483647+48271) [] none (by trivial) (by trivial) (by trivial) (by trivial) (by show 0+_<=_;trivial) (λ_ m=>nomatch m);cases zs with
 |nil=>rw[List.length_nil]at z1;simp at z1;trivial
 |cons z r=>
  refine⟨r,by rw[zzT]at z1;simp at z1;trivial,λx hx=>z2 x<|zzD _ hx, ?_⟩;obtain⟨i1,i2,i3⟩:=xD (z::r);have hs:=An (as:=[sI c,sI m,sN<|(z::r).map vJ,sI x',e4]) (i:=2) (fl:=oS zH) (fh:=oN) rfl i1 i2 rfl rfl;rw[i3]at hs;have hc:cutD ((z::r).map D.int) (some 1) none=r.map D.int:=B0;rw[hc,X9]at hs;refine xR rfl<|zW (y8 (xS zR<|wX rfl)<|zo rfl)<|zW (yf (yD (yb (za rfl) zb<|by decide) zb)<|zo rfl)<|zW (yF (yU (ze (yD (za rfl) zb) zq) (by trivial)<|by trivial) hf) ?_;exact XS hs (xD r).2.1
def vO(xs:List Int):(O.nd .ls<|xs.map vJ).str=true/\(O.nd .ls<|xs.map vJ).toD = .lst (xs.map D.int):=⟨(xD xs).2.1,congrArg D.lst (xD xs).2.2⟩
abbrev Zr(r:List Int):O:=.nd .ls<|r.map vJ
abbrev zc(r:List Int):D:=.lst<|r.map D.int
theorem X3:∀T:TZ,O.strs (T.map Zr)=true/\O.toDs (T.map Zr)=T.map zc
 | []=>⟨rfl,rfl⟩
 |r::T=>⟨by show(O.strs (r.map vJ)&&O.strs (T.map Zr))=true;rw[(xD r).2.1,(X3 T).1];rfl,by
  show D.lst _::O.toDs _=_;rw[(xD r).2.2,(X3 T).2];rfl⟩
def Vq{g:GF}{fe:EF}{as0 as1:AS}{y:ZV}{r:List ZV}{o:O}{os:List O}(h1:g y as0=some as1)(h2:fe as1=some (.ow o,as1))(hs:o.str=true)(h3:xv g zN fe as0 r=some os):xv g zN fe as0 (y::r)=some (o::os):=by
 unfold xv;rw[h1];show((fe as1).bind _)=_;rw[h2];show(if o.str=true then _ else _)=_;rw[if_pos hs,h3];rfl
theorem yJ:∀(n:Nat) (k:Int),(xk k n).length=n
 |0,_=>rfl
 |n+1,k=>by rw[QP];exact congrArg (· + 1)<|yJ n<|k+1
theorem Pl{f:D->D->Option Bool}:∀{xs:List D},(∀x ∈ xs,f x x=some true)->FM f xs xs=some true
 | [],_=>rfl
 |x::r,h=>by
  show(f x x).bind _=_;rw[h x<|zzF,zyL,Pl λy m=>h y<|zzD _ m];rfl
def OD{r:List Int}:wN 60 (zc r) (zc r)=some true:=by
 refine Pl λx m=>?_;obtain⟨i,_,rfl⟩:=zxE.mp m;show some _=_;simp
theorem FX:∀{n:Nat}{k:Int}{y:ZV},y ∈ xk k n->∃b:Int,y=(true,.int b)/\k<=b/\b<k+n
 |0,_,_,h=>nomatch h
 |n+1,k,y,h=>by
  rw[QP]at h
  rcases zzC.mp h with rfl|h
  . exact⟨k,rfl,by trivial,by trivial⟩
  . obtain⟨b,e,h1,h2⟩:=FX h;exact⟨b,e,by trivial,by trivial⟩
theorem Km{α:Type}(toD:α->D){Q:α->Prop}{g:GF}{fe:EF}{as0:AS}:∀{xs:List ZV},(∀y ∈ xs,∃as1 a,g y as0=some as1/\WE fe as1 (toD a)/\Q a)->∃(os:List O) (l:List α),xv g zN fe as0 xs=some os/\O.strs os=true/\O.toDs os=l.map toD/\l.length=xs.length/\∀a ∈ l,Q a
 | [],_=>⟨[],[],rfl,rfl,rfl,rfl,λ_ m=>nomatch m⟩
 |y::xs,H=>by
  obtain⟨as1,a,h1,⟨o,h2,h3,h4⟩,h5⟩:=H y<|zzF ..;obtain⟨os,l,a1,a2,a3,a4,a5⟩:=Km toD λz m=>H z<|zzD _ m;refine⟨o::os,a::l,Vq h1 h2 h3 a1,by show(o.str&&O.strs os)=true;rw[h3,a2];rfl,by show o.toD::O.toDs os=_;rw[h4,a3];rfl,congrArg (· + 1) a4,λb m=>?_⟩
  rcases zzC.mp m with rfl|m
  . exact h5
  . exact a5 b m
def FF{α:Type}(toD:α->D){Q:α->Prop}{fi:IF}{cap:List (Option Nat)}{g:GF}{fe:EF}{as:AS}{xs:List ZV}(h1:fi as=some (xs,as))(hl:xs.length<=1000)(H:∀y ∈ xs,∃as1 a,g y (vB cap as)=some as1/\WE fe as1 (toD a)/\Q a):
 ∃l:List α,l.length=xs.length/\(∀a ∈ l,Q a)/\WE (zr fi cap g zN fe) as (.lst<|l.map toD):=by
 obtain⟨os,l,a1,a2,a3,a4,a5⟩:=Km toD H;exact⟨l,a4,a5,_,Yd h1 (Gk<|by trivial) a1,a2,congrArg D.lst a3⟩
def Po{α:Type}(toD:α->D){Q:α->Prop}{fr:AF}{cap:List (Option Nat)}{fe:EF}{as:AS}{n:Nat}{u:Bool}(h1:WA fr as [(u,.int n)])(hl:n<=1000)(H:∀b:Int,0<=b->b<n->∃as1 a,gN 0 (true,.int b) (vB cap as)=some as1/\WE fe as1 (toD a)/\Q a):
 ∃l:List α,l.length=n/\(∀a ∈ l,Q a)/\WE (zr (zY fr z_) cap zG zN fe) as (.lst<|l.map toD):=by
 obtain⟨l,a1,a2,a3⟩:=FF toD (yU h1 (by trivial)<|by trivial) (by rw[yJ];trivial) (λy m=>by
  obtain⟨b,rfl,h0,h2⟩:=FX m;exact H b h0<|by trivial)
 rw[yJ]at a1;exact⟨l,by trivial,a2,a3⟩
def OH{f:EF}{as:AS}{x:D}(h:WE f as x):∃o,zV f as=some (.rt o)/\o.str=true/\o.toD=x:=by
 obtain⟨o,h1,h2,h3⟩:=h;exact⟨o,XS h1 h2,h2,h3⟩
def yk{n m:Nat}{c:SF}{ds:List (Bool×D)}{x:D}(hl:ds.length=m)(h:∃o,c (Yl n ds)=some (.rt o)/\o.str=true/\o.toD=x):RE (wQ n m c ds) x:=by
 obtain⟨o,h1,h2,h3⟩:=h;exact⟨o,xR hl h1,h2,h3⟩
abbrev Rt(r:Option Out)(x:D):Prop:=∃o,r=some (.rt o)/\o.str=true/\o.toD=x
def zd{f g:SF}{as as1:AS}{x:D}(h1:f as=some (.nx as1))(h2:Rt (g as1) x):Rt (zp f g as) x:=by
 obtain⟨o,a,b,c⟩:=h2;exact⟨o,zW h1 a,b,c⟩
def xa{f g:SF}{as:AS}{x:D}(h1:Rt (f as) x):Rt (zp f g as) x:=by
 obtain⟨o,a,b,c⟩:=h1;exact⟨o,RF a,b,c⟩
def xT{c:TF}{f g:SF}{as:AS}{x:D}(h:WT c as true)(h1:Rt (f as) x):Rt (xB c f g as) x:=by
 obtain⟨o,a,b,d⟩:=h1;exact⟨o,wL h a,b,d⟩
def yg{f:EF}{as:AS}{x:D}(h:WE f as x):Rt (zV f as) x:=OH h
def Row(n:Nat)(r:List Int):Prop:=r.length=n/\∀x ∈ r,0<=x/\x<(n:Int)
def Tab(k n:Nat)(T:TZ):Prop:=T.length=k/\∀r ∈ T,Row n r
abbrev zv(T:TZ):D:=.lst<|T.map zc
def QL{r:List Int}{P:Int->Prop}{k:Int}(h0:0<=k)(h1:k<r.length)(hp:∀x ∈ r,P x):∃x,zk (zc r) (.int k)=some (.im<|.int x)/\P x:=by
 have hk:k.toNat<r.length:=by trivial
 refine⟨r[k.toNat], ?_,hp _<|zxA hk⟩;have h:=v8 (xs:=r.map D.int) (by rw[zzI,zzE hk];rfl);rw[show(k.toNat:Int)=k by trivial]at h;show SU _=_;rw[h];rfl
def DG{α:Type}(toD:α->D){T:List α}{P:α->Prop}{k:Int}(h0:0<=k)(h1:k<T.length)(hp:∀r ∈ T,P r):∃r,zk (.lst<|T.map toD) (.int k)=some (.im<|toD r)/\P r:=by
 have hk:k.toNat<T.length:=by trivial
 refine⟨T[k.toNat], ?_,hp _<|zxA hk⟩;have h:=v8 (xs:=T.map toD) (by rw[zzI,zzE hk];rfl);rw[show(k.toNat:Int)=k by trivial]at h;show SU _=_;rw[h];rfl
abbrev St(x:Int):Prop:=0<=x/\x<2147483399
def IV{a b:EF}{as:AS}{c:Int}{m:Nat}(hm:m<=900)(ha:WE a as (.int c))(hb:WE b as (.int m)):∃xs:List Int,xs.length=m/\(∀x ∈ xs,St x)/\WE (zx (aC a<|aC b aN) yo) as (zc xs):=by
 obtain⟨xs,h1,h2,h3⟩:=Si (s:=true) (m:=m) (by trivial) (by trivial);exact⟨xs,by trivial,h2,wY ha hb ⟨_,h3,(vO xs).1,(vO xs).2⟩⟩
def Px{α:Type}{f:α->D}{l:List α}{i:Nat}{p:α}(h:l[i]? = some p):zk (.lst<|l.map f) (.int (i:Int))=some (.im<|f p):=by
 have h:=v8 (v:=f p) (by rw[zzI,h];rfl);show SU _=_;rw[h];rfl
def Av{n k:Nat}{r:List Int}{v:Int}(hl:r.length=k)(hr:∀x ∈ r,zQ n x)(hv:zQ k v):zk (zc r) (.int v)=some (.im<|.int<|zM r v)/\zQ n (zM r v):=by
 have hk:v.toNat<r.length:=by rw[hl];have:=hv.1;have:=hv.2;trivial
 have g:=zzE hk;have e:zM r v=r[v.toNat]:=by unfold zM;rw[g];rfl
 rw[e];refine⟨?_,hr _<|zxA hk⟩;have:=Px (f:=D.int) g;rw[show(v.toNat:Int)=v by have:=hv.1;trivial]at this;exact this
abbrev K4(T:TZ)(w:Int):List Int:=(T[w.toNat]?).getD []
def wK{k n:Nat}{T:TZ}{w:Int}(hT:Tab k n T)(hw:zQ k w):zk (zv T) (.int w)=some (.im<|zc<|K4 T w)/\Row n (K4 T w):=by
 have hk:w.toNat<T.length:=by rw[hT.1];have:=hw.1;have:=hw.2;trivial
 have g:=zzE hk;unfold K4;rw[g];refine⟨?_,hT.2 _<|zxA hk⟩;have:=Px (f:=zc) g;rw[show(w.toNat:Int)=w by have:=hw.1;trivial]at this;exact this
def rowAt{n:Nat}{r:List Int}{v:Int}(hr:Row n r)(hv:zQ n v):zk (zc r) (.int v)=some (.im<|.int<|zM r v)/\zQ n (zM r v):=Av hr.1 hr.2 hv
theorem Fj{α:Type}(toD:α->D){Q:Nat->α->Prop}{g:GF}{fe:EF}{as0:AS}:∀{xs:List ZV}(k:Nat),(∀i y,xs[i]? = some y->∃as1 a,g y as0=some as1/\WE fe as1 (toD a)/\Q (k+i) a)->∃(os:List O) (l:List α),xv g zN fe as0 xs=some os/\O.strs os=true/\O.toDs os=l.map toD/\l.length=xs.length/\∀i a,l[i]? = some a->Q (k+i) a
 | [],k,_=>⟨[],[],rfl,rfl,rfl,rfl,λi a h=>by simp at h⟩
 |y::xs,k,H=>by
  obtain⟨as1,a,h1,⟨o,h2,h3,h4⟩,h5⟩:=H 0 y rfl;obtain⟨os,l,a1,a2,a3,a4,a5⟩:=Fj toD (k+1) λi z m=>by
   have:=H (i+1) z (by simpa using m)
   rwa [show k+(i+1)=k+1+i by trivial]at this
  refine⟨o::os,a::l,Vq h1 h2 h3 a1,by show(o.str&&O.strs os)=true;rw[h3,a2];rfl,by show o.toD::O.toDs os=_;rw[h4,a3];rfl,congrArg (· + 1) a4,λi b m=>?_⟩;cases i with
  |zero=>simp at m;subst m;exact h5
  |succ i=>
   have:=a5 i b (by simpa using m)
   rwa [show k+1+i=k+(i+1) by trivial]at this
def Ko{α:Type}(toD:α->D){Q:Nat->α->Prop}{fi:IF}{cap:List (Option Nat)}{g:GF}{fe:EF}{as:AS}{xs:List ZV}(h1:fi as=some (xs,as))(hl:xs.length<=1000)(H:∀i y,xs[i]? = some y->∃as1 a,g y (vB cap as)=some as1/\WE fe as1 (toD a)/\Q i a):
 ∃l:List α,l.length=xs.length/\(∀i a,l[i]? = some a->Q i a)/\WE (zr fi cap g zN fe) as (.lst<|l.map toD):=by
 obtain⟨os,l,a1,a2,a3,a4,a5⟩:=Fj toD 0 (λi y h=>by rw[zyY];exact H i y h);exact⟨l,a4,(λi a h=>by have:=a5 i a h;rwa [zyY]at this),_,Yd h1 (Gk<|by trivial) a1,a2,congrArg D.lst a3⟩
abbrev RU(N n:Nat)(f:Int->Int)(r:List Int):Prop:=r.length=n/\(∀x ∈ r,zQ N x)/\∀b,zQ n b->zM r b=f b
abbrev RT(k n:Nat)(f:Int->Int->Int)(T:TZ):Prop:=Tab k n T/\∀a b,zQ k a->zQ n b->yE T a b=f a b
def KG{N n:Nat}{f:Int->Int}{l:List Int}(hl:l.length=n)(h:∀(i:Nat) a,l[i]? = some a->a=f i/\zQ N a):RU N n f l:=by
 refine⟨hl,λx m=>?_,λb hb=>?_⟩
 . obtain⟨i,hi⟩:=zyV m;exact(h i x hi).2
 . have hk:b.toNat<l.length:=by rw[hl];have:=hb.1;have:=hb.2;trivial
   have g:=zzE hk;unfold zM;rw[g];show l[b.toNat]=_;rw[(h _ _ g).1,show(b.toNat:Int)=b by have:=hb.1;trivial]
def X7{k n:Nat}{f:Int->Int->Int}{l:TZ}(hl:l.length=k)(h:∀(i:Nat) r,l[i]? = some r->RU n n (f i) r):RT k n f l:=by
 refine⟨⟨hl,λx m=>?_⟩,λa b ha hb=>?_⟩
 . obtain⟨i,hi⟩:=zyV m;exact⟨(h i x hi).1,(h i x hi).2.1⟩
 . have hk:a.toNat<l.length:=by rw[hl];have:=ha.1;have:=ha.2;trivial
   have g:=zzE hk;unfold yE;rw[g];have:=(h _ _ g).2.2 b hb;rw[show(a.toNat:Int)=a by have:=ha.1;trivial]at this;exact this
def Vo{f:Int->Int}{N:Nat}{fr:AF}{cap:List (Option Nat)}{fe:EF}{as:AS}{n:Nat}{u:Bool}(h1:WA fr as [(u,.int n)])(hl:n<=1000)(H:∀b:Int,zQ n b->∃as1,gN 0 (true,.int b) (vB cap as)=some as1/\WE fe as1 (.int<|f b)/\zQ N (f b)):
 ∃r:List Int,RU N n f r/\WE (zr (zY fr z_) cap zG zN fe) as (zc r):=by
 obtain⟨l,a1,a2,a3⟩:=Ko D.int (Q:=λi a=>a=f i/\zQ N a) (yU h1 (by trivial)<|by trivial) (by rw[yJ];trivial) (λi y m=>by
  obtain⟨rfl,hi⟩:=xJ m;obtain⟨as1,b1,b2,b3⟩:=H (0+i) ⟨by trivial,by trivial⟩;exact⟨as1,f<|0+i,b1,b2,by rw[Int.zero_add],b3⟩)
 rw[yJ]at a1;exact⟨l,KG (by trivial) a2,a3⟩
def RA{f:Int->Int->Int}{n:Nat}{fr:AF}{cap:List (Option Nat)}{fe:EF}{as:AS}{k:Nat}{u:Bool}(h1:WA fr as [(u,.int k)])(hl:k<=1000)(H:∀b:Int,zQ k b->∃as1 r,gN 0 (true,.int b) (vB cap as)=some as1/\WE fe as1 (zc r)/\RU n n (f b) r):
 ∃T:TZ,RT k n f T/\WE (zr (zY fr z_) cap zG zN fe) as (zv T):=by
 obtain⟨l,a1,a2,a3⟩:=Ko zc (yU h1 (by trivial)<|by trivial) (by rw[yJ];trivial) (λi y m=>by
  obtain⟨rfl,hi⟩:=xJ m;obtain⟨as1,r,b1,b2,b3⟩:=H (0+i) ⟨by trivial,by trivial⟩;rw[Int.zero_add]at b3;exact⟨as1,r,b1,b2,b3⟩)
 rw[yJ]at a1;exact⟨l,X7 (by trivial) a2,a3⟩
def MY:∀(b:Nat) (a:Int) (f:Nat),b<f->0<a->a<1000->b<1000->∃g e,0<g/\g<1000/\g ∣ a/\g ∣ (b:Int)/\Sr (fT<|f2 zi zL<|zt .Gt) (OQ 0 1<|dC zi<|dC (f2 zg zi zy) dN) f [sI a,sI b]=some (.nx [sI g,e]):=by
 intro b
 induction b using Nat.strongRecOn with
 |ind b ih=>
  intro a f hf ha ha2 hb2;cases f with
  |zero=>trivial
  |succ f=>
   by_cases hb:b=0
   . subst hb;exact⟨a,_,ha,ha2,Int.dvd_refl a,Int.dvd_zero a,M3<|zJ (Vs (za rfl) zb) rfl⟩
   . have m0:=zyN a (show(b:Int)≠0 by trivial);have m1:=zyH a (show(0:Int)<b by trivial);obtain⟨g,e,g0,g1,d1,d2,hg⟩:=ih (a%b).toNat (by trivial) b f (by trivial) (by trivial) (by trivial) (by trivial);rw[show(((a%b).toNat:Nat):Int)=a%b by trivial]at hg d2;refine⟨g,e,g0,g1, ?_,d1,OE (zJ (Vs (za rfl) zb)<|congrArg some<|zyO<|show(0:Int)<b by trivial) (AC (zh (za rfl)<|zh (yb (za rfl) (za rfl)<|by trivial) zR) (zo rfl)<|zo rfl) hg⟩;rw[<-Int.mul_ediv_add_emod a b];exact Int.dvd_add (Int.dvd_trans d1<|Int.dvd_mul_right _ _) d2
def EA{n m:Nat}{s t:Bool}(hn:0<n)(hn2:n<=8)(hm:m<=8):∃g:Int,0<g/\g<1000/\g ∣ (n:Int)/\g ∣ (m:Int)/\ZR [(true,.int n),(true,.int m)]=sI g:=by
 obtain⟨g,e,g0,g1,d1,d2,hg⟩:=MY m n 10000 (by trivial) (by trivial) (by trivial) (by trivial);exact⟨g,g0,g1,d1,d2,xR rfl<|zW hg<|y_<|za rfl⟩
theorem strs_snoc:∀(os:List O) (o:O),O.strs os=true->o.str=true->O.strs (os++[o])=true
 | [],o,_,h=>by show(o.str&&true)=true;rw[h];rfl
 |p::r,o,h,h'=>by
  have h:=(zyC _ _).mp<|h;show(p.str&&O.strs (r++[o]))=_;rw[h.1,strs_snoc r o h.2 h'];rfl
theorem X4:∀(os:List O) (o:O),O.toDs (os++[o])=O.toDs os++[o.toD]
 | [],o=>rfl
 |p::r,o=>congrArg (p.toD :: ·)<|X4 r o
structure Ows{α:Type}(toD:α->D)(Q:α->Prop)(os:List O)(l:List α):Prop where
 st:O.strs os=true
 ds:O.toDs os=l.map toD
 al:∀a ∈ l,Q a
 ln:os.length=l.length
def Ows.nil{α:Type}{toD:α->D}{Q:α->Prop}:Ows toD Q [] []:=⟨rfl,rfl,(λ_ m=>nomatch m),rfl⟩
def Ows.snoc{α:Type}{toD:α->D}{Q:α->Prop}{os:List O}{l:List α}{o:O}{a:α}(h:Ows toD Q os l)(h1:o.str=true)(h2:o.toD=toD a)(h3:Q a):Ows toD Q (os++[o]) (l++[a]):=
 ⟨strs_snoc os o h.st h1,(by rw[X4,h.ds,h2,zyM];rfl),(λb m=>(zzM.mp m).elim (h.al b) λm=>(by rw[zzR.mp m];exact h3)),(by rw[zzJ,zzJ,h.ln];rfl)⟩
def RJ{as as1:AS}{a:EF}{i:Nat}{os0 os:List O}{o:O}(h:as[i]? = some (sN os0))(ha:a as=some (.ow o,as1))(h1:as1[i]? = some (sN os))(hl:os.length<sizeLine):yI (xt i (dC a dN) xF) as=some (.nx<|as1.set i<|sN<|os++[o]):=by
 unfold yI xt;rw[h];have e:dC a dN as=some ([o],as1):=yG ha rfl;rw[e];show(Option.bind (match as1[i]? with|some (some<|.nd .ls os)=>_|_=>none) _)=_;rw[h1];show((xF os [o]).bind _).bind _=_;have e2:xF os [o]=some (os++[o],.lf true .non):=by unfold xF;exact if_pos hl
 rw[e2];rfl
def O4{α:Type}{toD:α->D}{Q:α->Prop}{as:AS}{a:EF}{i:Nat}{os:List O}{l:List α}{x:α}(h:as[i]? = some (sN os))(ho:Ows toD Q os l)(hl:l.length<1000)(ha:WE a as (toD x))(hx:Q x):
 ∃os',Ows toD Q os' (l++[x])/\yI (xt i (dC a dN) xF) as=some (.nx<|as.set i<|sN os'):=by
 obtain⟨o,h1,h2,h3⟩:=ha;exact⟨os++[o],ho.snoc h2 h3 hx,RJ h h1 h<|by rw[ho.ln];exact xZ<|by trivial⟩
def Ows.retB{α:Type}{toD:α->D}{Q:α->Prop}{as:AS}{i:Nat}{os:List O}{l:List α}(h:as[i]? = some (sN os))(ho:Ows toD Q os l):Rt (zV (fV i) as) (.lst<|l.map toD):=
 ⟨_,Fl h ho.st,ho.st,congrArg D.lst ho.ds⟩
def at2{xs:List Int}(h:∀x ∈ xs,St x){k:Int}(h0:0<=k)(h1:k<xs.length):∃x,zk (zc xs) (.int k)=some (.im<|.int x)/\St x:=QL h0 h1 h
def wB{x:Int}{n:Nat}(hn:0<n):0<=x%n/\x%n<(n:Int):=⟨zyN _ (by trivial),zyH _<|by trivial⟩
structure OwsX{α:Type}(toD:α->D)(Q:Nat->α->Prop)(os:List O)(l:List α):Prop where
 st:O.strs os=true
 ds:O.toDs os=l.map toD
 al:∀i a,l[i]? = some a->Q i a
 ln:os.length=l.length
def OwsX.nil{α:Type}{toD:α->D}{Q:Nat->α->Prop}:OwsX toD Q [] []:=⟨rfl,rfl,(λi a h=>by simp at h),rfl⟩
def OwsX.snoc{α:Type}{toD:α->D}{Q:Nat->α->Prop}{os:List O}{l:List α}{o:O}{a:α}(h:OwsX toD Q os l)(h1:o.str=true)(h2:o.toD=toD a)(h3:Q l.length a):OwsX toD Q (os++[o]) (l++[a]):=by
 refine⟨strs_snoc os o h.st h1,(by rw[X4,h.ds,h2,zyM];rfl),(λi b m=>?_),(by rw[zzJ,zzJ,h.ln];rfl)⟩
 by_cases hi:i<l.length
 . rw[zyP hi]at m;exact h.al i b m
 . have hl:=(zzG.mp m).1;rw[zzJ]at hl;have e:i=l.length:=by have:i<l.length+1:=hl;trivial
   subst e;rw[zyR<|zzN _,Nat.sub_self]at m;cases m;exact h3
def OwsX.ows{α:Type}{toD:α->D}{Q:Nat->α->Prop}{os:List O}{l:List α}(h:OwsX toD Q os l):Ows toD (λ_=>True) os l:=⟨h.st,h.ds,(λ_ _=>trivial),h.ln⟩
def ua{α:Type}{toD:α->D}{Q:Nat->α->Prop}{as:AS}{a:EF}{i:Nat}{os:List O}{l:List α}{x:α}(h:as[i]? = some (sN os))(ho:OwsX toD Q os l)(hl:l.length<1000)(ha:WE a as (toD x))(hx:Q l.length x):
 ∃os',OwsX toD Q os' (l++[x])/\yI (xt i (dC a dN) xF) as=some (.nx<|as.set i<|sN os'):=by
 obtain⟨o,h1,h2,h3⟩:=ha;exact⟨os++[o],ho.snoc h2 h3 hx,RJ h h1 h<|by rw[ho.ln];exact xZ<|by trivial⟩
def Io{n m:Nat}{xs:List Int}(hn:0<n)(hn2:n<=8)(hm0:0<m)(hm:m<=8)(hl:xs.length=9)(hx:∀x ∈ xs,St x):∃T,(Tab m n T/\LD n m (jS n) 0 (yE T))/\RE (W5 [(true,.int n),(true,.int m),(true,zc xs)]) (zv T):=by
 obtain⟨g,g0,g1,gn,gm,hg⟩:=EA (s:=true) (t:=true) hn hn2 hm;obtain⟨x0,a0,b0⟩:=at2 hx (by trivial) (by trivial);obtain⟨x1,a1,b1⟩:=at2 hx (k:=1) (by trivial) (by trivial);have q0:0<=n/g:=Int.ediv_nonneg (by trivial) (by trivial);have q1:n/g<=n:=Int.ediv_le_self _ (by trivial);have hLD:=p_ (x0:=x0) (x1:=x1) hn hm0 g0 gn gm;generalize hst:n/g=st at q0 q1 hLD;have st4:∀os c,0<=c->c<8->∃l:List Int,RU n n (λa=>(a*x0+c*st*x1)%n) l/\WE (zr (zY xq z_) [none,some 0,some 2,some 5,some 3] zG zN<|f2 (f2 (f2 zg (f2 zu zL zk) zF) (f2 (f2 zC zZ zF) (f2 zu zH zk) zF) zA) zi zy)
  [sI n,sI m,sT<|zc xs,sI st,sN os,sI c] (zc l):=λos c c0 c1=>
  Vo (ze (za rfl) zq) (by trivial) λb ⟨h0,h1⟩=>by
   have cs:0<=c*st/\c*st<=64:=⟨Int.mul_nonneg c0 q0,by have:=Int.mul_le_mul (show c<=8 by trivial) (show st<=8 by trivial) q0 (by trivial);trivial⟩;exact⟨_,rfl,WD.e (yb (yD (y6 (za rfl) (zj (za rfl) zb a0 rfl) (zP (by trivial)<|by trivial)<|zP (by trivial)<|by trivial)<|y6 (y6 (za rfl) (za rfl) (zP (by trivial)<|by trivial)<|zP (by trivial)<|by trivial) (zj (za rfl) zb a1 rfl) (zP (by trivial)<|by trivial)<|zP (by trivial)<|by trivial) (za rfl)<|by trivial),wB hn⟩
 obtain⟨as',hf,os,l,e5,rfl,ho,hlen⟩:=yM (g:=gN 5)
  (λi as=>∃(os:List O) (l:TZ) (e5:Option O),as=[sI n,sI m,sT<|zc xs,sI st,sN os,e5]/\OwsX zc (λi r=>RU n n (λa=>(a*x0+i*st*x1)%n) r) os l/\l.length=i)
  (xk 0 m) 0 [sI n,sI m,sT<|zc xs,sI st,sN [],none] (λi x as hx' hI=>by
   obtain⟨os,l,e5,rfl,ho,hlen⟩:=hI;obtain⟨rfl,hi⟩:=xJ hx';obtain⟨r,r1,r3⟩:=st4 os (0+i) (by trivial) (by trivial);obtain⟨os',o1,o2⟩:=ua (i:=4) rfl ho (by trivial) r3 (by rw[hlen,zyY];rw[Int.zero_add]at r1;exact r1);exact⟨_,rfl,_,o2,os',l++[r],_,rfl,o1,by rw[zzJ,hlen];rfl⟩)
  ⟨[],[],none,rfl,OwsX.nil,rfl⟩
 rw[yJ]at hlen;have hT:RT m n (λc a=>(a*x0+c*st*x1)%n) l:=X7 (by trivial) ho.al;refine⟨l,⟨hT.1,hLD.congr hm0 (pI hn) (λ_ _ _ _=>rfl) hT.2⟩,yk rfl<|zd (as1:=[sI n,sI m,sT<|zc xs,sI st,none,none]) ?_<|zd (y8 (xS zR<|wX rfl)<|zo rfl)<|zd (yF (yU (ze (za rfl) zq) (by trivial)<|by trivial) hf)<|Ows.retB rfl ho.ows⟩;have:=yf (st:=true) (i:=3) (as:=[sI n,sI m,sT<|zc xs,none,none,none]) (wd (za (i:=0) rfl) (yB (ze (za (i:=0) rfl)<|ze (za (i:=1) rfl) zq) hg) g0<|zP (by trivial)<|by trivial)<|zo rfl;rw[hst]at this;exact this
def Jm{fr:AF}{as:AS}{rs:List (Bool×D)}{g:List D->Option R0}{zs:List D}(ha:WA fr as rs)(hg:g (rs.map (·.2))=some (.fl zs)):fP fr g as=some (.ow (.nd .ls (zs.map (MN (rs.all (·.1))))),as):=by
 unfold fP;unfold WA at ha;rw[ha];show(views as _).bind _=_;rw[Xi];show(g _).bind _=_;rw[hg];show(if _=true then _ else _:Option RV).bind _=_;rw[if_pos<|by simp];rfl
def W7{a:EF}{as:AS}{x:D}{g:List D->Option R0}{zs:List D}(ha:WE a as x)(hg:g [x]=some (.fl zs)):fP (aC a aN) g as=some (.ow<|.nd .ls<|zs.map<|O.lf true,as):=by
 have:=Jm (Zq ha<|zq) hg;rw[show([(true,x)].all (·.1))=true from rfl,X6]at this;exact this
def Ju{a:EF}{as:AS}{s:Bool}{r:List Int}(h:WD a as s (zc r)):fP (aC a aN) lstP as=some (.ow<|Zr r,as):=by
 have:=Jm (g:=lstP) (ze h<|zq) rfl;rw[zyB]at this;exact this
def AM{a:EF}{as:AS}{s:Bool}{r:List Int}(h:WD a as s (zc r)):WE (fP (aC a aN) lstP) as (zc r):=⟨_,Ju h,(vO r).1,(vO r).2⟩
def Dx{a b c d:EF}{as:AS}{x y z u w:D}{g:List (Bool×D)->Option O}(ha:WE a as x)(hb:WE b as y)(hc:WE c as z)(hd:WE d as u)(hg:RE (g [(true,x),(true,y),(true,z),(true,u)]) w):WE (zx (aC a<|aC b<|aC c<|aC d aN) g) as w:=by
 obtain⟨o,h1,h2⟩:=hg;exact⟨o,Z9 (Zq ha<|Zq hb<|Zq hc<|Zq hd zq) (by show g [(yr x||true,x),(yr y||true,y),(yr z||true,z),(yr u||true,u)]=_;rw[zyD,zyD,zyD,zyD];exact h1),h2⟩
def Nd{a b c d e:EF}{as:AS}{x y z u v w:D}{g:List (Bool×D)->Option O}(ha:WE a as x)(hb:WE b as y)(hc:WE c as z)(hd:WE d as u)(he:WE e as v)(hg:RE (g [(true,x),(true,y),(true,z),(true,u),(true,v)]) w):WE (zx (aC a<|aC b<|aC c<|aC d<|aC e aN) g) as w:=by
 obtain⟨o,h1,h2⟩:=hg;exact⟨o,Z9 (Zq ha<|Zq hb<|Zq hc<|Zq hd<|Zq he zq) (by show g [(yr x||true,x),(yr y||true,y),(yr z||true,z),(yr u||true,u),(yr v||true,v)]=_;rw[zyD,zyD,zyD,zyD,zyD];exact h1),h2⟩
def Vf{fr:DF}{as:AS}{os:List O}{x:D}(h:WO fr as os)(hl:os.length<=sizeLine)(hs:O.strs os=true)(e:D.tup (O.toDs os)=x):WE (yh fr) as x:=by
 refine⟨_,El h hl, ?_, ?_⟩
 . unfold Wj
   split
   . exact hs
   . exact hs
 . unfold Wj
   split
   . exact e
   . exact e
theorem XW:∀l:List Int,Zm (l.map D.int)=some l
 | []=>rfl
 |x::r=>by
  show(Zm _).bind _=_;rw[XW r];rfl
def HK{n m:Nat}{fr:AF}{cap:List (Option Nat)}{as:AS}{u s:Bool}{r:List Int}(hr:Row n r)(hm:m<=8)(h1:WA fr as [(u,.int m)])(h2:∀b:Int,∃as1,gN 0 (true,.int b) (vB cap as)=some as1/\WD zi as1 s (zc r)):
 ∃T,RT m n (λ_ a=>zM r a) T/\WE (zr (zY fr z_) cap zG zN<|fP yW lstP) as (zv T):=
 RA h1 (by trivial) λb _=>by
  obtain⟨as1,g1,g2⟩:=h2 b;exact⟨as1,r,g1,AM g2,hr.1,hr.2,λ_ _=>rfl⟩
def BJ{l:List Int}(h:l.Pairwise (· <= ·)){i j:Nat}(hij:i<j)(hj:j<l.length):l[i]<=l[j]:=List.pairwise_iff_getElem.mp h i j (by trivial) hj hij
def YE{r:List Int}{a:Int}(h:a.toNat<r.length):zM r a=r[a.toNat]:=by unfold zM;rw[zzE h];rfl
def BO{n m:Nat}{xs:List Int}(hn:0<n)(hn2:n<=8)(hm0:0<m)(hm:m<=8)(hl:xs.length=9)(hx:∀x ∈ xs,St x):∃T,(Tab m n T/\LD n m jM 0 (yE T))/\RE (Z_ [(true,.int n),(true,.int m),(true,zc xs)]) (zv T):=by
 obtain⟨l,l1,l2,l3⟩:=Po (as:=[sI n,sI m,sT<|zc xs,none]) D.int (Q:=λx=>0<=x/\x<n) (cap:=[none,some 0,some 2]) (fr:=aC (f2 zg zH ZT) aN) (fe:=f2 (f2 zu zg zk) zi zy)
  (by rw[show(((n-1:Nat):Nat):Int)=n-1 by trivial];exact ze (QT (za rfl) zb) zq) (by trivial) (λb h0 h1=>by
   obtain⟨x,hx1,hx2⟩:=at2 hx h0 (by trivial);exact⟨_,_,rfl,WD.e (yb (zj (za rfl) (za rfl) hx1 rfl) (za rfl)<|by trivial),wB hn⟩)
 have w0:=
  OG (xi (os:=[vJ 0]) (zh zb zR) (wX rfl) rfl rfl) l3 (add_lists<|by rw[zzB];exact Gk (by show 1+_<=_;trivial))
 have hp:=sortI_perm (0::l);have hlen:(sortI (0::l)).length=n:=by rw[hp.length_eq,zzT];trivial
 have hr:Row n ((sortI (0::l)).set 0 0):=by
  refine⟨by rw[zzU];exact hlen,λx m=>?_⟩
  rcases List.mem_or_eq_of_mem_set m with m|rfl
  . rcases zzC.mp (hp.mem_iff.mp m)with rfl|m
    . trivial
    . exact l2 x m
  . trivial
 have s3:=y8 (i:=3) (W7 (g:=PV) w0<|by
  show(Zm<|(0::l).map D.int).bind _=_;rw[XW];show(if(0::l).length<64 then _ else _)=_;rw[if_pos<|by rw[zzT];trivial])<|zo rfl
 rw[X9]at s3;have s4:OK 3 (xC 0) (xC 0) [sI n,sI m,sT<|zc xs,sN<|(sortI (0::l)).map vJ]=some (.nx [sI n,sI m,sT<|zc xs,sN<|((sortI (0::l)).set 0 0).map vJ]):=by
  cases hs:sortI (0::l)with
  |nil=>rw[hs]at hlen;simp at hlen;trivial
  |cons y t=>rfl
 obtain⟨T,t1,t2⟩:=HK (cap:=[none,some 3]) (as:=[sI n,sI m,sT<|zc xs,sN<|((sortI (0::l)).set 0 0).map vJ]) (fr:=aC zi aN) hr hm (ze (za rfl) zq) λb=>⟨[sI b,some<|.lf false<|.lst<|O.toDs<|((sortI (0::l)).set 0 0).map vJ],rfl,by rw[(xD _).2.2];exact za rfl⟩;have hz:zM ((sortI (0::l)).set 0 0) 0=0:=by
  rw[YE<|by rw[hr.1];exact hn];exact List.getElem_set_self (by rw[zzU,hlen];exact hn)
 have hLD:LD n m jM 0 (λ_ a=>zM ((sortI (0::l)).set 0 0) a):=by
  refine oA hm0 hz (λa ha=>(rowAt hr ha).2) λa b ha hb hab=>?_
  by_cases h0:a=0
  . rw[h0,hz];exact(rowAt hr hb).2.1
  by_cases he:a=b
  . rw[he];exact Int.le_refl _
  have a0:=ha.1;have b1:=hb.2;rw[YE (by rw[hr.1];trivial),YE (by rw[hr.1];trivial),List.getElem_set_ne (by trivial),List.getElem_set_ne<|by trivial];exact BJ (vR (0::l)) (by trivial) (by rw[hlen];trivial)
 exact⟨T,⟨t1.1,hLD.congr hm0 (rj hn) (λ_ _ _ _=>rfl) t1.2⟩,yk rfl<|zd s3<|zd s4<|yg t2⟩
def FY{n m:Nat}{xs:List Int}(hn:2<=n)(hn2:n<=8)(hm0:0<m)(hm:m<=8)(hl:xs.length=9)(hx:∀x ∈ xs,St x):∃T,(Tab m n T/\LD n m jL 0 (yE T)/\LD n m jF 0 (yE T))/\RE (Ve [(true,.int n),(true,.int m),(true,zc xs)]) (zv T):=by
 obtain⟨l,l1,l2,l3⟩:=Po (as:=[sI n,sI m,sT<|zc xs,none]) D.int (Q:=λx=>1<=x/\x<n) (cap:=[none,some 2,some 0]) (fr:=aC (f2 zg zH ZT) aN) (fe:=f2 zH (f2 (f2 zi zg zk) (f2 zu zH ZT) zy) zA)
  (by rw[show(((n-1:Nat):Nat):Int)=n-1 by trivial];exact ze (QT (za rfl) zb) zq) (by trivial) (λb h0 h1=>by
   obtain⟨x,hx1,hx2⟩:=at2 hx h0 (by trivial);have m0:=zyN x (show(n:Int)-1≠0 by trivial);have m1:=zyH x (show 0<(n:Int)-1 by trivial);exact⟨_,_,rfl,WD.e (yD zb<|yb (zj (za rfl) (za rfl) hx1 rfl) (QT (za rfl) zb)<|by trivial),by trivial,by trivial⟩)
 have w0:=
  OG (xi (os:=[vJ 0]) (zh zb zR) (wX rfl) rfl rfl) l3 (add_lists<|by rw[zzB];exact Gk (by show 1+_<=_;trivial))
 have hr:Row n (0::l):=⟨by rw[zzT];trivial,λx m=>by
  rcases zzC.mp m with rfl|m
  . trivial
  . have:=l2 x m;trivial⟩
 obtain⟨T,t1,t2⟩:=HK (cap:=[none,some 3]) (as:=[sI n,sI m,sT<|zc xs,sT<|.lst<|(0::l).map D.int]) (fr:=aC zi aN) hr hm (ze (za rfl) zq) λb=>⟨_,rfl,za rfl⟩;have hz:zM (0::l) 0=0:=rfl;have hp:∀a,zQ n a->a≠0->zM (0::l) a≠0:=λa ha h0=>by
  have a0:=ha.1;have a1:=ha.2;have hk:a.toNat<(0::l).length:=by rw[hr.1];trivial
  rw[YE hk];have hm:=zxA hk;obtain⟨k,ek⟩:∃k,a.toNat=k+1:=⟨a.toNat-1,by trivial⟩;have:(0::l)[a.toNat]=l[k]'(by rw[zzT]at hk;trivial):=by simp only[ek,List.getElem_cons_succ]
  rw[this];have:=l2 _<|zxA (show k<l.length by rw[zzT]at hk;trivial);trivial
 have hc:∀a,zQ n a->zQ n (zM (0::l) a):=λa ha=>(rowAt hr ha).2;have n0:0<n:=by trivial
 exact⟨T,⟨t1.1,(og hz hc hp).congr hm0 (qN n0) (λ_ _ _ _=>rfl) t1.2,(oV hz hc hp).congr hm0 (qc n0) (λ_ _ _ _=>rfl) t1.2⟩,yk rfl<|zd (yQ w0<|zo rfl)<|yg t2⟩
def KN(k:Int)(n:Nat):Prop:=(k=0/\1<=n)\/(k=1/\1<=n)\/(k=2/\2<=n)\/(k=3/\2<=n)\/(k=4/\n=4)
def JJ{x y:Int}{c:Bool}:zk (.lst [.int x,.int y]) (.int (if c=true then 1 else 0))=some (.im<|.int (if c=true then y else x)):=by cases c<;>rfl
def jK(k:Int)(n:Nat):Int->Int->Int:=if k=0 then jS n else if k=1 then jM else if k=2 then jL else if k=3 then jF else j4
def pU{k:Int}{n:Nat}(h:KN k n):LJ n (jK k n) 0:=by
 rcases h with⟨rfl,hn⟩|⟨rfl,hn⟩|⟨rfl,hn⟩|⟨rfl,hn⟩|⟨rfl,rfl⟩
 . exact pI hn
 . exact rj hn
 . exact qN (by trivial)
 . exact qc (by trivial)
 . exact sS
def Ia{as:AS}{n:Nat}{cap cap2:List (Option Nat)}{fr:AF}{u:Bool}{fe:EF}{f:Int->Int->Int}(hn2:n<=8)(h1:WA fr as [(true,.int n)])(H:∀a:Int,zQ n a->∃as1,gN 0 (true,.int a) (vB cap as)=some as1/\WA yW as1 [(true,.int n)]/\∀b:Int,zQ n b->∃as2,gN 0 (true,.int b) (vB cap2 as1)=some as2/\WD fe as2 true (.int<|f a b)/\zQ n (f a b)):
 ∃T,RT n n f T/\WE (zr (zY fr z_) cap zG zN<|zr (zY yW z_) cap2 zG zN fe) as (zv T):=
 RA h1 (by trivial) λa ha=>by
  obtain⟨as1,g1,g2,g3⟩:=H a ha;obtain⟨r,b1,b3⟩:=Vo g2 (by trivial) λb hb=>by
   obtain⟨as2,c1,c2,c3⟩:=g3 b hb;exact⟨as2,c1,WD.e c2,c3⟩
  exact⟨as1,r,g1,b3,b1⟩
abbrev MA:List D:=[.tup [.int 0,.int 1],.tup [.int 1,.int 0],.tup [.int 0,.int 0],.tup [.int 1,.int 1]]
def FW{i:Nat}{y:ZV}(m:(MA.map λd=>(true,d))[i]? = some y):y=(true,.tup [.int<|p1 i,.int<|p2 i])/\i<4:=by
 match i,m with
 |0,m=>cases m;exact⟨rfl,by decide⟩
 |1,m=>cases m;exact⟨rfl,by decide⟩
 |2,m=>cases m;exact⟨rfl,by decide⟩
 |3,m=>cases m;exact⟨rfl,by decide⟩
def Hk(i:Int):p1 i=0\/p1 i=1:=by unfold p1;split<;>simp
def SG(i:Int):p2 i=0\/p2 i=1:=by unfold p2;split<;>simp
def Jl{u v k:Int}(hu:u=0\/u=1)(hv:v=0\/v=1):pk u v k=0\/pk u v k=1:=by unfold pk;split<;>assumption
def S8{u v:Int}(hu:u=0\/u=1)(hv:v=0\/v=1):zQ 4 (rS u v)/\wC (.lst MA) [.tup [.int u,.int v]]=some (.im<|.int<|rS u v):=by
 rcases hu with rfl|rfl<;>rcases hv with rfl|rfl
 . exact⟨by decide,rfl⟩
 . exact⟨by decide,rfl⟩
 . exact⟨by decide,rfl⟩
 . exact⟨by decide,rfl⟩
def FL{p q k:Int}(hk:k=0\/k=1):zk (.tup [.int p,.int q]) (.int k)=some (.im<|.int<|pk p q k):=by
 rcases hk with rfl|rfl
 . rfl
 . rfl
def Di:∃T,RT 4 4 j4 T/\RE (ZD [(true,.int 4),(true,.int (4:Nat))]) (zv T):=by
 obtain⟨T,t1,t2,t3⟩:=Ko (as:=[sI 4,sI 4,sT<|.lst MA]) zc (cap:=[none,some 2]) (g:=gN 0) (Pq (f:=fV 2)<|WD.e<|za rfl) (by rw[zzB];decide) λi y m=>by
  obtain⟨rfl,hi⟩:=FW m;obtain⟨r,r1,r2,r3⟩:=Ko (as:=[sT<|.tup [.int<|p1 i,.int<|p2 i],sT<|.lst MA]) D.int (Q:=λk x=>x=j4 i k/\zQ 4 x) (cap:=[none,some 1,some 0]) (g:=gN 0) (fe:=wV .lst zi (aC (yh<|dC (f2 zg (f2 zu zL zk) zk)<|dC (f2 zg (f2 zu zH zk) zk) dN) aN) wC) (Pq (f:=fV 1)<|WD.e<|za rfl) (by rw[zzB];decide) λk y m=>by
   obtain⟨rfl,hk⟩:=FW m;obtain⟨j1,ej⟩:=S8 (Jl (Hk k)<|SG k)<|Jl (Hk k)<|SG k;exact⟨_,j4 i k,rfl,WD.e<|Ql (za rfl) rfl (ze (Q6 (zh (zj (za rfl) (zj (za rfl) zb rfl rfl) (FL<|Hk i) rfl)<|zh (zj (za rfl) (zj (za rfl) zb rfl rfl) (FL<|SG i) rfl) zR) (wX rfl) rfl) zq) ej rfl,rfl,j1⟩
  rw[zzB]at r1;exact⟨_,r,rfl,r3,KG r1 r2⟩
 rw[zzB]at t1;refine⟨T,X7 t1 t2,yk rfl<|zd (zU (zJ (yt (za rfl) zb rfl) rfl) rfl)<|zd (zU (zJ (yt (za rfl) zb rfl) rfl) rfl)<|zd (zU (zJ (yt (za rfl) zb rfl) rfl) rfl)<|zd (zU (zJ (yt (za rfl) zb rfl) rfl) rfl)<|zd (yQ (xi (os:=MA.map<|O.lf true) ?_ (wX rfl) rfl rfl)<|zo rfl)<|yg t3⟩;exact zh (Q6 (zh zb<|zh zb zR) (wX rfl) rfl)<|zh (Q6 (zh zb<|zh zb zR) (wX rfl) rfl)<|zh (Q6 (zh zb<|zh zb zR) (wX rfl) rfl)<|zh (Q6 (zh zb<|zh zb zR) (wX rfl) rfl) zR
def OL{k:Int}{n:Nat}(h:KN k n)(hn2:n<=8):∃T,RT n n (jK k n) T/\RE (ZD [(true,.int k),(true,.int n)]) (zv T):=by
 rcases h with⟨rfl,hn⟩|⟨rfl,hn⟩|⟨rfl,hn⟩|⟨rfl,hn⟩|⟨rfl,rfl⟩
 . obtain⟨T,t1,t2⟩:=Ia (as:=[sI 0,sI n,none]) (u:=true) (cap:=[none,some 1]) (cap2:=[none,some 1,some 0]) (fr:=aC zi aN) (fe:=f2 (f2 zu zg zA) zi zy) hn2 (ze (za rfl) zq) λa ha=>⟨_,rfl,ze (za rfl) zq,λb hb=>⟨_,rfl,yb (yD (za rfl)<|za rfl) (za rfl) (by trivial),EO hn⟩⟩;exact⟨T,t1,yk rfl<|xa<|xT (zJ (yt (za rfl) zb rfl) rfl)<|yg t2⟩
 . obtain⟨T,t1,t2⟩:=Ia (as:=[sI 1,sI n,none]) (u:=true) (cap:=[none,some 1]) (cap2:=[none,some 0]) (fr:=aC zi aN) (fe:=fP (aC zi xq) D_) hn2 (ze (za rfl) zq) λa ha=>⟨_,rfl,ze (za rfl) zq,λb hb=>⟨_,rfl,xb (ze (za rfl)<|ze (za rfl) zq) rfl rfl,(rj hn).cl a b ha hb⟩⟩;exact⟨T,t1,yk rfl<|zd (zU (zJ (yt (za rfl) zb rfl) rfl) rfl)<|xa<|xT (zJ (yt (za rfl) zb rfl) rfl)<|yg t2⟩
 . obtain⟨T,t1,t2⟩:=Ia (as:=[sI 2,sI n,none]) (u:=true) (cap:=[none,some 1]) (cap2:=[none,some 0]) (fr:=aC zi aN) (fe:=f2 (yA<|dC zg<|dC zi dN) (fP (aC (f2 zg zL<|zt .Eq) aN) V0) zk) hn2 (ze (za rfl) zq) λa ha=>⟨_,rfl,ze (za rfl) zq,λb hb=>⟨_,rfl,Sf (xi (zh (za rfl)<|zh (za rfl) zR) (wX rfl) rfl rfl) (WD.e<|xb (ze (yt (za rfl) zb rfl) zq) rfl rfl)<|JJ.trans (by unfold jL;by_cases h:b=0<;>simp[h]),(qN<|by trivial).cl a b ha hb⟩⟩;exact⟨T,t1,yk rfl<|zd (zU (zJ (yt (za rfl) zb rfl) rfl) rfl)<|zd (zU (zJ (yt (za rfl) zb rfl) rfl) rfl)<|xa<|xT (zJ (yt (za rfl) zb rfl) rfl)<|yg t2⟩
 . obtain⟨T,t1,t2⟩:=Ia (as:=[sI 3,sI n,none]) (u:=true) (cap:=[none,some 1]) (cap2:=[none,some 0]) (fr:=aC zi aN) (fe:=f2 (yA<|dC zi<|dC zg dN) (fP (aC (f2 zi zL<|zt .Eq) aN) V0) zk) hn2 (ze (za rfl) zq) λa ha=>⟨_,rfl,ze (za rfl) zq,λb hb=>⟨_,rfl,Sf (xi (zh (za rfl)<|zh (za rfl) zR) (wX rfl) rfl rfl) (WD.e<|xb (ze (yt (za rfl) zb rfl) zq) rfl rfl)<|JJ.trans (by unfold jF;by_cases h:a=0<;>simp[h]),(qc<|by trivial).cl a b ha hb⟩⟩;exact⟨T,t1,yk rfl<|zd (zU (zJ (yt (za rfl) zb rfl) rfl) rfl)<|zd (zU (zJ (yt (za rfl) zb rfl) rfl) rfl)<|zd (zU (zJ (yt (za rfl) zb rfl) rfl) rfl)<|xa<|xT (zJ (yt (za rfl) zb rfl) rfl)<|yg t2⟩
 . exact Di
def CT{k:Int}{n m:Nat}{xs:List Int}(h:KN k n)(hn2:n<=8)(hm0:0<m)(hm:m<=8)(hl:xs.length=9)(hx:∀x ∈ xs,St x):∃T,(Tab m n T/\LD n m (jK k n) 0 (yE T))/\RE (Yc [(true,.int k),(true,.int n),(true,.int m),(true,zc xs)]) (zv T):=by
 rcases h with⟨rfl,hn⟩|⟨rfl,hn⟩|⟨rfl,hn⟩|⟨rfl,hn⟩|⟨rfl,rfl⟩
 . obtain⟨T,t1,t2⟩:=Io hn hn2 hm0 hm hl hx;exact⟨T,t1,yk rfl<|xa<|xT (zJ (yt (za rfl) zb rfl) rfl)<|yg<|vI (WD.e<|za rfl) (WD.e<|za rfl) (WD.e<|za rfl) t2⟩
 . obtain⟨T,t1,t2⟩:=BO hn hn2 hm0 hm hl hx;exact⟨T,t1,yk rfl<|zd (zU (zJ (yt (za rfl) zb rfl) rfl) rfl)<|xa<|xT (zJ (yt (za rfl) zb rfl) rfl)<|yg<|vI (WD.e<|za rfl) (WD.e<|za rfl) (WD.e<|za rfl) t2⟩
 . obtain⟨T,t1,t2⟩:=FY hn hn2 hm0 hm hl hx;exact⟨T,⟨t1.1,t1.2.1⟩,yk rfl<|zd (zU (zJ (yt (za rfl) zb rfl) rfl) rfl)<|zd (zU (zJ (yt (za rfl) zb rfl) rfl) rfl)<|xa<|xT (zJ (NQ (za rfl) zb) rfl)<|yg<|vI (WD.e<|za rfl) (WD.e<|za rfl) (WD.e<|za rfl) t2⟩
 . obtain⟨T,t1,t2⟩:=FY hn hn2 hm0 hm hl hx;exact⟨T,⟨t1.1,t1.2.2⟩,yk rfl<|zd (zU (zJ (yt (za rfl) zb rfl) rfl) rfl)<|zd (zU (zJ (yt (za rfl) zb rfl) rfl) rfl)<|xa<|xT (zJ (NQ (za rfl) zb) rfl)<|yg<|vI (WD.e<|za rfl) (WD.e<|za rfl) (WD.e<|za rfl) t2⟩
 . obtain⟨x0,a0,b0⟩:=at2 hx (by trivial) (by trivial);have hp:∃r:List Int,(Row 4 r/\LD 4 m j4 0 (λ_ a=>zM r a))/\zk (.lst [zc [0,1,2,3],zc [0,1,3,2]]) (.int<|x0%2)=some (.im<|zc r):=by
    rcases(show x0%2=0\/x0%2=1 by trivial)with e|e<;>rw[e]
    . exact⟨_,⟨⟨rfl,by decide⟩,pM<|.inl λa ha=>f4 (P:=λa=>zM [0,1,2,3] a=a) (by decide) ha⟩,rfl⟩
    . exact⟨_,⟨⟨rfl,by decide⟩,pM<|.inr λa ha=>f4 (P:=λa=>zM [0,1,3,2] a=(if a=2 then 3 else if a=3 then 2 else a)) (by decide) ha⟩,rfl⟩
   obtain⟨r,r1,r2⟩:=hp;obtain⟨T,c1,c3⟩:=RA (as:=[sI 4,sI 4,sI m,sT<|zc xs]) (cap:=[none,some 3]) (fr:=aC zu aN) (fe:=f2 (yA<|dC (yA<|dC zL<|dC zH<|dC yq<|dC xr dN)<|dC (yA<|dC zL<|dC zH<|dC xr<|dC yq dN) dN) (f2 (f2 zi zL zk) yq zy) zk) (ze (za rfl) zq) (by trivial) λb _=>
    ⟨_,r,rfl,WD.e<|Sf (xi (Zp (xS (zh zb<|zh zb<|zh zb<|zh zb zR)<|wX rfl)<|Zp (xS (zh zb<|zh zb<|zh zb<|zh zb zR)<|wX rfl) zR) (wX rfl) rfl rfl) (WD.e<|yb (zj (za rfl) zb a0 rfl) zb<|by decide) r2,r1.1.1,r1.1.2,λ_ _=>rfl⟩
   exact⟨T,⟨c1.1,r1.2.congr hm0 sS (λ_ _ _ _=>rfl) c1.2⟩,yk rfl<|zd (zU (zJ (yt (za rfl) zb rfl) rfl) rfl)<|zd (zU (zJ (yt (za rfl) zb rfl) rfl) rfl)<|zd (zU (zJ (NQ (za rfl) zb) rfl) rfl)<|yg c3⟩
structure LawP(n m:Nat)(J:TZ)(Ds:List TZ):Prop where
 tj:Tab n n J
 lj:LJ n (yE J) 0
 td:∀T ∈ Ds,Tab m n T
 ld:∀T ∈ Ds,LD n m (yE J) 0<|yE T
abbrev T9(n:Nat)(J:TZ)(Ds:List TZ):D:=.tup [.int n,zv J,.lst<|Ds.map zv]
def TL{k c:Int}{n m w:Nat}(h:KN k n)(hn2:n<=8)(hm0:0<m)(hm:m<=8)(hw:w<=8):∃J Ds,LawP n m J Ds/\Ds.length=w/\RE (wz [(true,.int k),(true,.int n),(true,.int m),(true,.int w),(true,.int c)]) (T9 n J Ds):=by
 obtain⟨J,j1,oj,j2,j3,j4⟩:=OL h hn2;obtain⟨Ds,d1,d2,d3⟩:=Po (as:=[sI k,sI n,sI m,sI w,sI c,none]) zv (cap:=[none,some 0,some 1,some 2,some 4]) (fr:=aC zC aN) (fe:=zx (aC zi<|aC zu<|aC zC<|aC (zx (aC (f2 zZ (f2 (fC<|.int 31) zg zF) zA)<|aC (fC<|.int 9) aN) yo) aN) Yc) (ze (za rfl) zq) (by trivial) λb b0 b1=>by
  obtain⟨xs,x1,x2,x3⟩:=IV (as:=[sI b,sI k,sI n,sI m,sI c]) (a:=f2 zZ (f2 (fC<|.int 31) zg zF) zA) (m:=9) (by trivial) (WD.e<|yD (za rfl)<|y6 zb (za rfl) (zP (by decide)<|by decide)<|zP (by trivial)<|by trivial)<|WD.e zb;obtain⟨T,t1,t2⟩:=CT h hn2 hm0 hm x1 x2;exact⟨_,T,rfl,Dx (WD.e<|za rfl) (WD.e<|za rfl) (WD.e<|za rfl) x3 t2,t1⟩
 have lj:=(pU h).congr j1.2;refine⟨J,Ds,⟨j1.1,lj,λT mT=>(d2 T mT).1,λT mT=>(d2 T mT).2.congr hm0 (pU h) j1.2 λ_ _ _ _=>rfl⟩,d1,yk rfl<|zd (yQ d3<|zo rfl)<|yg<|Vf (zh (za rfl)<|Zp (Z9 (ze (za rfl)<|ze (za rfl) zq) j2)<|zh (za rfl) zR) (wX rfl) ?_ ?_⟩
 . show(true&&(oj.str&&_))=_;rw[j3];rfl
 . show D.tup [.int n,oj.toD,.lst _]=_;rw[j4]
def Bd{as:AS}{i j:Nat}{os ps:List O}(hij:i≠j)(h:as[i]? = some (sN os))(hj:as[j]? = some (sN ps))(hl:os.length<sizeLine):
 yI (xt i (dC (fV j) dN) xF) as=some (.nx<|(as.set j<|some (O.nd .ls ps).frz).set i<|sN<|os++[(O.nd .ls ps).frz]):=by
 have e:dC (fV j) dN as=some ([(O.nd .ls ps).frz],as.set j<|some (O.nd .ls ps).frz):=by
  unfold dC;rw[UL hj];show((HL as _).bind _)=_;rw[MS hj];rfl
 unfold yI xt;rw[h];rw[e];show(Option.bind (match(as.set j _)[i]? with|some (some<|.nd .ls os)=>_|_=>none) _)=_;rw[zzY<|Ne.symm hij,h];show((xF os _).bind _).bind _=_;have e2:xF os [(O.nd .ls ps).frz]=some (os++[(O.nd .ls ps).frz],.lf true .non):=by unfold xF;exact if_pos hl
 rw[e2];rfl
theorem Ows.frz{α:Type}{toD:α->D}{Q:α->Prop}{os:List O}{l:List α}(h:Ows toD Q os l):(O.nd .ls os).frz = .lf true (.lst<|l.map toD):=by
 show O.lf (O.strs os) (.lst _)=_;rw[h.st,h.ds]
section
variable{n1 n2 m:Nat}{J1 J2:TZ}{D1 D2:List TZ}
def HH(h1:0<n1)(h2:0<n2)(hn:n1*n2<=8)(j1:Tab n1 n1 J1)(j2:Tab n2 n2 J2):
 ∃os l e6 e7 e8,OwsX zc (λ(i:Nat) r=>RU (n1*n2) (n1*n2) (jB n2 (yE J1) (yE J2) i) r) os l/\l.length=n1*n2/\forL (gN 6) (zp (zz true 7<|f2 (f2 zg zH zk) (f2 y9 zZ zB) zk)
 (zp (zz true 8<|f2 (f2 zi zH zk) (f2 y9 zZ zy) zk)
 (yI<|xt 5 (dC (zr (zY Xg z_) [none,some 4,some 8,some 7] zG zN<|f2 (f2 (f2 zC (f2 zg zi zB) zk) zi zF) (f2 zu (f2 zg zi zy) zk) zA) dN) xF)))
  (xk 0<|n1*n2) [sT<|T9 n1 J1 D1,sT<|T9 n2 J2 D2,sI m,sI ((n1*n2:Nat):Int),sI n2,sN [],none,none,none,none,none,none,none,none]
  = some (.nx [sT<|T9 n1 J1 D1,sT<|T9 n2 J2 D2,sI m,sI ((n1*n2:Nat):Int),sI n2,sN os,e6,e7,e8,none,none,none,none,none]):=by
 have hn2:=zzO (Nat.le_mul_of_pos_left n2 h1) hn;obtain⟨as',hf,os,l,e6,e7,e8,rfl,ho,hlen⟩:=yM (g:=gN 6) (f:=(zp (zz true 7<|f2 (f2 zg zH zk) (f2 y9 zZ zB) zk)
  (zp (zz true 8<|f2 (f2 zi zH zk) (f2 y9 zZ zy) zk)
  (yI<|xt 5 (dC (zr (zY Xg z_) [none,some 4,some 8,some 7] zG zN<|f2 (f2 (f2 zC (f2 zg zi zB) zk) zi zF) (f2 zu (f2 zg zi zy) zk) zA) dN) xF))))
  (λi as=>∃(os:List O) (l:TZ) (e6 e7 e8:Option O),as=[sT<|T9 n1 J1 D1,sT<|T9 n2 J2 D2,sI m,sI ((n1*n2:Nat):Int),sI n2,sN os,e6,e7,e8,none,none,none,none,none]/\OwsX zc (λi r=>RU (n1*n2) (n1*n2) (jB n2 (yE J1) (yE J2) i) r) os l/\l.length=i)
  (xk 0<|n1*n2) 0 [sT<|T9 n1 J1 D1,sT<|T9 n2 J2 D2,sI m,sI ((n1*n2:Nat):Int),sI n2,sN [],none,none,none,none,none,none,none,none] (λi x as hx' hI=>by
   obtain⟨os,l,e6,e7,e8,rfl,ho,hlen⟩:=hI;obtain⟨rfl,hi⟩:=xJ hx';obtain⟨u1,u2⟩:=yp (n1:=n1) (p:=0+i) h2 ⟨by trivial,by trivial⟩;obtain⟨a1,b1⟩:=wK j1 u1;obtain⟨a2,b2⟩:=wK j2 u2;have n18:=zzO (Nat.le_mul_of_pos_right n1 h2) hn;obtain⟨r,c1,c3⟩:=Vo (as:=[sT<|T9 n1 J1 D1,sT<|T9 n2 J2 D2,sI m,sI ((n1*n2:Nat):Int),sI n2,sN os,sI<|0+i,sT<|zc<|K4 J1<|(0+i)/n2,sT<|zc<|K4 J2<|(0+i)%n2,none,none,none,none,none]) (cap:=[none,some 4,some 8,some 7]) (fr:=aC zC aN) (fe:=f2 (f2 (f2 zC (f2 zg zi zB) zk) zi zF) (f2 zu (f2 zg zi zy) zk) zA) (ze (za rfl) zq) (by trivial) λb hb=>by
    obtain⟨v1,v2⟩:=yp h2 hb;obtain⟨x1,x2⟩:=rowAt b1 v1;obtain⟨y1,y2⟩:=rowAt b2 v2;have x3:0<=yE J1 ((0+i)/n2) (b/n2):=x2.1;have x4:yE J1 ((0+i)/n2) (b/n2)<n1:=x2.2;exact⟨_,rfl,WD.e<|yD (y6 (zj (za rfl) (wd (za rfl) (za rfl) (by trivial)<|zP (by trivial)<|by trivial) x1 rfl) (za rfl) (zP (by trivial)<|by trivial)<|zP (by trivial)<|by trivial)<|zj (za rfl) (yb (za rfl) (za rfl)<|by trivial) y1 rfl,OU x2 y2⟩
   rw[Int.zero_add]at c1;obtain⟨os',o1,o2⟩:=ua (i:=5) rfl ho (by trivial) c3 (by rw[hlen,zyY];exact c1);refine⟨_,rfl,_,zW (yf (zE (zE (za rfl) zb rfl) (wd (za rfl) (za rfl) (by trivial)<|zP (by trivial)<|by trivial) a1)<|zo rfl)<|zW (yf (zE (zE (za rfl) zb rfl) (yb (za rfl) (za rfl)<|by trivial) a2)<|zo rfl) o2,os',l++[r],_,_,_,rfl,o1,by rw[zzJ,hlen];rfl⟩)
  ⟨[],[],none,none,none,rfl,OwsX.nil,rfl⟩
 rw[yJ]at hlen;exact⟨os,l,e6,e7,e8,ho,by trivial,hf⟩
end
abbrev LB(n1 n2 m:Nat)(J1 J2:TZ)(D1 D2:List TZ)(os5:List O)(e6 e7 e8 e9 e10 e11 e12 e13:Option O):AS:=
 [sT<|T9 n1 J1 D1,sT<|T9 n2 J2 D2,sI m,sI ((n1*n2:Nat):Int),sI n2,sN os5,e6,e7,e8,e9,e10,e11,e12,e13]
abbrev rZ:SF:=(zp (zz true 13<|f2 (f2 (f2 yR yO zk) (f2 y9 zZ zB) zk) zZ zF)
 (yI<|xt 12 (dC (f2 (fV 13) (f2 (f2 (fV 8) yO zk) (f2 y9 zZ zy) zk) zA) dN) xF))
abbrev pH:SF:=(zp (zz false 12<|yA dN)
 (zp (yK (zY Xg z_) (gN 6) rZ)
 (yI<|xt 10 (dC (fV 12) dN) xF)))
abbrev ox:SF:=(zp (zz false 10<|yA dN)
 (zp (yK (zY xg z_) (gN 11) pH)
 (yI<|xt 9 (dC (fV 10) dN) xF)))
section
variable{n1 n2 m:Nat}{J1 J2:TZ}{D1 D2:List TZ}{os5:List O}
def rJ{T1 T2:TZ}{c:Int}{e6 e9 e10 e13:Option O}(h1:0<n1)(h2:0<n2)(hn:n1*n2<=8)(t1:Tab m n1 T1)(t2:Tab m n2 T2)(c0:0<=c)(c1:c<m):
 ∃os r f6 f13,OwsX D.int (λ(i:Nat) x=>x=dB n2 (yE T1) (yE T2) c i/\zQ (n1*n2) x) os r/\r.length=n1*n2/\forL (gN 6) rZ (xk 0<|n1*n2) (LB n1 n2 m J1 J2 D1 D2 os5 e6 (sT<|zv T1) (sT<|zv T2) e9 e10 (sI c) (sN []) e13)
  = some (.nx<|LB n1 n2 m J1 J2 D1 D2 os5 f6 (sT<|zv T1) (sT<|zv T2) e9 e10 (sI c) (sN os) f13):=by
 have n28:=zzO (Nat.le_mul_of_pos_left n2 h1) hn;have n18:=zzO (Nat.le_mul_of_pos_right n1 h2) hn;obtain⟨a1,b1⟩:=wK t1 ⟨c0,c1⟩;obtain⟨a2,b2⟩:=wK t2 ⟨c0,c1⟩;obtain⟨as',hf,os,l,f6,f13,rfl,ho,hlen⟩:=yM (g:=gN 6) (f:=rZ)
  (λi as=>∃(os:List O) (l:List Int) (f6 f13:Option O),as=LB n1 n2 m J1 J2 D1 D2 os5 f6 (sT<|zv T1) (sT<|zv T2) e9 e10 (sI c) (sN os) f13/\OwsX D.int (λi x=>x=dB n2 (yE T1) (yE T2) c i/\zQ (n1*n2) x) os l/\l.length=i)
  (xk 0<|n1*n2) 0 (LB n1 n2 m J1 J2 D1 D2 os5 e6 (sT<|zv T1) (sT<|zv T2) e9 e10 (sI c) (sN []) e13) (λi x as hx' hI=>by
   obtain⟨os,l,f6,f13,rfl,ho,hlen⟩:=hI;obtain⟨rfl,hi⟩:=xJ hx';obtain⟨u1,u2⟩:=yp (n1:=n1) (p:=0+i) h2 ⟨by trivial,by trivial⟩;obtain⟨x1,x2⟩:=rowAt b1 u1;obtain⟨y1,y2⟩:=rowAt b2 u2;have q:=OU x2 y2;have ev:zM (K4 T1 c) ((0+i)/n2)*n2+zM (K4 T2 c) ((0+i)%n2)=dB n2 (yE T1) (yE T2) c i:=by rw[Int.zero_add];rfl
   generalize zM (K4 T1 c) ((0+i)/n2)=x at x1 x2 q ev;generalize zM (K4 T2 c) ((0+i)%n2)=y at y1 y2 q ev;have x3:=x2.1;have x4:=x2.2;obtain⟨os',o1,o2⟩:=ua (as:=LB n1 n2 m J1 J2 D1 D2 os5 (sI<|0+i) (sT<|zv T1) (sT<|zv T2) e9 e10 (sI c) (sN os)<|sI<|x*n2) (i:=12) (a:=f2 (fV 13) (f2 (f2 (fV 8) yO zk) (f2 y9 zZ zy) zk) zA) rfl ho (by trivial)
    (WD.e<|yD (za rfl)<|zj (zE (za rfl) (za rfl) a2) (yb (za rfl) (za rfl)<|by trivial) y1 rfl) ⟨by rw[hlen,zyY];exact ev,q⟩
   exact⟨LB n1 n2 m J1 J2 D1 D2 os5 (sI<|0+i) (sT<|zv T1) (sT<|zv T2) e9 e10 (sI c) (sN os) f13,rfl,_,zW (yf (y6 (zj (zE (za rfl) (za rfl) a1) (wd (za rfl) (za rfl) (by trivial)<|zP (by trivial)<|by trivial) x1 rfl) (za rfl) (zP (by trivial)<|by trivial)<|zP (by trivial)<|by trivial)<|zo rfl) o2,os',l++[x*n2+y],_,_,rfl,o1,by rw[zzJ,hlen];rfl⟩)
  ⟨[],[],_,_,rfl,OwsX.nil,rfl⟩
 rw[yJ]at hlen;exact⟨os,l,f6,f13,ho,by trivial,hf⟩
def q9{T1 T2:TZ}{e6 e9 e11 e12 e13:Option O}(h1:0<n1)(h2:0<n2)(hn:n1*n2<=8)(hm:m<=8)(t1:Tab m n1 T1)(t2:Tab m n2 T2):
 ∃os T f6 f11 f12 f13,OwsX zc (λ(c:Nat) r=>RU (n1*n2) (n1*n2) (dB n2 (yE T1) (yE T2) c) r) os T/\T.length=m/\forL (gN 11) pH (xk 0 m) (LB n1 n2 m J1 J2 D1 D2 os5 e6 (sT<|zv T1) (sT<|zv T2) e9 (sN []) e11 e12 e13)
  = some (.nx<|LB n1 n2 m J1 J2 D1 D2 os5 f6 (sT<|zv T1) (sT<|zv T2) e9 (sN os) f11 f12 f13):=by
 obtain⟨as',hf,os,l,f6,f11,f12,f13,rfl,ho,hlen⟩:=yM (g:=gN 11)
  (λi as=>∃(os:List O) (l:TZ) (f6 f11 f12 f13:Option O),as=LB n1 n2 m J1 J2 D1 D2 os5 f6 (sT<|zv T1) (sT<|zv T2) e9 (sN os) f11 f12 f13/\OwsX zc (λc r=>RU (n1*n2) (n1*n2) (dB n2 (yE T1) (yE T2) c) r) os l/\l.length=i)
  (xk 0 m) 0 (LB n1 n2 m J1 J2 D1 D2 os5 e6 (sT<|zv T1) (sT<|zv T2) e9 (sN []) e11 e12 e13) (λi x as hx' hI=>by
   obtain⟨os,l,f6,f11,f12,f13,rfl,ho,hlen⟩:=hI;obtain⟨rfl,hi⟩:=xJ hx';obtain⟨ps,r,g6,g13,p1,p2,p3⟩:=rJ h1 h2 hn t1 t2 (c:=0+i) (by trivial) (by trivial);have ap:=Bd (as:=LB n1 n2 m J1 J2 D1 D2 os5 g6 (sT<|zv T1) (sT<|zv T2) e9 (sN os) (sI<|0+i) (sN ps) g13) (i:=10) (j:=12) (by decide) rfl rfl (by rw[ho.ln];exact xZ<|by trivial);rw[p1.ows.frz]at ap;have pr:RU (n1*n2) (n1*n2) (dB n2 (yE T1) (yE T2) i) r:=by
    have:=KG p2 p1.al;rw[Int.zero_add]at this;exact this
   exact⟨LB n1 n2 m J1 J2 D1 D2 os5 f6 (sT<|zv T1) (sT<|zv T2) e9 (sN os) (sI<|0+i) f12 f13,rfl,_,zW (y8 (i:=12) (xS zR<|wX rfl)<|zo rfl)<|zW (yF (yU (ze (za (i:=3) rfl) zq) (by trivial)<|by trivial) p3) ap,_,l++[r],_,_,_,_,rfl,ho.snoc rfl rfl (by rw[hlen,zyY];exact pr),by rw[zzJ,hlen];rfl⟩)
  ⟨[],[],_,_,_,_,rfl,OwsX.nil,rfl⟩
 rw[yJ]at hlen;exact⟨os,l,f6,f11,f12,f13,ho,by trivial,hf⟩
def RB{α:Type}{f:α->D}{l:List α}{i:Nat}{d:D}(h:(l.map f)[i]? = some d):∃a ∈ l,d=f a:=by
 rw[zzI]at h;obtain⟨a,h1,h2⟩:=zzX.mp h;exact⟨a,zyA h1,h2.symm⟩
def qP{w:Nat}{e6 e7 e8 e10 e11 e12 e13:Option O}(h1:0<n1)(h2:0<n2)(hn:n1*n2<=8)(hm:m<=8)(hw:w<=8)(l1:D1.length=w)(l2:D2.length=w)(hm0:0<m)(L1:LawP n1 m J1 D1)(L2:LawP n2 m J2 D2):
 ∃os Ds f6 f7 f8 f10 f11 f12 f13,Ows zv (λT=>Tab m (n1*n2) T/\LD (n1*n2) m (jB n2 (yE J1)<|yE J2) 0 (yE T)) os Ds/\Ds.length=w/\forL (gT 2<|yd (gN 7)<|yd (gN 8) xG) ox (v9 true (D1.map zv)<|D2.map zv) (LB n1 n2 m J1 J2 D1 D2 os5 e6 e7 e8 (sN []) e10 e11 e12 e13)
  = some (.nx<|LB n1 n2 m J1 J2 D1 D2 os5 f6 f7 f8 (sN os) f10 f11 f12 f13):=by
 obtain⟨as',hf,os,l,f6,f7,f8,f10,f11,f12,f13,rfl,ho,hlen⟩:=yM (g:=gT 2<|yd (gN 7)<|yd (gN 8) xG)
  (λi as=>∃(os:List O) (l:List TZ) (f6 f7 f8 f10 f11 f12 f13:Option O),as=LB n1 n2 m J1 J2 D1 D2 os5 f6 f7 f8 (sN os) f10 f11 f12 f13/\Ows zv (λT=>Tab m (n1*n2) T/\LD (n1*n2) m (jB n2 (yE J1)<|yE J2) 0 (yE T)) os l/\l.length=i)
  (v9 true (D1.map zv)<|D2.map zv) 0 (LB n1 n2 m J1 J2 D1 D2 os5 e6 e7 e8 (sN []) e10 e11 e12 e13) (λi x as hx' hI=>by
   obtain⟨os,l,f6,f7,f8,f10,f11,f12,f13,rfl,ho,hlen⟩:=hI;obtain⟨d,e,z1,z2,rfl⟩:=Z4 hx';have hil:i<D1.length:=by have:=(zzG.mp z1).1;rw[zzB]at this;exact this
   obtain⟨T1,m1,rfl⟩:=RB z1;obtain⟨T2,m2,rfl⟩:=RB z2;obtain⟨ps,T,g6,g11,g12,g13,p1,p2,p3⟩:=q9 h1 h2 hn hm (L1.td T1 m1)<|L2.td T2 m2;have ap:=Bd (as:=LB n1 n2 m J1 J2 D1 D2 os5 g6 (sT<|zv T1) (sT<|zv T2) (sN os) (sN ps) g11 g12 g13) (i:=9) (j:=10) (by decide) rfl rfl (by rw[ho.ln];exact xZ<|by trivial);rw[p1.ows.frz]at ap;have pt:=X7 p2 p1.al;exact⟨LB n1 n2 m J1 J2 D1 D2 os5 f6 (sT<|zv T1) (sT<|zv T2) (sN os) f10 f11 f12 f13,rfl,_,zW (y8 (i:=10) (xS zR<|wX rfl)<|zo rfl)<|zW (yF (yU (ze (za (i:=2) rfl) zq) (by trivial)<|by trivial) p3) ap,_,l++[T],_,_,_,_,_,_,_,rfl,ho.snoc rfl rfl ⟨pt.1,(oZ L1.lj L2.lj h2 (L1.ld T1 m1)<|L2.ld T2 m2).congr hm0 (ph L1.lj L2.lj h2) (λ_ _ _ _=>rfl) pt.2⟩,by rw[zzJ,hlen];rfl⟩)
  ⟨[],[],_,_,_,_,_,_,_,rfl,Ows.nil,rfl⟩
 rw[XG,zzB,zzB,l1,l2,Nat.min_self]at hlen;exact⟨os,l,f6,f7,f8,f10,f11,f12,f13,ho,by trivial,hf⟩
def QK{as as2:AS}{j:Nat}{ps:List O}{fr:DF}{os:List O}(hj:as[j]? = some (sN ps))(hr:fr (as.set j<|some (O.nd .ls ps).frz)=some (os,as2)):dC (fV j) fr as=some ((O.nd .ls ps).frz::os,as2):=by
 unfold dC;rw[UL hj];show((HL as _).bind _)=_;rw[MS hj];show(fr _).bind _=_;rw[hr];rfl
def RI{as as1:AS}{fr:DF}{os:List O}(h:fr as=some (os,as1))(hl:os.length<=sizeLine):yh fr as=some (.ow<|Wj os,as1):=by
 unfold yh;rw[h];show(if os.length<=sizeLine then _ else _)=_;rw[if_pos hl]
def B7{w:Nat}(h1:0<n1)(h2:0<n2)(hn:n1*n2<=8)(hm:m<=8)(hw:w<=8)(l1:D1.length=w)(l2:D2.length=w)(hm0:0<m)(L1:LawP n1 m J1 D1)(L2:LawP n2 m J2 D2):
 ∃J Ds,LawP (n1*n2) m J Ds/\Ds.length=w/\RE (Ys [(true,T9 n1 J1 D1),(true,T9 n2 J2 D2),(true,.int m)]) (T9 (n1*n2) J Ds):=by
 have n28:=zzO (Nat.le_mul_of_pos_left n2 h1) hn;have n18:=zzO (Nat.le_mul_of_pos_right n1 h2) hn;obtain⟨os,J,e6,e7,e8,ho,hl,hf⟩:=HH h1 h2 hn L1.tj L2.tj;obtain⟨ps,Ds,f6,f7,f8,f10,f11,f12,f13,po,pl,pf⟩:=qP h1 h2 hn hm hw l1 l2 hm0 L1 L2;have hJ:=X7 hl ho.al;have ljb:=ph L1.lj L2.lj h2;refine⟨J,Ds,⟨hJ.1,ljb.congr hJ.2,λT mT=>(po.al T mT).1,λT mT=>(po.al T mT).2.congr hm0 ljb hJ.2 λ_ _ _ _=>rfl⟩,pl,yk rfl<|zd (as1:=[sT<|T9 n1 J1 D1,sT<|T9 n2 J2 D2,sI m,sI ((n1*n2:Nat):Int),none,none,none,none,none,none,none,none,none,none]) ?_<|zd (yf (zj (za rfl) zb rfl rfl)<|zo rfl)<|zd (y8 (xS zR<|wX rfl)<|zo rfl)<|zd (yF (yU (ze (za rfl) zq) (by trivial)<|by trivial) hf)<|zd (y8 (xS zR<|wX rfl)<|zo rfl)<|zd (yF ?_ pf) ?_⟩
 . have:=yf (st:=true) (i:=3) (as:=[sT<|T9 n1 J1 D1,sT<|T9 n2 J2 D2,sI m,none,none,none,none,none,none,none,none,none,none,none]) (y6 (zj (g:=zk) (za (i:=0) rfl) (zb (x:=.int 0)) rfl rfl) (zj (g:=zk) (za (i:=1) rfl) (zb (x:=.int 0)) rfl rfl) (zP (by trivial)<|by trivial)<|zP (by trivial)<|by trivial)<|zo rfl;rw[zzV];exact this
 . rfl
 . have e:=yG (as:=LB n1 n2 m J1 J2 D1 D2 os f6 f7 f8 (sN ps) f10 f11 f12 f13) (a:=fV 3) (za rfl)<|QK (j:=5) rfl<|QK (j:=9) (fr:=dN) rfl rfl;rw[ho.ows.frz,po.frz]at e;exact⟨_,XS (RI e<|wX rfl) rfl,rfl,rfl⟩
end
abbrev O8:List D:=[.tup [.int 2,.int 2],.tup [.int 3,.int 2],.tup [.int 2,.int 3],.tup [.int 4,.int 2],.tup [.int 2,.int 4],.tup [.int 2,.int 2]]
def Cc(x:Int):∃a b:Nat,2<=a/\2<=b/\a*b<=8/\zk (.lst O8) (.int<|x%6)=some (.im<|.tup [.int a,.int b]):=by
 rcases(show x%6=0\/x%6=1\/x%6=2\/x%6=3\/x%6=4\/x%6=5 by trivial)with e|e|e|e|e|e<;>rw[e]
 . exact⟨2,2,by decide,by decide,by decide,rfl⟩
 . exact⟨3,2,by decide,by decide,by decide,rfl⟩
 . exact⟨2,3,by decide,by decide,by decide,rfl⟩
 . exact⟨4,2,by decide,by decide,by decide,rfl⟩
 . exact⟨2,4,by decide,by decide,by decide,rfl⟩
 . exact⟨2,2,by decide,by decide,by decide,rfl⟩
def uO(x:Int):∃n:Nat,2<=n/\n<=8/\zk (.lst [.int 2,.int 3,.int 4,.int 5,.int 3,.int 4,.int 6,.int 8]) (.int<|x%8)=some (.im<|.int n):=by
 rcases(show x%8=0\/x%8=1\/x%8=2\/x%8=3\/x%8=4\/x%8=5\/x%8=6\/x%8=7 by trivial)with e|e|e|e|e|e|e|e<;>rw[e]
 . exact⟨2,by decide,by decide,rfl⟩
 . exact⟨3,by decide,by decide,rfl⟩
 . exact⟨4,by decide,by decide,rfl⟩
 . exact⟨5,by decide,by decide,rfl⟩
 . exact⟨3,by decide,by decide,rfl⟩
 . exact⟨4,by decide,by decide,rfl⟩
 . exact⟨6,by decide,by decide,rfl⟩
 . exact⟨8,by decide,by decide,rfl⟩
def pN{x:Int}{n:Nat}(h:2<=n):KN (x%4) n:=by
 rcases(show x%4=0\/x%4=1\/x%4=2\/x%4=3 by trivial)with e|e|e|e<;>rw[e]
 . exact .inl ⟨rfl,by trivial⟩
 . exact .inr<|.inl ⟨rfl,by trivial⟩
 . exact .inr<|.inr<|.inl ⟨rfl,h⟩
 . exact .inr<|.inr<|.inr<|.inl ⟨rfl,h⟩
def uk{as:AS}:WE (yA<|dC (yh<|dC yq<|dC yq dN)<|dC (yh<|dC xr<|dC yq dN)<|dC (yh<|dC yq<|dC xr dN)<|dC (yh<|dC yV<|dC yq dN)<|dC (yh<|dC yq<|dC yV dN)<|dC (yh<|dC yq<|dC yq dN) dN) as (.lst O8):=by
 have t:∀a b:Int,WD (yh<|dC (fC<|.int a)<|dC (fC<|.int b) dN) as true (.tup [.int a,.int b]):=λa b=>Q6 (zh zb<|zh zb zR) (wX rfl) rfl;exact xi (zh (t 2 2)<|zh (t 3 2)<|zh (t 2 3)<|zh (t 4 2)<|zh (t 2 4)<|zh (t 2 2) zR) (wX rfl) rfl rfl
def IJ{c:Int}{m w:Nat}(hm0:0<m)(hm:m<=8)(hw:w<=8):∃(n:Nat) (J:TZ) (Ds:List TZ),1<=n/\n<=8/\LawP n m J Ds/\Ds.length=w/\RE (Vh [(true,.int c),(true,.int m),(true,.int w)]) (T9 n J Ds):=by
 obtain⟨xs,hl,hx,ws⟩:=IV (as:=[sI c,sI m,sI w,none,none,none,none,none]) (a:=fV 0) (m:=5) (by trivial) (WD.e<|za rfl)<|WD.e zb;obtain⟨x0,a0,_⟩:=at2 hx (by trivial) (by trivial);obtain⟨x1,a1,_⟩:=at2 hx (k:=1) (by trivial) (by trivial);obtain⟨x2,a2,_⟩:=at2 hx (k:=2) (by trivial) (by trivial);obtain⟨x3,a3,_⟩:=at2 hx (k:=3) (by trivial) (by trivial);obtain⟨x4,a4,_⟩:=at2 hx (k:=4) (by trivial) (by trivial);have y0:0<=x0%7/\x0%7<7:=⟨by trivial,by trivial⟩;have start:∀C x,Rt (C [sI c,sI m,sI w,sT<|zc xs,sI<|x0%7,none,none,none]) x->Rt (zp (zz true 3<|zx (aC zg<|aC wR aN) yo) (zp (zz true 4<|f2 (f2 zC zL zk) (fC<|.int 7) zy) C) [sI c,sI m,sI w,none,none,none,none,none]) x:=λC x h=>
  zd (yQ ws<|zo rfl) (zd (yf (yb (zj (za rfl) zb a0 rfl) zb<|by decide)<|zo rfl) h)
 generalize x0%7=k at y0 start
 by_cases hk:4<k
 . obtain⟨a,b,ha,hb,hab,es⟩:=Cc x1;obtain⟨J1,D1,L1,l1,p1⟩:=TL (pN ha) (zzO (Nat.le_mul_of_pos_right a<|by trivial) hab) hm0 hm hw;obtain⟨J2,D2,L2,l2,p2⟩:=TL (pN hb) (zzO (Nat.le_mul_of_pos_left b<|by trivial) hab) hm0 hm hw;obtain⟨J,Ds,q1,q2,q4⟩:=B7 (by trivial) (by trivial) hab hm hw l1 l2 hm0 L1 L2;refine⟨a*b,J,Ds,Nat.mul_pos (by trivial) (by trivial),hab,q1,q2,yk rfl<|start _ _<|xa<|xT (zJ (Vs (za rfl) zb)<|congrArg some<|zyO hk)<|zd (yf (Sf uk (WD.e<|yb (zj (za rfl) zb a1 rfl) zb<|by decide) es)<|zo rfl)<|zd (yQ (Nd (WD.e<|yb (zj (za rfl) zb a2 rfl) zb<|by decide) (WD.e<|zj (za rfl) zb rfl rfl) (WD.e<|za rfl) (WD.e<|za rfl) (WD.e<|zj (za rfl) zb a3 rfl) p1)<|zo rfl)<|yg<|vI (WD.e<|za rfl) (Nd (WD.e<|yb (zj (za rfl) zb a4 rfl) zb<|by decide) (WD.e<|zj (za rfl) zb rfl rfl) (WD.e<|za rfl) (WD.e<|za rfl) (WD.e<|yD (zj (za rfl) zb a3 rfl) zb) p2) (WD.e<|za rfl) q4⟩
 . obtain⟨n,n2,n8,en⟩:=uO x1;have fin:∀n':Nat,KN k n'->n'<=8->∃(n:Nat) (J:TZ) (Ds:List TZ),1<=n/\n<=8/\LawP n m J Ds/\Ds.length=w/\Rt (zV (zx (aC zZ<|aC yR<|aC zi<|aC zu<|aC (f2 zC xr zk) aN) wz) [sI c,sI m,sI w,sT<|zc xs,sI k,none,none,sI n']) (T9 n J Ds):=λn' hK h8=>by
    obtain⟨J,Ds,L1,l1,p1⟩:=TL hK h8 hm0 hm hw;refine⟨n',J,Ds, ?_,h8,L1,l1,yg<|Nd (WD.e<|za rfl) (WD.e<|za rfl) (WD.e<|za rfl) (WD.e<|za rfl) (WD.e<|zj (za rfl) zb a3 rfl) p1⟩;unfold KN at hK;trivial
   have hk':=congrArg some<|zyG hk;have set7:zz true 7 (f2 (yA<|dC yq<|dC xr<|dC yV<|dC wR<|dC xr<|dC yV<|dC Xf<|dC vd dN) (f2 (f2 zC zH zk) vd zy) zk) [sI c,sI m,sI w,sT<|zc xs,sI k,none,none,none]=some (.nx [sI c,sI m,sI w,sT<|zc xs,sI k,none,none,sI n]):=
    yf (Sf (xi (zh zb<|zh zb<|zh zb<|zh zb<|zh zb<|zh zb<|zh zb<|zh zb zR) (wX rfl) rfl rfl) (WD.e<|yb (zj (za rfl) zb a1 rfl) zb<|by decide) en) (zo rfl)
   by_cases h4:k=4
   . subst h4;obtain⟨n',J,Ds,r1,r2,r3,r4,r6⟩:=fin 4 (.inr<|.inr<|.inr<|.inr ⟨rfl,rfl⟩) (by decide);exact⟨n',J,Ds,r1,r2,r3,r4,yk rfl<|start _ _<|zd (zU (zJ (Vs (za rfl) zb) hk') rfl)<|zd set7<|zd (zU (Zl (zJ (yt (za rfl) zb rfl) rfl) (λh=>nomatch h) λ_=>rfl) rfl)<|zd (wL (zJ (yt (za rfl) zb rfl) rfl)<|yf zb<|zo rfl) r6⟩
   . have f4:∀e:Option O,WT (fT<|f2 zZ yV<|zt .Eq) [sI c,sI m,sI w,sT<|zc xs,sI k,none,none,e] false:=λe=>zJ (yt (za rfl) zb rfl) (by show some (k==4)=_;simp[h4])
     by_cases h0:k=0/\x2%9=0
     . obtain⟨rfl,h9⟩:=h0;obtain⟨n',J,Ds,r1,r2,r3,r4,r6⟩:=fin 1 (.inl ⟨rfl,zzN _⟩) (by decide);exact⟨n',J,Ds,r1,r2,r3,r4,yk rfl<|start _ _<|zd (zU (zJ (Vs (za rfl) zb) hk') rfl)<|zd set7<|zd (wL (Zl (zJ (yt (za rfl) zb rfl) rfl) (λ_=>zJ (yt (yb (zj (za rfl) zb a2 rfl) zb<|by decide) zb rfl) (by show some (x2%9==0)=_;simp[h9])) (λh=>nomatch h))<|yf zb<|zo rfl)<|zd (zU (f4 _) rfl) r6⟩
     . have hK:KN k n:=by unfold KN;trivial
       obtain⟨n',J,Ds,r1,r2,r3,r4,r6⟩:=fin n hK n8;refine⟨n',J,Ds,r1,r2,r3,r4,yk rfl<|start _ _<|zd (zU (zJ (Vs (za rfl) zb) hk') rfl)<|zd set7<|zd (zU (Zl (zJ (yt (za rfl) zb rfl) rfl) (λh=>zJ (yt (yb (zj (za rfl) zb a2 rfl) zb<|by decide) zb rfl) ?_) λ_=>rfl) rfl)<|zd (zU (f4 _) rfl) r6⟩;have hk0:k=0:=by simpa using h
       show some _=_;have:¬x2%9=0:=λz=>h0 ⟨hk0,z⟩;simp[this]
def Sy{f:EF}{as:AS}{ds:List D}(h:WE f as (.lst ds)):Wa f as=some (ds.map λd=>(true,d),as):=by
 obtain⟨o,h1,h2,h3⟩:=h;unfold Wa;rw[h1];have e:Q7 as (.ow o)=some ((o.str,o.toD),as):=rfl;show(Q7 as<|RV.ow o).bind (λq=>(Mr q.1).bind λds=>some (ds,q.2))=_;rw[e,h2,h3];show some _=_;rw[Py]
theorem P1:∀(l:List Int) (k:Nat) (h:k<l.length),(l[k]::l.eraseIdx k).Perm l
 |x::r,0,_=>List.Perm.refl _
 |x::r,k+1,h=>(List.Perm.swap _ _ _).trans<|(P1 r k<|by simpa using h).cons x
abbrev zD(n:Nat):List Int:=(List.range n).map λ(i:Nat)=>(i:Int)
def Mw{c:Int}{n:Nat}(hn:0<n)(hn8:n<=8):∃F:List Int,F.Perm (zD n)/\RE (Zz [(true,.int c),(true,.int n)]) (zc F):=by
 obtain⟨xs,hl,hx,ws⟩:=IV (as:=[sI c,sI n,sN<|(zD n).map vJ,sN [],none]) (a:=fV 0) (b:=fV 1) (by trivial) (WD.e<|za rfl)<|WD.e<|za rfl;obtain⟨as',hf,L,F,e4,rfl,hp,hlen⟩:=yM (g:=gN 4)
  (λi as=>∃(L F:List Int) (e4:Option O),as=[sI c,sI n,sN<|L.map vJ,sN<|F.map vJ,e4]/\(L++F).Perm (zD n)/\L.length+i=n)
  ((xs.map D.int).map λd=>(true,d)) 0 [sI c,sI n,sN<|(zD n).map vJ,sN [],none] (λi x as hx' hI=>by
    obtain⟨L,F,e4,rfl,hp,hlen⟩:=hI;have hi:i<n:=by
     have:=(zzG.mp hx').1;rw[zzB,zzB,hl]at this;exact this
    obtain⟨y,rfl⟩:∃y:Int,x=(true,.int y):=by
     rw[zyB,zzI]at hx';obtain⟨a,_,h2⟩:=zzX.mp hx';exact⟨a,h2.symm⟩
    have l0:(0:Int)<((L.map vJ).length:Int):=by rw[zzB];trivial
    have z0:=zyN y (show((L.map vJ).length:Int)≠0 by trivial);have z1:=zyH y l0;have hk:(y%((L.map vJ).length:Int)).toNat<L.length:=by rw[zzB]at z0 z1 ⊢;trivial
    generalize hkk:(y%((L.map vJ).length:Int)).toNat=k at hk;have pop:=HX (as:=[sI c,sI n,sN<|L.map vJ,sN<|F.map vJ,sI y]) (i:=2) rfl (yb (za (i:=4) rfl) (rz (i:=2) rfl) l0) z0 z1 (by rw[zzB];trivial) (by rw[hkk,zzI,zzE hk];rfl);rw[hkk,show(L.map vJ).eraseIdx k=(L.eraseIdx k).map vJ by rw[List.eraseIdx_eq_take_drop_succ,List.eraseIdx_eq_take_drop_succ,zyM,List.map_take,List.map_drop]]at pop;have ap:=RJ (i:=3) rfl pop rfl (by rw[zzB];have:=hp.length_eq;rw[zzJ,zzB,zyU]at this;exact xZ<|by trivial);rw[<-ME]at ap;refine⟨_,rfl,_,ap,L.eraseIdx k,F++[L[k]],_,rfl, ?_,by rw[List.length_eraseIdx_of_lt hk];trivial⟩;rw[<-zxD];refine(List.perm_append_singleton _ _).trans ?_;rw[<-List.cons_append];exact((P1 L k hk).append_right F).trans hp)
  ⟨zD n,[],none,rfl,by rw[zyE],by rw[zzB,zyU];rfl⟩
 rw[zzB,zzB,hl]at hlen;have hL:L=[]:=List.eq_nil_of_length_eq_zero (by trivial);subst hL;have s2:=y8 (i:=2) (as:=[sI c,sI n,none,none,none]) (W7 (a:=fV 1) (g:=Ce) (zs:=(zD n).map D.int) (WD.e<|za rfl)<|by
  show(if(0:Int)<=n/\_<=100000 then _ else _)=_;rw[if_pos ⟨by trivial,by trivial⟩,zyB];rfl)<|zo rfl
 rw[X9]at s2;exact⟨F,hp,yk rfl<|zd s2<|zd (y8 (xS zR<|wX rfl)<|zo rfl)<|zd (yF (Sy ws) hf) ⟨_,Fl rfl (xD F).2.1,(vO F).1,(vO F).2⟩⟩
abbrev BA:Str:="abcdefghijklmnopqrstuvwxyz"
def Jh:∀k,k<26->BA.cps.toList[k]? = some (97+k):=by decide +kernel
def SH{i:Int}(h0:0<=i)(h1:i<26):zk (.str BA) (.int i)=some (.im<|.str ⟨#[97+i.toNat]⟩):=by
 show(if BA.length<=sizeLine then(Es BA.cps.toList i).bind _ else none)=_;rw[if_pos (show BA.length<=sizeLine by decide +kernel)];have:=v8 (Jh i.toNat<|by trivial);rw[show(i.toNat:Int)=i by trivial]at this;rw[this];rfl
theorem N8:∀l:List Str,Pr (l.map D.str)=some l
 | []=>rfl
 |x::r=>by
  show(Pr _).bind _=_;rw[N8 r];rfl
theorem tL:∀l:List Str,(∀s ∈ l,s.length=1)->(l.map (·.length)).sum=l.length
 | [],_=>rfl
 |x::r,h=>by
  show x.length+(r.map _).sum=r.length+1;rw[h x<|zzF ..,tL r λs m=>h s<|zzD _ m];trivial
def len_app(a b:Str):(a++b).length=a.length+b.length:=by
 show(a++b).cps.size=a.cps.size+b.cps.size;rw[Str.cps_append,Array.size_append]
theorem N1:∀l:List Str,(∀s ∈ l,s.length=1)->(Str.join "" l).length=l.length
 | [],_=>rfl
 | [x],h=>h x (zzF ..)
 |x::y::r,h=>by
  show(x++""++Str.join "" _).length=_;rw[len_app,len_app,h x<|zzF ..,N1 (y::r) λs m=>h s<|zzD _ m];show 1+0+(r.length+1)=r.length+1+1;trivial
def add_str{a b:Str}(h:a.length+b.length<=1000):Vc .Add (.str a) (.str b)=some (.im<|.str<|a++b):=if_pos (Gk<|by trivial)
abbrev nm(A B:Str)(x:Int)(k:Nat):Str:=A++⟨#[97+((x+3*(k:Int))%26).toNat]⟩++B
def JY{A B:Str}{x:Int}{k j:Nat}(hk:k<10)(hj:j<10)(h:nm A B x k=nm A B x j):k=j:=by
 have h:=congrArg (λs:Str=>s.cps.toList) h;simp only[Str.cps_append,Array.toList_append,zxD,List.append_cancel_left_eq]at h;have h:=(List.append_cancel_right h);injection h with h
 trivial
def HC{c:Int}:∃ss:List Str,ss.length=10/\ss.Nodup/\RE (Xm [(true,.int c),(true,.int (10:Nat))]) (.lst<|ss.map D.str):=by
 obtain⟨xs,hl,hx,ws⟩:=IV (as:=[sI c,sI (10:Nat),sT<|.str BA,none,none,none,none,none]) (a:=fV 0) (c:=c) (m:=9) (by trivial) (WD.e<|za rfl)<|WD.e zb;obtain⟨x8,a8,_⟩:=at2 hx (k:=8) (by trivial) (by trivial);have hk:(1+c%8).toNat<=9:=by trivial
 have sl:WE (ZW zC oN (oS<|f2 zH (f2 zg vd zy) zA) Qa) [sI c,sI (10:Nat),sT<|.str BA,sT<|zc xs,none,none,none,none] (.lst<|(xs.take (1+c%8).toNat).map D.int):=by
  refine Yx (hi:=some<|1+c%8) (WD.e<|za rfl) rfl ?_ ?_
  . have:=yD (as:=[sI c,sI (10:Nat),sT<|.str BA,sT<|zc xs,none,none,none,none]) (zb (x:=.int 1)) (yb (za (i:=0) rfl) (zb (x:=.int 8))<|by decide);unfold oS;unfold WD at this;rw[this];rfl
  . have:=SY (xs:=(xs.take (1+c%8).toNat).map D.int) (ys:=(xs.drop (1+c%8).toNat).map D.int);rw[<-zyM,List.take_append_drop,zzB,zzS,Nat.min_eq_left (by trivial),show(((1+c%8).toNat:Nat):Int)=1+c%8 by trivial]at this;exact this
 obtain⟨l,l1,l2,l3⟩:=FF D.str (Q:=λs=>s.length=1) (cap:=[none,some 2]) (g:=gN 0) (fe:=f2 zi (f2 zg (fC<|.int 26) zy) zk) (Pq sl) (by rw[zzB,zzB,zzS];trivial) λy m=>by
  rw[zyB]at m;obtain⟨z,_,rfl⟩:=zxE.mp m;exact⟨_,⟨#[97+(z%26).toNat]⟩,rfl,WD.e<|zj (za rfl) (yb (za rfl) zb<|by decide) (SH (by trivial)<|by trivial) rfl,rfl⟩
 rw[zzB,zzB,zzS]at l1;have hb:=N1 l l2;have hm:WD (wV .str (fC<|.str "") (aC (zr (yu<|ZW zC oN (oS<|f2 zH (f2 zg vd zy) zA) Qa) [none,some 2] zG zN<|f2 zi (f2 zg (fC<|.int 26) zy) zk) aN) Fb) [sI c,sI (10:Nat),sT<|.str BA,sT<|zc xs,none,none,none,none] true (.str<|Str.join "" l):=
  Ql zb rfl (Zq l3 zq) (by
   show(Pr<|l.map D.str).bind _=_;rw[N8];show(if(l.map (·.length)).sum+l.length*0<=16777216 then some _ else none)=_;rw[if_pos (by rw[tL l l2];trivial),SR]) rfl
 generalize Str.join "" l=base at hb hm;have lb:(0:Int)<(base.length:Int):=by trivial
 have lz:base.length<=sizeLine:=Gk (by trivial);have z0:=zyN (c/8) (show(base.length:Int)≠0 by trivial);have z1:=zyH (c/8) lb;generalize hat:c/8%(base.length:Int)=at_ at z0 z1
 have lA:=Txt.slice_le base none<|some at_;have lB:=Txt.slice_le base (some<|at_+1) none;have eA:Jd (.str base) none (some at_)=some (.im<|.str<|Txt.slice base none<|some at_):=if_pos lz;have eB:Jd (.str base) (some<|at_+1) none=some (.im<|.str<|Txt.slice base (some<|at_+1) none):=if_pos lz;generalize Txt.slice base none (some at_)=A at lA eA;generalize Txt.slice base (some<|at_+1) none=B at lB eB;have lo1:∀(f:EF) (as:AS) (k:Int),WD f as true (.int k)->oS f as=some (some k,as):=λf as k h=>by
  unfold oS;unfold WD at h;rw[h];rfl
 obtain⟨as',hf,os,e7,rfl,ho⟩:=yM (g:=gN 7)
  (λi as=>∃(os:List O) (e7:Option O),as=[sI c,sI (10:Nat),sT<|.str BA,sT<|zc xs,sT<|.str base,sI at_,sN os,e7]/\Ows D.str (λ_=>True) os ((List.range i).map<|nm A B x8))
  (xk 0 10) 0 [sI c,sI (10:Nat),sT<|.str BA,sT<|zc xs,sT<|.str base,sI at_,sN [],none] (λi x as hx' hI=>by
   obtain⟨os,e7,rfl,ho⟩:=hI;obtain⟨rfl,hi⟩:=xJ hx';rw[zyY]at ho;have d1:=SH (i:=(x8+3*((0:Int)+i))%26) (by trivial) (by trivial);have e0:(x8+3*((0:Int)+i))%26=(x8+3*(i:Int))%26:=by rw[Int.zero_add]
   obtain⟨os',o1,o2⟩:=O4 (as:=[sI c,sI (10:Nat),sT<|.str BA,sT<|zc xs,sT<|.str base,sI at_,sN os,sI<|0+i]) (i:=6) (a:=f2 (f2 (ZW zZ oN (oS yP) Jd) (f2 zu (f2 (f2 (f2 zC vd zk) (f2 xr yR zF) zA) (fC<|.int 26) zy) zk) zA) (ZW zZ (oS<|f2 yP zH zA) oN Jd) zA) rfl ho (by rw[zzB,zyU];trivial)
    (WD.e<|zE (zE (Ku (za (i:=4) rfl) rfl (lo1 _ _ _<|za (i:=5) rfl) eA) (zj (za (i:=2) rfl) (yb (yD (zj (za (i:=3) rfl) zb a8 rfl)<|y6 zb (za (i:=7) rfl) (zP (by decide)<|by decide)<|zP (by trivial)<|by trivial) zb<|by decide) d1 rfl)<|add_str (by show A.length+1<=_;trivial)) (Ku (za (i:=4) rfl) (lo1 _ _ _<|yD (za (i:=5) rfl) zb) rfl eB)<|by
     rw[e0];exact add_str (by rw[len_app];show A.length+1+B.length<=_;trivial)) trivial
   refine⟨_,rfl,_,o2,os',_,rfl, ?_⟩;rw[show 0+i+1=i+1 by trivial,List.range_succ,zyM];exact o1)
  ⟨[],none,rfl,Ows.nil⟩
 rw[yJ,zyY]at ho;have s5:=yf (st:=true) (i:=5) (as:=[sI c,sI (10:Nat),sT<|.str BA,sT<|zc xs,sT<|.str base,none,none,none]) (yb (wd (za (i:=0) rfl) (zb (x:=.int 8)) (by decide)<|zP (by decide)<|by decide) (xb (g:=xx) (ze (za (i:=4) rfl) zq) (if_pos lz) rfl) lb)<|zo rfl;rw[hat]at s5;refine⟨(List.range 10).map<|nm A B x8,by rw[zzB,zyU], ?_,yk rfl<|zd (yf (i:=2) zb<|zo rfl)<|zd (yQ (p:=3) ws<|zo rfl)<|zd (yf (i:=4) hm<|zo rfl)<|zd s5<|zd (y8 (i:=6) (xS zR<|wX rfl)<|zo rfl)<|zd (yF (yU (ze (za rfl) zq) (by decide)<|by decide) hf)<|Ows.retB (i:=6) rfl ho⟩;exact List.pairwise_map.mpr<|(List.nodup_range).imp_of_mem λha hb hne he=>hne<|JY (List.mem_range.mp ha) (List.mem_range.mp hb) he
def EN{a b:EF}{as:AS}{d1 d2:List D}(ha:WE a as (.lst d1))(hb:WE b as (.lst d2)):Qk (aC a<|aC b aN) as=some (v9 true d1 d2,as):=by
 have h:=Zq ha<|Zq hb<|zq;unfold WA at h;unfold Qk;rw[h];rfl
abbrev rD(x:Int):ZV:=(true,.int x)
def JD{n:Nat}:xk 0 n=(zD n).map rD:=by
 rw[zyB];exact List.map_congr_left λi _=>by show(true,D.int<|0+i)=_;rw[Int.zero_add];rfl
theorem QO{g:GF}{tt:TF}{fe:EF}{as0:AS}:∀{xs:List Int},(∀x ∈ xs,∃as1 b,g (rD x) as0=some as1/\WT tt as1 b/\WD fe as1 true (.int x))->∃l:List Int,xv g tt fe as0 (xs.map rD)=some (l.map vJ)/\l.Sublist xs
 | [],_=>⟨[],rfl,List.Sublist.slnil⟩
 |y::xs,H=>by
  obtain⟨as1,b,h1,h2,h3⟩:=H y<|zzF ..;obtain⟨l,hl,h4⟩:=QO λz m=>H z<|zzD _ m;cases b with
  |true=>exact⟨y::l,Sa h1 h2 h3 hl,h4.cons_cons y⟩
  |false=>exact⟨l,GZ h1 h2 hl,h4.cons y⟩
abbrev ye(p:Str×List Int):D:=.tup [.str p.1,zc p.2]
abbrev Sg(n:Nat)(S:SS):Prop:=S.length<=10/\(S.map (·.1)).Nodup/\∀p ∈ S,p.2.Sublist<|zD n
abbrev uK:List Int:=[1,2,4,8,16,32,64,128]
theorem E7(st:Bool):∀(a b:List D),(v9 st a b).length<=b.length
 | [],b=>Nat.zero_le _
 |_::_,[]=>zzN _
 |_::a,_::b=>Nat.succ_le_succ<|E7 st a b
def SX{c:Int}{n:Nat}{ns:List Str}(hn:n<=8)(hl:ns.length<=10)(nd:ns.Nodup):∃ss:SS,Sg n ss/\RE (ZM [(true,.int c),(true,.int n),(true,.lst<|ns.map D.str)]) (.lst<|ss.map ye):=by
 obtain⟨xs,xl,hx,ws⟩:=IV (as:=[sI c,sI n,sT<|.lst<|ns.map D.str,sN [],none,none]) (a:=fV 0) (b:=fP xg xx) (m:=ns.length) (by omega) (WD.e<|za rfl)<|WD.e<|xb (ze (za rfl) zq) (by show some (R0.im<|.int ((ns.map D.str).length:Int))=_;rw[zzB]) rfl;obtain⟨as',hf,os,l,e4,e5,rfl,ho,hll,hnm⟩:=yM (g:=gT 2<|yd wO<|yd (gN 5) xG)
  (λi as=>∃(os:List O) (l:SS) (e4 e5:Option O),as=[sI c,sI n,sT<|.lst<|ns.map D.str,sN os,e4,e5]/\Ows ye (λp=>p.2.Sublist<|zD n) os l/\l.length=i/\l.map (·.1)=ns.take i)
  (v9 true (xs.map D.int)<|ns.map D.str) 0 [sI c,sI n,sT<|.lst<|ns.map D.str,sN [],none,none] (λi x as hx' hI=>by
   obtain⟨os,l,e4,e5,rfl,ho,hlen,hnm⟩:=hI;obtain⟨d,e,z1,z2,rfl⟩:=Z4 hx';have hil:i<ns.length:=by have:=(zzG.mp z2).1;rw[zzB]at this;exact this
   obtain⟨y,m1,rfl⟩:=RB z1;rw[zzI]at z2;obtain⟨s,m2,rfl⟩:=zzX.mp z2;obtain⟨r,hr,ri⟩:=QO (g:=gN 0) (as0:=[none,sI y]) (tt:=fT<|f2 (f2 (f2 zi (f2 (yA<|dC zH<|dC yq<|dC yV<|dC vd<|dC (fC<|.int 16)<|dC (fC<|.int 32)<|dC (fC<|.int 64)<|dC (fC<|.int 128) dN) zg zk) zB) yq zy) zH<|zt .Eq) (fe:=fV 0) (xs:=zD n) λb m=>by
    obtain⟨i,mi,rfl⟩:=zxE.mp m;have b1:=List.mem_range.mp mi;have b0:(0:Int)<=(i:Int):=by omega
    obtain⟨q,q1,q2⟩:=QL (r:=uK) (P:=λx=>0<x/\x<1000) b0 (by show(i:Int)<8;omega) (by decide);exact⟨_,_,rfl,zJ (yt (yb (wd (za rfl) (Sf (xi (zh zb<|zh zb<|zh zb<|zh zb<|zh zb<|zh zb<|zh zb<|zh zb zR) (wX rfl) rfl rfl) (WD.e<|za rfl) q1) q2.1<|zP (by omega)<|by omega) zb<|by decide) zb rfl) rfl,za rfl⟩
   rw[<-JD]at hr;have hc:=Yd (as:=[sI c,sI n,sT<|.lst<|ns.map D.str,sN os,sI y,sT<|.str s]) (cap:=[none,some 4]) (yU (ze (za (i:=1) rfl) zq) (by omega)<|by omega) (by rw[yJ];exact Gk<|by omega) hr;obtain⟨os',o1,o2⟩:=O4 (x:=(s,r)) (i:=3) rfl ho (by omega) (Vf (zh (za (i:=5) rfl)<|Zp hc zR) (wX rfl) (by show(true&&((O.nd .ls<|r.map vJ).str&&true))=true;rw[(vO r).1];rfl) (by show D.tup [.str s,(O.nd .ls<|r.map vJ).toD]=_;rw[(vO r).2])) ri;exact⟨_,rfl,_,o2,os',l++[(s,r)],_,_,rfl,o1,by rw[zzJ,hlen];show 0+i+1=_;omega,by rw[zyM,hnm,zyY,List.take_succ,m2];rfl⟩)
  ⟨[],[],none,none,rfl,Ows.nil,rfl,rfl⟩
 have hz:=zzO (Nat.le_of_eq<|hll.trans<|zyY _)<|zzO (E7 _ _ _)<|zzO (Nat.le_of_eq<|zzB ..) hl;exact⟨l,⟨hz,by rw[hnm];exact nd.sublist<|List.take_sublist _ _,ho.al⟩,yk rfl<|zd (y8 (xS zR<|wX rfl)<|zo rfl)<|zd (yF (EN ws<|WD.e<|za rfl) hf)<|Ows.retB rfl ho⟩
theorem any_ints(b:Int):∀r:List Int,∃t,anyF (λy=>wN 50 y<|.int b) (r.map D.int)=some t
 | []=>⟨_,rfl⟩
 |x::r=>by
  obtain⟨t,h⟩:=any_ints b r;refine⟨(x==b)||t, ?_⟩;show(some _).bind _=_;rw[zyL,h];rfl
theorem Te{b:Int}:∀{r:List Int},b ∈ r->∃j:Nat,j<r.length/\r[j]? = some b/\Pp (λy=>wN 50 y<|.int b) (r.map D.int)=some j
 |x::r,m=>by
  by_cases e:x=b
  . obtain⟨t,h⟩:=any_ints b r;refine⟨0,Nat.succ_pos _,by rw[e];rfl, ?_⟩;show(some _).bind _=_;rw[zyL,show(x==b)=true by simp[e]];rw[h];rfl
  . obtain⟨j,h1,h3,h2⟩:=Te<|(zzC.mp m).resolve_left λz=>e z.symm;refine⟨j+1,Nat.succ_lt_succ h1,by simpa using h3, ?_⟩;show(some _).bind _=_;rw[zyL,show(x==b)=false by simp[e]];rw[h2];rfl
def PU{F:List Int}{n:Nat}(h:F.Perm (zD n)):Row n F/\∀b:Int,0<=b->b<n->b ∈ F:=by
 refine⟨⟨by rw[h.length_eq,zzB,zyU],λx m=>?_⟩,λb b0 b1=>h.mem_iff.mpr ?_⟩
 . obtain⟨i,hi,rfl⟩:=zxE.mp<|h.mem_iff.mp m;have:=List.mem_range.mp hi;trivial
 . exact zxE.mpr ⟨b.toNat,List.mem_range.mpr (by trivial),by trivial⟩
def IZ{α:Type}(toD:α->D){Q:Nat->α->Prop}{fr:AF}{cap:List (Option Nat)}{fe:EF}{as:AS}{n:Nat}{u:Bool}(h1:WA fr as [(u,.int n)])(hl:n<=1000)(H:∀i:Nat,i<n->∃as1 a,gN 0 (true,.int (i:Int)) (vB cap as)=some as1/\WE fe as1 (toD a)/\Q i a):
 ∃l:List α,l.length=n/\(∀i a,l[i]? = some a->Q i a)/\WE (zr (zY fr z_) cap zG zN fe) as (.lst<|l.map toD):=by
 obtain⟨l,a1,a2,a3⟩:=Ko toD (yU h1 (by trivial)<|by trivial) (by rw[yJ];trivial) (λi y m=>by
  obtain⟨rfl,hi⟩:=xJ m;rw[Int.zero_add];exact H i<|by trivial)
 rw[yJ]at a1;exact⟨l,by trivial,a2,a3⟩
def Hx{F:List Int}{n:Nat}(h:F.Perm (zD n)){v w:Int}(hv:zQ n v)(hw:zQ n w)(e:zM F v=zM F w):v=w:=by
 have hl:=(PU h).1.1;have v0:=hv.1;have v1:=hv.2;have w0:=hw.1;have w1:=hw.2;have nd:F.Nodup:=by
  refine h.nodup_iff.mpr (List.pairwise_map.mpr<|List.nodup_range.imp λz q=>z<|by trivial)
 rw[YE (by trivial),YE<|by trivial]at e;have:=(List.getElem_inj nd).mp e;trivial
def tP{as:AS}{F:List Int}{n:Nat}{cap:List (Option Nat)}{fr:AF}(hF:F.Perm (zD n))(hn:n<=8)(h1:WA fr as [(true,.int n)])(h2:∀b:Int,gN 0 (true,.int b) (vB cap as)=some [sI b,sT<|zc F]):
 ∃B,(Row n B/\(∀v,zQ n v->zM F (zM B v)=v)/\∀v,zQ n v->zM B (zM F v)=v)/\WE (zr (zY fr z_) cap zG zN<|wV .lst zi xq wC) as (zc B):=by
 obtain⟨r1,r2⟩:=PU hF;obtain⟨B,b1,b2,b3⟩:=IZ D.int (Q:=λi x=>zM F x=i/\zQ n x) (fe:=wV .lst zi xq wC) h1 (by trivial) λb hb=>by
  obtain⟨j,j1,j3,j2⟩:=Te (r2 b (by trivial)<|by trivial);refine⟨_,j,h2 b,WD.e<|Ql (za rfl) rfl (ze (za rfl) zq) ?_ rfl, ?_,by trivial,by rw[r1.1]at j1;trivial⟩
  . show(Pp _ _).bind _=_;rw[j2];show(if(F.map D.int).length<=1000 then some _ else none)=_;rw[if_pos<|by rw[zzB,r1.1];trivial]
  . unfold zM;rw[zyI,j3];rfl
 have rB:Row n B:=⟨b1,λx m=>by
  obtain⟨i,hi⟩:=zyV m;exact(b2 i x hi).2⟩
 have fb:∀v,zQ n v->zM F (zM B v)=v:=λv hv=>by
  have v0:=hv.1;have v1:=hv.2;have hk:v.toNat<B.length:=by trivial
  rw[YE hk,(b2 _ _<|zzE hk).1];trivial
 exact⟨B,⟨rB,fb,λv hv=>Hx hF (rowAt rB (rowAt r1 hv).2).2 hv<|fb _ (rowAt r1 hv).2⟩,b3⟩
def TQ{f:EF}{g:GF}{as as':AS}{x:D}(h:WE f as x)(hg:g (true,x) as=some as'):Zo f g as=some (.nx as'):=by
 obtain⟨o,h1,h2,h3⟩:=h;exact Ax h1 (by rw[h2,h3];exact hg)
def tM{as:AS}{F B:List Int}{J:TZ}{n:Nat}{fr:AF}{cap:List (Option Nat)}(hn:n<=8)(hF:Row n F)(hB:Row n B)(hJ:Tab n n J)(h1:WA fr as [(true,.int n)])(h2:∀a:Int,gN 0 (true,.int a) (vB cap as)=some [sI a,sT<|zc F,sI n,sT<|zv J,sT<|zc B]):
 ∃T,RT n n (λa b=>zM F<|yE J (zM B a)<|zM B b) T/\WE (zr (zY fr z_) cap zG zN<|zr (zY xg z_) [none,some 1,some 3,some 4,some 0] zG zN<|f2 zi (f2 (f2 zu (f2 zC zZ zk) zk) (f2 zC zg zk) zk) zk) as (zv T):=
 RA h1 (by trivial) λa ha=>by
  obtain⟨r,r1,r3⟩:=Vo (as:=[sI a,sT<|zc F,sI n,sT<|zv J,sT<|zc B]) (fr:=aC zu aN) (cap:=[none,some 1,some 3,some 4,some 0]) (fe:=f2 zi (f2 (f2 zu (f2 zC zZ zk) zk) (f2 zC zg zk) zk) zk) (ze (za rfl) zq) (by trivial) λb hb=>by
   obtain⟨p1,p2⟩:=rowAt hB ha;obtain⟨q1,q2⟩:=rowAt hB hb;obtain⟨t1,t2⟩:=wK hJ p2;obtain⟨v1,v2⟩:=rowAt t2 q2;obtain⟨w1,w2⟩:=rowAt hF v2;exact⟨_,rfl,WD.e<|zj (za rfl) (zj (zE (za rfl) (zj (za rfl) (za rfl) p1 rfl) t1) (zj (za rfl) (za rfl) q1 rfl) v1 rfl) w1 rfl,w2⟩
  exact⟨_,r,h2 a,r3,r1⟩
abbrev zK(p:Str×TZ):D:=.tup [.str p.1,zv p.2]
abbrev JG:EF:=zr (yu<|fV 14) [none,some 8,some 5,some 9] zG zN<|zr (zY xg z_) [none,some 1,some 0,some 3] zG zN<|f2 zi (f2 zu (f2 zC zg zk) zk) zk
def tq{as:AS}{F B:List Int}{T:TZ}{m n:Nat}(hn:n<=8)(hm:m<=8)(hF:Row n F)(hB:Row n B)(hT:Tab m n T)(h1:as[14]? = some (sT<|zv T))(h2:∀d:D,gN 0 (true,d) (vB [none,some 8,some 5,some 9] as)=some [sT d,sT<|zc F,sI n,sT<|zc B]):
 ∃T',RT m n (λc a=>zM F<|yE T c<|zM B a) T'/\WE JG as (zv T'):=by
 obtain⟨T',t1,t2,t3⟩:=Ko zc (Pq<|WD.e<|za h1) (by rw[zzB,zzB,hT.1];trivial) λc y my=>by
  rw[zyB,zzI]at my;obtain⟨r,mr,rfl⟩:=zzX.mp my;have hr:=hT.2 r<|zyA mr;have hj:∀v,yE T c v=zM r v:=λv=>by unfold yE;rw[zyI,mr];rfl
  obtain⟨l,l1,l3⟩:=Vo (f:=λa=>zM F<|yE T c<|zM B a) (as:=[sT<|zc r,sT<|zc F,sI n,sT<|zc B]) (fr:=aC zu aN) (cap:=[none,some 1,some 0,some 3]) (fe:=f2 zi (f2 zu (f2 zC zg zk) zk) zk) (ze (za rfl) zq) (by trivial) λa ha=>by
   obtain⟨p1,p2⟩:=rowAt hB ha;obtain⟨v1,v2⟩:=rowAt hr p2;obtain⟨w1,w2⟩:=rowAt hF v2;rw[hj];exact⟨_,rfl,WD.e<|zj (za rfl) (zj (za rfl) (zj (za rfl) (za rfl) p1 rfl) v1 rfl) w1 rfl,w2⟩
  exact⟨_,l,h2 _,l3,l1⟩
 rw[zzB,zzB]at t1;exact⟨T',X7 (by rw[t1,hT.1]) t2,t3⟩
structure Alg(n m:Nat)(J:TZ)(e:Int)(Ds:DZ):Prop where
 n1:1<=n
 n8:n<=8
 m1:1<=m
 m6:m<=6
 j:Tab n n J
 e0:0<=e
 en:e<n
 dl:Ds.length<=6
 ds:∀p ∈ Ds,Tab m n p.2
 nd:(Ds.map (·.1)).Nodup
structure LawA(n m:Nat)(J:TZ)(e:Int)(Ds:DZ):Prop where
 lj:LJ n (yE J) e
 ld:∀p ∈ Ds,LD n m (yE J) e<|yE p.2
abbrev zm(n m:Nat)(J:TZ)(e:Int)(Ds:DZ)(S:SS):D:=.tup [.int n,.int m,zv J,.int e,.lst<|Ds.map zK,.lst<|S.map ye]
def HA{A0 A1 A2 A3 A4 A6 A7 A10 A11 A15:Option O}{F B:List Int}{Ds:List TZ}{ns:List Str}{m n:Nat}(hn:n<=8)(hm:m<=8)(hF:Row n F)(hB:Row n B)(hD:∀T ∈ Ds,Tab m n T)(hl:Ds.length<=ns.length)(hl8:Ds.length<=8):
 ∃os l e13 e14,Ows zK (λp=>∃T ∈ Ds,RT m n (λc a=>zM F<|yE T c<|zM B a) p.2) os l/\l.map (·.1)=ns.take Ds.length/\l.length=Ds.length/\forL (gT 2<|yd (gN 13)<|yd (gN 14) xG) (yI<|xt 12 (dC (yh<|dC (fV 13)<|dC JG dN) dN) xF) (v9 true (ns.map D.str)<|Ds.map zv)
  [A0,A1,A2,A3,A4,sI n,A6,A7,sT<|zc F,sT<|zc B,A10,A11,sN [],none,none,A15]
  = some (.nx [A0,A1,A2,A3,A4,sI n,A6,A7,sT<|zc F,sT<|zc B,A10,A11,sN os,e13,e14,A15]):=by
 obtain⟨as',hf,os,l,e13,e14,rfl,ho,hlm,hlen⟩:=yM (g:=gT 2<|yd (gN 13)<|yd (gN 14) xG)
  (λi as=>∃(os:List O) (l:DZ) (e13 e14:Option O),as=[A0,A1,A2,A3,A4,sI n,A6,A7,sT<|zc F,sT<|zc B,A10,A11,sN os,e13,e14,A15]/\Ows zK (λp=>∃T ∈ Ds,RT m n (λc a=>zM F<|yE T c<|zM B a) p.2) os l/\l.map (·.1)=ns.take i/\l.length=i)
  (v9 true (ns.map D.str)<|Ds.map zv) 0 [A0,A1,A2,A3,A4,sI n,A6,A7,sT<|zc F,sT<|zc B,A10,A11,sN [],none,none,A15] (λi x as hx' hI=>by
   obtain⟨os,l,e13,e14,rfl,ho,hlm,hlen⟩:=hI;obtain⟨d,e,z1,z2,rfl⟩:=Z4 hx';have hil:i<Ds.length:=by have:=(zzG.mp z2).1;rw[zzB]at this;exact this
   obtain⟨T,mT,rfl⟩:=RB z2;rw[zzI]at z1;obtain⟨s,s1,rfl⟩:=zzX.mp z1;obtain⟨T',t1,o,t2,t3,t4⟩:=tq (as:=[A0,A1,A2,A3,A4,sI n,A6,A7,sT<|zc F,sT<|zc B,A10,A11,sN os,sT<|.str s,sT<|zv T,A15]) hn hm hF hB (hD T mT) rfl λ_=>rfl;obtain⟨os',o1,o2⟩:=O4 (x:=(s,T')) (i:=12) rfl ho (by trivial) (Vf (zh (za (i:=13) rfl)<|Zp t2 zR) (wX rfl) (by show(true&&(o.str&&true))=true;rw[t3];rfl) (by show D.tup [.str s,o.toD]=_;rw[t4])) ⟨T,mT,t1⟩;refine⟨_,rfl,_,o2,os',l++[(s,T')],_,_,rfl,o1, ?_,by rw[zzJ,hlen];rfl⟩;rw[zyM,hlm,show 0+i+1=i+1 by trivial,zyY,List.take_succ,s1];rfl)
  ⟨[],[],none,none,rfl,Ows.nil,rfl,rfl⟩
 rw[XG,zzB,zzB,Nat.min_eq_right hl,zyY]at hlm hlen;exact⟨os,l,e13,e14,ho,hlm,hlen,hf⟩
def IP(x:Int):∃n:Nat,n<=6/\zk (.lst<|([1,2,0,4,3,2,6,5]:List Int).map D.int) (.int<|x%8)=some (.im<|.int n):=by
 obtain⟨v,h1,h2⟩:=QL (r:=[1,2,0,4,3,2,6,5]) (P:=λx=>0<=x/\x<=6) (k:=x%8) (by trivial) (by show x%8<8;trivial) (by decide);exact⟨v.toNat,by trivial,by rw[show(v.toNat:Int)=v by trivial];exact h1⟩
def J3(x:Int):∃n:Nat,n<=4/\zk (.lst<|([1,2,1,4,0,2,3,1]:List Int).map D.int) (.int<|x%8)=some (.im<|.int n):=by
 obtain⟨v,h1,h2⟩:=QL (r:=[1,2,1,4,0,2,3,1]) (P:=λx=>0<=x/\x<=4) (k:=x%8) (by trivial) (by show x%8<8;trivial) (by decide);exact⟨v.toNat,by trivial,by rw[show(v.toNat:Int)=v by trivial];exact h1⟩
def vL{f:EF}{as:AS}{k:Int}(h:WD f as true (.int k)):oS f as=some (some k,as):=by
 unfold oS;unfold WD at h;rw[h];rfl
def LS{α:Type}(f:α->D)(l:List α)(lo hi:Option Int):∃l':List α,l'.Sublist l/\PF.cutD (l.map f) lo hi=l'.map f:=by
 unfold PF.cutD;rw[zzB,<-List.map_drop,<-List.map_take];exact⟨_,(List.take_sublist _ _).trans<|List.drop_sublist _ _,rfl⟩
def JP{as:AS}{a b c d e f g h:Int}:WE (yA<|dC (fC<|.int a)<|dC (fC<|.int b)<|dC (fC<|.int c)<|dC (fC<|.int d)<|dC (fC<|.int e)<|dC (fC<|.int f)<|dC (fC<|.int g)<|dC (fC<|.int h) dN) as (.lst<|([a,b,c,d,e,f,g,h]:List Int).map D.int):=
 xi (zh zb<|zh zb<|zh zb<|zh zb<|zh zb<|zh zb<|zh zb<|zh zb zR) (wX rfl) rfl rfl
def Th{c c':Int}:∃n m J e Ds S,(Alg n m J e Ds/\LawA n m J e Ds)/\Sg n S/\RE (xO [(true,.int c),(true,.int c')]) (zm n m J e Ds S):=by
 obtain⟨ys,hl,hy,ws⟩:=IV (as:=[sI c,sI c',none,none,none,none,none,none,none,none,none,none,none,none,none,none]) (a:=fV 1) (m:=6) (by trivial) (WD.e<|za rfl)<|WD.e zb;obtain⟨y0,a0,_⟩:=at2 hy (by trivial) (by trivial);obtain⟨y1,a1,_⟩:=at2 hy (k:=1) (by trivial) (by trivial);obtain⟨y2,a2,_⟩:=at2 hy (k:=2) (by trivial) (by trivial);obtain⟨y3,a3,_⟩:=at2 hy (k:=3) (by trivial) (by trivial);obtain⟨y4,a4,_⟩:=at2 hy (k:=4) (by trivial) (by trivial);obtain⟨y5,a5,_⟩:=at2 hy (k:=5) (by trivial) (by trivial);obtain⟨w,w6,ew⟩:=IP y1;obtain⟨k,k4,ek⟩:=J3 y5;have b3:(2:Int).natAbs<big:=zP (by decide) (by decide);obtain⟨m1,m11,m16,hC⟩:∃m1:Int,1<=m1/\m1<=6/\xB (fT<|f2 (f2 (f2 (f2 zu zL zk) Xf zB) yq zy) zL<|zt .Eq) (zz true 3<|f2 zH (f2 (f2 (f2 zu zL zk) (fC<|.int 12) zB) xr zy) zA) xQ
  [sI c,sI c',sT<|zc ys,sI<|1+y0%6,none,none,none,none,none,none,none,none,none,none,none,none]=some (.nx [sI c,sI c',sT<|zc ys,sI m1,none,none,none,none,none,none,none,none,none,none,none,none]):=by
  by_cases h:y0/6%2=0
  . exact⟨1+y0/12%3,by trivial,by trivial,wL (zJ (yt (yb (wd (zj (za rfl) zb a0 rfl) zb (by decide)<|zP (by decide)<|by decide) zb<|by decide) zb rfl) (by show some (y0/6%2==0)=_;simp[h]))<|yf (i:=3) (yD zb<|yb (wd (zj (za rfl) zb a0 rfl) zb (by decide)<|zP (by decide)<|by decide) zb<|by decide)<|zo rfl⟩
  . exact⟨1+y0%6,by trivial,by trivial,zU (zJ (yt (yb (wd (zj (za rfl) zb a0 rfl) zb (by decide)<|zP (by decide)<|by decide) zb<|by decide) zb rfl) (by show some (y0/6%2==0)=_;simp[h])) rfl⟩
 obtain⟨m,mm1,mm6,hE⟩:∃m:Nat,1<=m/\m<=6/\xB (fT<|f2 zZ xr<|zt .Gt) (zz true 3<|f2 zH (f2 zC yq zy) zA) xQ
  [sI c,sI c',sT<|zc ys,sI m1,sI w,none,none,none,none,none,none,none,none,none,none,none]=some (.nx [sI c,sI c',sT<|zc ys,sI m,sI w,none,none,none,none,none,none,none,none,none,none,none]):=by
  by_cases h:(3:Int)<w
  . refine⟨(1+m1%2).toNat,by trivial,by trivial, ?_⟩;rw[show(((1+m1%2).toNat:Nat):Int)=1+m1%2 by trivial];exact wL (zJ (Vs (za rfl) zb)<|congrArg some<|zyO h)<|yf (i:=3) (yD zb<|yb (za rfl) zb<|by decide)<|zo rfl
  . refine⟨m1.toNat,by trivial,by trivial, ?_⟩;rw[show((m1.toNat:Nat):Int)=m1 by trivial];exact zU (zJ (Vs (za rfl) zb)<|congrArg some<|zyG h) rfl
 obtain⟨n,J,Ds,n1,n8,LP,dl,hmade⟩:=IJ (c:=c) (m:=m) (w:=w) (by trivial) (by trivial) (by trivial);have hJ:=LP.tj;have hD:=LP.td;obtain⟨F,hF,hord⟩:=Mw n1 n8;obtain⟨rF,_⟩:=PU hF;obtain⟨B,⟨rB,fb,bf⟩,hback⟩:=tP (as:=[sI c,sI c',sT<|zc ys,sI m,sI w,sI n,sT<|zv J,sT<|.lst<|Ds.map zv,sT<|zc F,none,none,none,none,none,none,none]) (cap:=[none,some 8]) (fr:=aC yP aN) hF n8 (ze (za rfl) zq) λb=>rfl;obtain⟨J',hJ',hjoin⟩:=tM (as:=[sI c,sI c',sT<|zc ys,sI m,sI w,sI n,sT<|zv J,sT<|.lst<|Ds.map zv,sT<|zc F,sT<|zc B,none,none,none,none,none,none]) (cap:=[none,some 8,some 5,some 6,some 9]) (fr:=aC yP aN) n8 rF rB hJ (ze (za rfl) zq) λa=>rfl;obtain⟨ns,nl,nnd,hnames⟩:=HC;obtain⟨os,l,e13,e14,ho,hlm,hlen,hf⟩:=HA (ns:=ns.take 6) n8 (by trivial) rF rB hD (by rw[zzS,nl];trivial) (by trivial);obtain⟨ef,ff⟩:=rowAt rF (v:=0) ⟨by trivial,by trivial⟩;obtain⟨ks,kl,ck⟩:=LS D.str ns (some 6)<|some<|6+(k:Int);obtain⟨S,hSg,hS⟩:=SX (n:=n) n8 (by have:=kl.length_le;omega)<|nnd.sublist kl;have cF:∀a,zQ n a->zQ n (zM F a):=λa ha=>(rowAt rF ha).2;have cB:∀a,zQ n a->zQ n (zM B a):=λa ha=>(rowAt rB ha).2;have lj:=oI LP.lj cF cB fb bf;refine⟨n,m,J',zM F 0,l,S,⟨⟨n1,n8,mm1,mm6,hJ'.1,ff.1,ff.2,by trivial,λp mp=>?_, ?_⟩,⟨lj.congr hJ'.2,λp mp=>?_⟩⟩,hSg, ?_⟩
 . obtain⟨T,_,hT⟩:=ho.al p mp;exact hT.1
 . rw[hlm];exact(nnd.sublist<|List.take_sublist _ _).sublist<|List.take_sublist _ _
 . obtain⟨T,mT,hT⟩:=ho.al p mp;exact(oB (by trivial) LP.lj (LP.ld T mT) cF cB fb bf).congr (by trivial) lj hJ'.2 hT.2
 have z6:WE (ZW yO oN (oS Xf) Qa) [sI c,sI c',sT<|zc ys,sI m,sI w,sI n,sT<|zv J,sT<|.lst<|Ds.map zv,sT<|zc F,sT<|zc B,sT<|zv J',sT<|.lst<|ns.map D.str,sN [],none,none,none] (.lst<|(ns.take 6).map D.str):=by
  refine Yx (WD.e<|za rfl) rfl (vL zb) ?_;have:=SY (xs:=(ns.take 6).map D.str) (ys:=(ns.drop 6).map D.str);rw[<-zyM,List.take_append_drop,zzB,zzS,nl]at this;exact this
 have zS:WE (zx (aC (f2 zu yV zk)<|aC yP<|aC (ZW yO (oS Xf) (oS<|f2 Xf (f2 (yA<|dC zH<|dC yq<|dC zH<|dC yV<|dC zL<|dC yq<|dC xr<|dC zH dN) (f2 (f2 zu wR zk) vd zy) zk) zA) Qa) aN) ZM) [sI c,sI c',sT<|zc ys,sI m,sI w,sI n,sT<|zv J,sT<|.lst<|Ds.map zv,sT<|zc F,sT<|zc B,sT<|zv J',sT<|.lst<|ns.map D.str,sN os,e13,e14,none] (.lst<|S.map ye):=
  vI (WD.e<|zj (za rfl) zb a4 rfl) (WD.e<|za rfl) (Yx (WD.e<|za rfl) (vL zb) (vL<|yD zb<|Sf JP (WD.e<|yb (zj (za rfl) zb a5 rfl) zb<|by decide) ek) (by show some (R0.fl<|PF.cutD (ns.map D.str) (some 6)<|some<|6+(k:Int))=_;rw[ck])) hS
 refine yk rfl<|zd (yQ (p:=2) ws<|zo rfl)<|zd (yf (i:=3) (yD zb<|yb (zj (za rfl) zb a0 rfl) zb<|by decide)<|zo rfl)<|zd hC<|zd (yf (i:=4) (Sf JP (WD.e<|yb (zj (za rfl) zb a1 rfl) zb<|by decide) ew)<|zo rfl)<|zd hE
  (zd (TQ (vI (WD.e<|za rfl) (WD.e<|za rfl) (WD.e<|za rfl) hmade) rfl)
  (zd (yQ (p:=8) (wY (WD.e<|zj (za rfl) zb a2 rfl) (WD.e<|za rfl) hord)<|zo rfl)<|zd (yQ (p:=9) hback<|zo rfl)<|zd (yQ hjoin<|zo rfl)<|zd (yQ (wY (WD.e<|zj (za rfl) zb a3 rfl) (WD.e zb) hnames)<|zo rfl)<|zd (y8 (xS zR<|wX rfl)<|zo rfl)<|zd (yF (EN z6<|WD.e<|za rfl) hf)<|zd (yQ zS<|zo rfl) ?_))
 have e:=yG (as:=[sI c,sI c',sT<|zc ys,sI m,sI w,sI n,sT<|zv J,sT<|.lst<|Ds.map zv,sT<|zc F,sT<|zc B,sT<|zv J',sT<|.lst<|ns.map D.str,sN os,e13,e14,sT<|.lst<|S.map ye]) (a:=fV 5) (za rfl)<|yG (a:=fV 3) (za rfl)<|yG (a:=fV 10) (za rfl)<|yG (a:=f2 (fV 8) zL zk) (zj (za rfl) zb ef rfl)<|QK (j:=12) (fr:=dC (fV 15) dN) rfl<|yG (za rfl) rfl;rw[ho.frz]at e;exact⟨_,XS (RI e<|wX rfl) rfl,rfl,rfl⟩
def G7{c:Int}{n k:Nat}(hn:0<n)(hn8:n<=8)(hk:k<=900):∃ds:List Int,ds.length=k/\(∀x ∈ ds,zQ n x)/\RE (wF [(true,.int c),(true,.int n),(true,.int k)]) (zc ds):=by
 obtain⟨as',hf,x,os,l,e4,rfl,ho,hlen⟩:=yM (g:=gN 4) (f:=zp (yI<|xt 3 (dC (f2 zg zi zy) dN) xF)<|zz true 0<|f2 zg zi zB)
  (λi as=>∃(x:Int) (os:List O) (l:List Int) (e4:Option O),as=[sI x,sI n,sI k,sN os,e4]/\Ows D.int (zQ n) os l/\l.length=i)
  (xk 0 k) 0 [sI c,sI n,sI k,sN [],none] (λi y as hx' hI=>by
   obtain⟨x,os,l,e4,rfl,ho,hlen⟩:=hI;obtain⟨rfl,hi⟩:=xJ hx';obtain⟨os',o1,o2⟩:=O4 (as:=[sI x,sI n,sI k,sN os,sI<|0+i]) (i:=3) (a:=f2 zg zi zy) rfl ho (by trivial) (WD.e<|yb (za rfl) (za rfl)<|by trivial)<|wB hn;exact⟨_,rfl,_,zW o2<|yf (wd (za rfl) (za rfl) (by trivial)<|zP (by trivial)<|by trivial)<|zo rfl,x/n,os',l++[x%n],_,rfl,o1,by rw[zzJ,hlen];rfl⟩)
  ⟨c,[],[],none,rfl,Ows.nil,rfl⟩
 rw[yJ]at hlen;exact⟨l,by trivial,ho.al,yk rfl<|zd (y8 (xS zR<|wX rfl)<|zo rfl)<|zd (yF (yU (ze (za rfl) zq) (by trivial)<|by trivial) hf)<|Ows.retB rfl ho⟩
def ZJ{ns:List Int}{k:Int}{s t:Bool}(hk:0<=k):∃x,yi [(s,.lst<|ns.map .int),(t,.int k)]=sT (.int x):=by
 by_cases h:k<((ns.map D.int).length:Int)
 . obtain⟨x,hx⟩:=Jc hk (by rw[zzB]at h;exact h);exact⟨x,xR rfl<|RF<|wL (zJ (NQ (za rfl)<|xb (ze (za rfl) zq) rfl rfl)<|congrArg some<|zyO h)<|y_<|zj (za rfl) (za rfl) hx rfl⟩
 . exact⟨0,xR rfl<|zW (zU (zJ (NQ (za rfl)<|xb (ze (za rfl) zq) rfl rfl)<|congrArg some<|zyG h) rfl)<|y_ zb⟩
def C8{ds:List Int}{a n:Nat}(h:a+n<=ds.length):Qa (zc ds) (some (a:Int)) (some ((a+n:Nat):Int))=some (.fl<|((ds.drop a).take n).map D.int):=by
 show some _=_
 congr 2
 unfold PF.cutD;rw[HT.RL,HT.RL,zzB,Nat.min_eq_left h,Nat.min_eq_left (show a<=ds.length by trivial),<-List.map_drop,<-List.map_take,Nat.add_sub_cancel_left]
def E9{ds:List Int}{a n N:Nat}(h:a+n<=ds.length)(hd:∀x ∈ ds,zQ N x)(e:n=N):Row N ((ds.drop a).take n):=by
 refine⟨by rw[zzS,List.length_drop];trivial,λx m=>hd x<|List.mem_of_mem_drop<|List.mem_of_mem_take m⟩
def uH{f fl fh:EF}{as:AS}{ds:List Int}{a n:Nat}{lo hi:Int}(h:a+n<=ds.length)(hf:WD f as true (zc ds))(h1:WD fl as true (.int lo))(h2:WD fh as true (.int hi))(e1:lo=(a:Int))(e2:hi=((a+n:Nat):Int)):WE (ZW f (oS fl) (oS fh) Qa) as (zc<|(ds.drop a).take n):=by
 subst e1 e2;exact Yx (WD.e hf) (vL h1) (vL h2)<|C8 h
abbrev pW:EF:=zr (zY Xg z_) [none,some 8,some 12,some 2] zG zN<|ZW zi (oS<|f2 zu (f2 zC zg zF) zA) (oS<|f2 (f2 zu (f2 zC zg zF) zA) zC zA) Qa
abbrev pe:SF:=(zp (zz true 12<|f2 (f2 zH (f2 zu zu zF) zA) (f2 (f2 zu zC zF) yO zF) zA)
 (yI<|xt 10 (dC (yh<|dC (f2 (f2 y9 yO zk) zL zk)<|dC pW dN) dN) xF))
abbrev Dl(n m:Nat)(a0 a1 a4 a5 a7 a9:Option O)(Ds:DZ)(ds:List Int)(e10 e11 e12:Option O):AS:=
 [a0,a1,sI n,sI m,a4,a5,sT<|.lst<|Ds.map zK,a7,sT<|zc ds,a9,e10,e11,e12]
def D4{n m:Nat}{a0 a1 a4 a5 a7 a9:Option O}{Ds:DZ}{ds:List Int}(n1:1<=n)(n8:n<=8)(m6:m<=6)(dl:Ds.length<=6)(d1:ds.length=1+n*n+n*m*Ds.length)(d2:∀x ∈ ds,zQ n x):
 ∃os l e11 e12,Ows zK (λp=>Tab m n p.2) os l/\l.map (·.1)=Ds.map (·.1)/\l.length=Ds.length/\forL (gN 11) pe (xk 0 Ds.length) (Dl n m a0 a1 a4 a5 a7 a9 Ds ds (sN []) none none)=some (.nx<|Dl n m a0 a1 a4 a5 a7 a9 Ds ds (sN os) e11 e12):=by
 have nn:=Nat.mul_le_mul n8 n8;have nm:=Nat.mul_le_mul n8 m6;obtain⟨as',hf,os,l,e11,e12,rfl,ho,hlm,hlen⟩:=yM (g:=gN 11) (f:=pe)
  (λi as=>∃(os:List O) (l:DZ) (e11 e12:Option O),as=Dl n m a0 a1 a4 a5 a7 a9 Ds ds (sN os) e11 e12/\Ows zK (λp=>Tab m n p.2) os l/\l.map (·.1)=(Ds.map (·.1)).take i/\l.length=i)
  (xk 0 Ds.length) 0 (Dl n m a0 a1 a4 a5 a7 a9 Ds ds (sN []) none none) (λi x as hx' hI=>by
   obtain⟨os,l,e11,e12,rfl,ho,hlm,hlen⟩:=hI;obtain⟨rfl,hi⟩:=xJ hx';rw[Int.zero_add]at hx' ⊢;have g0:=zzE hi;generalize Ds[i]=p at g0;have hk:n*m*i+n*m<=n*m*Ds.length:=by rw[<-Nat.mul_succ];exact Nat.mul_le_mul_left _ hi
   have hk2:=zzO (zzO (Nat.le_add_right _ _) hk)<|Nat.mul_le_mul nm dl;have eat:((1+n*n+n*m*i:Nat):Int)=1+n*n+n*m*i:=by rw[Int.natCast_add,Int.natCast_add,zzV,zzV,zzV];rfl
   have enm:=zzV n m;obtain⟨T,t1,t2,o,t3,t4,t5⟩:=Po (as:=Dl n m a0 a1 a4 a5 a7 a9 Ds ds (sN os) (sI i)<|sI ((1+n*n+n*m*i:Nat):Int)) zc (fr:=aC zC aN) (cap:=[none,some 8,some 12,some 2]) (fe:=ZW zi (oS<|f2 zu (f2 zC zg zF) zA) (oS<|f2 (f2 zu (f2 zC zg zF) zA) zC zA) Qa) (ze (za rfl) zq) (by trivial) λc c0 c1=>by
    have ha:n*c.toNat+n<=n*m:=by rw[<-Nat.mul_succ];exact Nat.mul_le_mul_left n (by trivial)
    have ec:(c.toNat:Int)=c:=by trivial
    have w:WD (f2 zu (f2 zC zg zF) zA) [sI c,sT<|zc ds,sI ((1+n*n+n*m*i:Nat):Int),sI n] true (.int<|((1+n*n+n*m*i:Nat):Int)+n*c):=yD (za rfl) (y6 (za rfl) (za rfl) (zP (by trivial)<|by trivial)<|zP (by trivial)<|by trivial);exact⟨_,_,rfl,uH (a:=(1+n*n+n*m*i)+n*c.toNat) (by trivial) (za rfl) w (yD w<|za rfl) (by rw[Int.natCast_add<|1+n*n+n*m*i,zzV n c.toNat,ec]) (by rw[Int.natCast_add<|1+n*n+n*m*i+n*c.toNat,Int.natCast_add<|1+n*n+n*m*i,zzV n c.toNat,ec]),E9 (by trivial) d2 rfl⟩
   obtain⟨os',o1,o2⟩:=O4 (a:=yh<|dC (f2 (f2 y9 yO zk) zL zk)<|dC pW dN) (x:=(p.1,T)) (i:=10) rfl ho (by trivial) (Vf (zh (zj (zE (za rfl) (za rfl)<|Px g0) zb rfl rfl)<|Zp t3 zR) (wX rfl) (by show(true&&(o.str&&true))=true;rw[t4];rfl) (by show D.tup [.str p.1,o.toD]=_;rw[t5])) ⟨t1,t2⟩;refine⟨Dl n m a0 a1 a4 a5 a7 a9 Ds ds (sN os) (sI i) e12,rfl,_,zW ?_ o2,os',l++[(p.1,T)],_,_,rfl,o1, ?_,by rw[zzJ,hlen];rfl⟩
   . rw[eat];exact yf (yD (yD zb<|y6 (za rfl) (za rfl) (zP (by trivial)<|by trivial)<|zP (by trivial)<|by trivial)<|y6 (y6 (za rfl) (za rfl) (zP (by trivial)<|by trivial)<|zP (by trivial)<|by trivial) (za rfl) (by rw[<-enm];exact zP (by trivial)<|by trivial)<|zP (by trivial)<|by trivial)<|zo rfl
   . rw[zyM,hlm,show 0+i+1=i+1 by trivial,zyY,List.take_succ,zzI,g0];rfl)
  ⟨[],[],none,none,rfl,Ows.nil,rfl,rfl⟩
 rw[yJ,zyY]at hlm hlen;exact⟨os,l,e11,e12,ho,by rw[hlm,<-zzB,List.take_length],hlen,hf⟩
abbrev EG(T:TZ):O:=.nd .ls<|T.map Zr
abbrev wg(p:Str×TZ):O:=.nd .tp [.lf true<|.str p.1,EG p.2]
abbrev DQ:EF:=fP xq lstP
theorem GN:∀T:TZ,xv zG zN DQ [none] ((T.map zc).map λd=>(true,d))=some (T.map Zr)
 | []=>rfl
 |r::T=>Vq rfl (Ju<|za rfl) (xD r).2.1<|GN T
def SQ{f:EF}{as:AS}{T:TZ}(hl:T.length<=1000)(h:WE f as (zv T)):zr (yu f) [none] zG zN DQ as=some (.ow<|EG T,as):=
 Yd (Pq h) (by rw[zzB,zzB];exact Gk<|by trivial) (GN T)
def QZ(p:Str×TZ):(wg p).str=true/\(wg p).toD=zK p:=by
 constructor
 . show(true&&(O.strs _&&true))=true;rw[(X3 p.2).1];rfl
 . show D.tup [.str p.1,.lst _]=_;rw[(X3 p.2).2]
theorem X2:∀Ds:DZ,O.strs (Ds.map wg)=true/\O.toDs (Ds.map wg)=Ds.map zK
 | []=>⟨rfl,rfl⟩
 |p::Ds=>⟨by show((wg p).str&&O.strs (Ds.map wg))=true;rw[(QZ p).1,(X2 Ds).1];rfl,by
  show(wg p).toD::O.toDs _=_;rw[(QZ p).2,(X2 Ds).2];rfl⟩
abbrev t7:EF:=yh<|dC zg<|dC (zr (yu zi) [none] zG zN DQ) dN
def O7{p:Str×TZ}(hl:p.2.length<=1000):t7 [sT<|.str p.1,sT<|zv p.2]=some (.ow<|wg p,[sT<|.str p.1,sT<|zv p.2]):=
 El (zh (za rfl)<|Zp (SQ hl<|WD.e<|za rfl) zR) (wX rfl)
theorem Pi:∀Ds:DZ,(∀p ∈ Ds,p.2.length<=1000)->xv (gT 2<|yd zG<|yd (gN 1) xG) zN t7 [none,none] ((Ds.map zK).map λd=>(true,d))=some (Ds.map wg)
 | [],_=>rfl
 |p::Ds,h=>Vq rfl (O7<|h p<|zzF ..) (QZ p).1<|Pi Ds λq m=>h q<|zzD _ m
def YA{as:AS}{i:Nat}{xs:List Int}{k x:Int}{s:Bool}(h:as[i]? = some (some<|.lf s<|zc xs))(hk:0<=k)(hx:xs[k.toNat]? = some x):Mj i (xC k) as=some x:=by
 have e:(xs.map D.int)[k.toNat]? = some (.int x):=by rw[zzI,hx];rfl
 unfold Mj xC;show(if 0<=k then _ else none:Option Int)=_;rw[if_pos hk,VZ (f:=Rg) h rfl];show((xs.map D.int)[k.toNat]?).bind T_=_;rw[e];rfl
def QG{as:AS}{i:Nat}{k:Int}{s:Bool}(h:as[i]? = some (some<|.lf s<|.int k)):xV i as=some k:=by
 unfold xV;rw[VZ (f:=Rg) h rfl];rfl
def Od{as:AS}{i:Nat}{os:List O}(h:as[i]? = some (sN os)):HF i as=some (os.length:Int):=by
 unfold HF;rw[VZ (f:=X_) h rfl];rfl
def Zn{as:AS}{f g:Ly}{a b:Int}(h1:f as=some a)(h2:g as=some b)(hb:0<b):Xu f g as=some (a%b):=by
 unfold Xu;simp only[h1,h2,zyL,if_pos hb]
def HS{r:List Int}{k:Int}(h:k.toNat<r.length):(r.map vJ)[k.toNat]? = sT (.int r[k.toNat]):=by
 rw[zzI,zzE h];rfl
def BY{as:AS}{i:Nat}{f1 f2 fv:Ly}{k1 k2 c:Int}{T:TZ}{r:List Int}(h1:f1 as=some k1)(h2:f2 as=some k2)(hv:fv as=some c)(p1:0<=k1)(p2:0<=k2)(hi:as[i]? = some (some<|EG T))(hr:T[k1.toNat]? = some r)(hk:k2.toNat<r.length):
 MD i f1 f2 fv as=some (.nx<|as.set i<|some<|EG<|T.set k1.toNat<|r.set k2.toNat c):=by
 have e1:(T.map Zr)[k1.toNat]? = sN (r.map vJ):=by rw[zzI,hr];rfl
 have e2:=HS hk;have e3:(T.map Zr).set k1.toNat (.nd .ls<|(r.map vJ).set k2.toNat<|.lf true<|.int c)=(T.set k1.toNat<|r.set k2.toNat c).map Zr:=by
  rw[List.map_set];show _=(T.map Zr).set k1.toNat (.nd .ls _);rw[List.map_set]
 unfold MD;simp only[h1,h2,hv,zyL,if_pos (show 0<=k1/\0<=k2 from⟨p1,p2⟩),(VZ hi rfl:Bs X_ as i=some (T.map Zr)),(X1 e1 rfl:Ll X_ _ _=some (r.map vJ)),(X1 e2 rfl:Ll Rg _ _=some (.int r[k2.toNat])),e3]
def SC{as:AS}{y i:Nat}{f1 f2 f3 fv:Ly}{k1 k2 k3 c:Int}{Ds:DZ}{p:Str×TZ}{r:List Int}(h1:f1 as=some k1)(h2:f2 as=some k2)(h3:f3 as=some k3)(hv:fv as=some c)(p1:0<=k1)(p2:0<=k2)(p3:0<=k3)(hy:uF as y=true)(hi:as[i]? = some (sN<|Ds.map wg))(hp:Ds[k1.toNat]? = some p)(hr:p.2[k2.toNat]? = some r)(hk:k3.toNat<r.length):
 SM y i f1 1 f2 f3 fv as=some (.nx<|as.set i<|sN<|(Ds.set k1.toNat (p.1,p.2.set k2.toNat<|r.set k3.toNat c)).map wg):=by
 have e1:(Ds.map wg)[k1.toNat]? = some (.nd .tp [.lf true<|.str p.1,.nd .ls<|p.2.map Zr]):=by rw[zzI,hp];rfl
 have e2:([.lf true<|.str p.1,.nd .ls<|p.2.map Zr]:List O)[1]? = sN (p.2.map Zr):=rfl;have e3:(p.2.map Zr)[k2.toNat]? = sN (r.map vJ):=by rw[zzI,hr];rfl
 have e4:=HS hk;have e6:(p.2.map Zr).set k2.toNat (.nd .ls<|(r.map vJ).set k3.toNat<|.lf true<|.int c)=(p.2.set k2.toNat<|r.set k3.toNat c).map Zr:=by
  rw[List.map_set];show _=(p.2.map Zr).set k2.toNat (.nd .ls _);rw[List.map_set]
 have e5:(Ds.map wg).set k1.toNat (.nd .tp<|[.lf true<|.str p.1,.nd .ls<|p.2.map Zr].set 1<|.nd .ls<|(p.2.set k2.toNat<|r.set k3.toNat c).map Zr)=(Ds.set k1.toNat (p.1,p.2.set k2.toNat<|r.set k3.toNat c)).map wg:=by
  symm;rw[List.map_set];rfl
 unfold SM;simp only[h1,h2,h3,hv,zyL,if_pos (show 0<=k1/\0<=k2/\0<=k3/\uF as y=true from⟨p1,p2,p3,hy⟩),(VZ hi rfl:Bs X_ as i=some (Ds.map wg)),(X1 e1 rfl:Ll C2 _ _=some [.lf true<|.str p.1,.nd .ls<|p.2.map Zr]),(X1 e2 rfl:Ll X_ _ _=some (p.2.map Zr)),(X1 e3 rfl:Ll X_ _ _=some (r.map vJ)),(X1 e4 rfl:Ll Rg _ _=some (.int r[k3.toNat])),e6,e5]
def qA{as:AS}{i:Nat}{os:List O}{b:EF}(h:as[i]? = some (sN os))(hb:b as=some (.ow<|.nd .ls [],as)):WD (f2 (fV i) b<|zt .NotEq) as true (.bl<|!os.isEmpty):=by
 have hc:zt .NotEq (O.nd .ls os).toD (.lst [])=some (.im<|.bl<|!os.isEmpty):=by
  cases os with
  |nil=>rfl
  |cons o r=>rfl
 have hv:RV.view as (RV.ow<|O.nd .ls []).frz=some (.lst [],some true):=rfl;have hi:RV.view as (RV.bo i).frz=some ((O.nd .ls os).toD,(O.nd .ls os).kl):=Rx h;have hw:wrap (meet (O.nd .ls os).kl<|some true) (.im<|.bl<|!os.isEmpty)=some (.ow<|.lf true<|.bl<|!os.isEmpty):=by
  simp[wrap,yr,MN]
 unfold WD f2;rw[UL h];simp only[zyL,hb,hi,hv,hc,hw]
def oY{as:AS}{i:Nat}{os:List O}(h:as[i]? = some (sN os)):WD (f2 (fV i) (yA dN)<|zt .NotEq) as true (.bl<|!os.isEmpty):=qA h<|xS zR<|wX rfl
def Fd{n i:Nat}{r:List Int}{c:Int}(hr:Row n r)(hc:zQ n c):Row n (r.set i c):=by
 refine⟨by rw[zzU];exact hr.1,λx m=>?_⟩
 rcases List.mem_or_eq_of_mem_set m with m|rfl
 . exact hr.2 x m
 . exact hc
def FS{k n i:Nat}{T:TZ}{r:List Int}(hT:Tab k n T)(hr:Row n r):Tab k n (T.set i r):=by
 refine⟨by rw[zzU];exact hT.1,λx m=>?_⟩
 rcases List.mem_or_eq_of_mem_set m with m|rfl
 . exact hT.2 x m
 . exact hr
theorem set_same{α:Type}:∀{l:List α}{i:Nat}{a:α},l[i]? = some a->l.set i a=l
 | [],_,_,h=>by simp at h
 |x::l,0,a,h=>by
  simp at h;rw[h];rfl
 |x::l,i+1,a,h=>congrArg (x :: ·) (set_same<|by simpa using h)
abbrev BF(n m:Nat)(a0 a1 a4 a6 a7:Option O)(xs:List Int)(w:Int)(e:Int)(J:TZ)(Ds:DZ):AS:=
 [a0,a1,sI n,sI m,a4,sI e,a6,a7,sT<|zc xs,some<|EG J,sN<|Ds.map wg,sI w,none]
section
variable{n m:Nat}{a0 a1 a4 a6 a7:Option O}{xs:List Int}{w e:Int}{J:TZ}{Ds:DZ}
def Yj(hl:xs.length=8)(k:Nat)(hk:k<8):∃x,xs[k]? = some x/\zk (zc xs) (.int (k:Int))=some (.im<|.int x):=by
 have g:=zzE (l:=xs) (i:=k) (by trivial);exact⟨_,g,Px g⟩
def tV(hl:xs.length=8)(n1:1<=n)(he:zQ n e):∃e',zQ n e'/\xB (fT<|f2 yO zL<|zt .Eq) (zz true 5<|f2 (f2 (fV 8) zH zk) zu zy) xQ (BF n m a0 a1 a4 a6 a7 xs w e J Ds)=some (.nx<|BF n m a0 a1 a4 a6 a7 xs w e' J Ds):=by
 obtain⟨x,_,hx⟩:=Yj hl 1 (by trivial)
 by_cases h:w=0
 . exact⟨x%n,wB n1,wL (zJ (yt (za rfl) zb rfl) (by show some (w==0)=_;simp[h]))<|yf (yb (zj (za (i:=8) rfl) zb hx rfl) (za rfl)<|by trivial)<|zo rfl⟩
 . exact⟨e,he,zU (zJ (yt (za rfl) zb rfl) (by show some (w==0)=_;simp[h])) rfl⟩
def tN(hl:xs.length=8)(n1:1<=n)(hJ:Tab n n J):∃J',Tab n n J'/\xB (vA (fT<|f2 yO zH<|zt .Eq)<|fT<|f2 yO yq<|zt .Eq) (MD 9 (Xu (Mj 8<|xC 2)<|xV 2) (Xu (Mj 8<|xC 3)<|xV 2)<|Xu (Mj 8<|xC 4)<|xV 2) xQ (BF n m a0 a1 a4 a6 a7 xs w e J Ds)=some (.nx<|BF n m a0 a1 a4 a6 a7 xs w e J' Ds):=by
 obtain⟨x2,g2,_⟩:=Yj hl 2 (by trivial);obtain⟨x3,g3,_⟩:=Yj hl 3 (by trivial);obtain⟨x4,g4,_⟩:=Yj hl 4 (by trivial);have t1:WT (fT<|f2 yO zH<|zt .Eq) (BF n m a0 a1 a4 a6 a7 xs w e J Ds) (w==1):=zJ (yt (za rfl) zb rfl) rfl;have t2:WT (fT<|f2 yO yq<|zt .Eq) (BF n m a0 a1 a4 a6 a7 xs w e J Ds) (w==2):=zJ (yt (za rfl) zb rfl) rfl;have t:WT (vA (fT<|f2 yO zH<|zt .Eq)<|fT<|f2 yO yq<|zt .Eq) (BF n m a0 a1 a4 a6 a7 xs w e J Ds) (w==1||w==2):=Vn t1 (λh=>by rw[h,Bool.false_or];exact t2) (λh=>by rw[h];rfl);cases hw:(w==1||w==2)with
 |false=>rw[hw]at t;exact⟨J,hJ,zU t rfl⟩
 |true=>
  rw[hw]at t;have m2:=wB (x:=x2) n1;have m3:=wB (x:=x3) n1;have m4:=wB (x:=x4) n1;have hk:(x2%(n:Int)).toNat<J.length:=by rw[hJ.1];trivial
  have hr:=zzE hk;have hR:=hJ.2 _<|zxA hk;generalize J[(x2%n).toNat]=r at hr hR;have hn:(0:Int)<n:=by trivial
  exact⟨_,FS hJ<|Fd hR m4,wL t<|BY (Zn (YA rfl (by decide) g2) (QG rfl) hn) (Zn (YA rfl (by decide) g3) (QG rfl) hn) (Zn (YA rfl (by decide) g4) (QG rfl) hn) m2.1 m3.1 rfl hr<|by rw[hR.1];trivial⟩
def uW(hl:xs.length=8)(n1:1<=n)(m1:1<=m)(hD:∀p ∈ Ds,Tab m n p.2):∃Ds',Ds'.map (·.1)=Ds.map (·.1)/\(∀p ∈ Ds',Tab m n p.2)/\xB (YW (fT<|f2 yO yq<|zt .Gt)<|fT<|f2 (fV 10) (yA dN)<|zt .NotEq) (SM 12 10 (Xu (Mj 8<|xC 5)<|HF 10) 1 (Xu (Mj 8<|xC 6)<|xV 3) (Xu (Mj 8<|xC 7)<|xV 2)<|Xu (Mj 8<|xC 4)<|xV 2) xQ (BF n m a0 a1 a4 a6 a7 xs w e J Ds)=some (.nx<|BF n m a0 a1 a4 a6 a7 xs w e J Ds'):=by
 obtain⟨x4,g4,_⟩:=Yj hl 4 (by trivial);obtain⟨x5,g5,_⟩:=Yj hl 5 (by trivial);obtain⟨x6,g6,_⟩:=Yj hl 6 (by trivial);obtain⟨x7,g7,_⟩:=Yj hl 7 (by trivial);have t1:WT (fT<|f2 yO yq<|zt .Gt) (BF n m a0 a1 a4 a6 a7 xs w e J Ds) (decide (2<w)):=zJ (Vs (za rfl) zb) rfl;have t2:WT (fT<|f2 (fV 10) (yA dN)<|zt .NotEq) (BF n m a0 a1 a4 a6 a7 xs w e J Ds) (!(Ds.map wg).isEmpty):=zJ (oY rfl) rfl;have t:WT (YW (fT<|f2 yO yq<|zt .Gt)<|fT<|f2 (fV 10) (yA dN)<|zt .NotEq) (BF n m a0 a1 a4 a6 a7 xs w e J Ds) (decide (2<w) && !(Ds.map wg).isEmpty):=Zl t1 (λh=>by rw[h,Bool.true_and];exact t2) (λh=>by rw[h];rfl);cases hw:(decide (2<w) && !(Ds.map wg).isEmpty)with
 |false=>rw[hw]at t;exact⟨Ds,rfl,hD,zU t rfl⟩
 |true=>
  rw[hw]at t;have hne:0<Ds.length:=by
   cases Ds with
   |nil=>simp at hw
   |cons p r=>exact Nat.zero_lt_succ _
  have hlen:((Ds.map wg).length:Int)=Ds.length:=by rw[zzB]
  have m4:=wB (x:=x4) n1;have m5:=wB (x:=x5) hne;have m6:=wB (x:=x6) m1;have m7:=wB (x:=x7) n1;have hk:(x5%(Ds.length:Int)).toNat<Ds.length:=by trivial
  have hp:=zzE hk;have hP:=hD _<|zxA hk;generalize Ds[(x5%Ds.length).toNat]=p at hp hP;have hk2:(x6%(m:Int)).toNat<p.2.length:=by rw[hP.1];trivial
  have hr:=zzE hk2;have hR:=hP.2 _<|zxA hk2;generalize p.2[(x6%m).toNat]=r at hr hR;have hn:(0:Int)<n:=by trivial
  have hm:(0:Int)<m:=by trivial
  refine⟨Ds.set (x5%Ds.length).toNat (p.1,p.2.set (x6%m).toNat<|r.set (x7%n).toNat<|x4%n), ?_,λq mq=>?_,wL t<|SC (Zn (YA rfl (by decide) g5) (by rw[<-hlen];exact Od rfl)<|by trivial) (Zn (YA rfl (by decide) g6) (QG rfl) hm) (Zn (YA rfl (by decide) g7) (QG rfl) hn) (Zn (YA rfl (by decide) g4) (QG rfl) hn) m5.1 m6.1 m7.1 rfl rfl hp hr<|by rw[hR.1];trivial⟩
  . rw[List.map_set];exact set_same (by rw[zzI,hp];rfl)
  . rcases List.mem_or_eq_of_mem_set mq with mq|rfl
    . exact hD q mq
    . exact FS hP<|Fd hR m4
end
def Jf(T:TZ):(EG T).frz = .lf true (zv T):=by
 show O.lf (O.strs _) (.lst _)=_;rw[(X3 T).1,(X3 T).2]
def Br(Ds:DZ):(O.nd .ls<|Ds.map wg).frz = .lf true (.lst<|Ds.map zK):=by
 show O.lf (O.strs _) (.lst _)=_;rw[(X2 Ds).1,(X2 Ds).2]
def Fh{n m:Nat}{J:TZ}{e c:Int}{Ds:DZ}{S:SS}(A:Alg n m J e Ds):∃J' e' Ds',Alg n m J' e' Ds'/\RE (Yz [(true,zm n m J e Ds S),(true,.int c)]) (zm n m J' e' Ds' S):=by
 have n8:=A.n8;have m6:=A.m6;have dl:=A.dl;obtain⟨xs,xl,hx,ws⟩:=IV (as:=[sT<|zm n m J e Ds S,sI c,sI n,sI m,sT<|zv J,sI e,sT<|.lst<|Ds.map zK,sT<|.lst<|S.map ye,none,none,none,none,none]) (a:=fV 1) (m:=8) (by trivial) (WD.e<|za rfl)<|WD.e zb;obtain⟨x0,_,a0⟩:=Yj xl 0 (by trivial);obtain⟨e',he,s1⟩:=tV (a6:=sT<|.lst<|Ds.map zK) xl A.n1 ⟨A.e0,A.en⟩;obtain⟨J',hJ,s2⟩:=tN xl A.n1 A.j;obtain⟨Ds',hn,hD,s3⟩:=uW xl A.n1 A.m1 A.ds;have hlen:Ds'.length=Ds.length:=by rw[<-zzB,hn,zzB]
 refine⟨J',e',Ds',⟨A.n1,n8,A.m1,m6,hJ,he.1,he.2,by trivial,hD,by rw[hn];exact A.nd⟩, ?_⟩;have c9:=y8 (i:=9) (SQ (f:=fV 4) (as:=[sT<|zm n m J e Ds S,sI c,sI n,sI m,sT<|zv J,sI e,sT<|.lst<|Ds.map zK,sT<|.lst<|S.map ye,sT<|zc xs,none,none,none,none]) (by rw[A.j.1];trivial)<|WD.e<|za rfl)<|zo rfl;have c10:=y8 (i:=10) (Yd (cap:=[none,none]) (Pq (f:=fV 6) (as:=[sT<|zm n m J e Ds S,sI c,sI n,sI m,sT<|zv J,sI e,sT<|.lst<|Ds.map zK,sT<|.lst<|S.map ye,sT<|zc xs,some<|EG J,none,none,none])<|WD.e<|za rfl) (by rw[zzB,zzB];exact Gk<|by trivial)<|Pi Ds λp mp=>by rw[(A.ds p mp).1];trivial)<|zo rfl;refine yk rfl<|zd (TQ (WD.e<|za rfl) rfl)<|zd (yQ ws<|zo rfl)<|zd c9<|zd c10<|zd (yf (yb (zj (za rfl) zb a0 rfl) zb<|by decide)<|zo rfl)<|zd s1<|zd s2<|zd s3 ?_;have q:=yG (as:=BF n m (sT<|zm n m J e Ds S) (sI c) (sT<|zv J) (sT<|.lst<|Ds.map zK) (sT<|.lst<|S.map ye) xs (x0%6) e' J' Ds') (a:=fV 2) (za rfl)<|yG (a:=fV 3) (za rfl)<|QK (j:=9) rfl<|yG (a:=fV 5) (za rfl)<|QK (j:=10) (fr:=dC yR dN) rfl<|yG (za rfl) rfl;rw[Jf,Br]at q;exact⟨_,XS (RI q<|wX rfl) rfl,rfl,rfl⟩
def Zg{n:Nat}{J:TZ}{w v:Int}(hJ:Tab n n J)(hw:zQ n w)(hv:zQ n v):zQ n (yE J w v):=(rowAt (wK hJ hw).2 hv).2
def xy{a b c:EF}{as:AS}{n:Nat}{J:TZ}{w v:Int}(hJ:Tab n n J)(hw:zQ n w)(hv:zQ n v)(ha:WD a as true (zv J))(hb:WD b as true (.int w))(hc:WD c as true (.int v)):WD (f2 (f2 a b zk) c zk) as true (.int<|yE J w v):=
 zj (zE ha hb (wK hJ hw).1) hc (rowAt (wK hJ hw).2 hv).1 rfl
def XE{a b c:EF}{as:AS}{m n:Nat}{T:TZ}{w v:Int}(hT:Tab m n T)(hw:zQ m w)(hv:zQ n v)(ha:WD a as true (zv T))(hb:WD b as true (.int w))(hc:WD c as true (.int v)):WD (f2 (f2 a b zk) c zk) as true (.int<|yE T w v)/\zQ n (yE T w v):=
 ⟨zj (zE ha hb (wK hT hw).1) hc (rowAt (wK hT hw).2 hv).1 rfl,(rowAt (wK hT hw).2 hv).2⟩
def vY{v n:Nat}{g:GF}{f:SF}{as:AS}{s:Bool}(h:as[v]? = some (some<|.lf s<|.int n))(hn:n<=1000):yK (zY (aC (fV v) aN) z_) g f as=forL g f (xk 0 n) as:=
 yF (yU (ze (za h) zq) (by trivial)<|by trivial) (by rw[zyI])
def QJ{a b:EF}{as:AS}{x y:Int}{s t:Bool}(ha:WD a as s (.int x))(hb:WD b as t (.int y)):WT (fT<|f2 a b<|zt .NotEq) as (!(x==y)):=zJ (Ur ha hb rfl) rfl
abbrev FT:=Option<|List D
def oD:FT->D
 |none=>.non
 |some ds=>.tup ds
def fs(n:Nat)(t:Int->FT):FT:=(List.range n).findSome? λi:Nat=>t (i:Int)
abbrev R4(r:Option Out)(I:AS->Prop)(t:FT):Prop:=(t=none/\∃as',r=some (.nx as')/\I as')\/∃ds,t=some ds/\Rt r (.tup ds)
def IX{g:GF}{f:SF}{d:ZV}{r:List ZV}{as as1:AS}{x:D}(h1:g d as=some as1)(h2:Rt (f as1) x):Rt (forL g f (d::r) as) x:=by
 obtain⟨o,e1,e2⟩:=h2;exact⟨o,N_ h1 e1,e2⟩
theorem rO{α:Type}{g:GF}{f:SF}{it:α->ZV}(I:AS->Prop)(t:α->FT):∀(l:List α),(∀x ∈ l,∀as,I as->∃as1,g (it x) as=some as1/\R4 (f as1) I (t x))->∀as,I as->R4 (forL g f (l.map it) as) I (l.findSome? t)
 | [],_,as,h=>.inl ⟨rfl,as,rfl,h⟩
 |x::l,H,as,h=>by
  obtain⟨as1,h1,h2⟩:=H x zzF as h
  rcases h2 with⟨e,as2,h2,h3⟩|⟨ds,e,h2⟩
  . have k:=rO I t l (λy my=>H y<|zzD _ my) as2 h3;rw[List.findSome?_cons,e]
    rcases k with⟨e',as3,k1,k2⟩|⟨ds,e',o,k1,k2⟩
    . exact .inl ⟨e',as3,xN h1 h2 k1,k2⟩
    . exact .inr ⟨ds,e',o,xN h1 h2 k1,k2⟩
  . rw[List.findSome?_cons,e];exact .inr ⟨ds,rfl,IX h1 h2⟩
def Wf{v n:Nat}{f:SF}(I:AS->Prop)(t:Int->FT)(H:∀b,zQ n b->∀as,I as->∃as1,gN v (true,.int b) as=some as1/\R4 (f as1) I (t b)){as:AS}(h:I as):R4 (forL (gN v) f (xk 0 n) as) I (fs n t):=by
 refine rO I (λi:Nat=>t i) (List.range n) (λi mi as hI=>?_) as h;have:=List.mem_range.mp mi;rw[Int.zero_add];exact H i ⟨by omega,by omega⟩ as hI
def Oj{c:TF}{f:EF}{as:AS}{q:Bool}{ds:List D}{I:AS->Prop}(ht:WT c as q)(hf:WE f as (.tup ds))(hI:I as):R4 (xB c (zV f) xQ as) I (if q=true then some ds else none):=by
 cases q with
 |true=>exact .inr ⟨ds,rfl,xT ht<|yg hf⟩
 |false=>exact .inl ⟨rfl,as,zU ht rfl,hI⟩
def R4.seq{f g:SF}{as as1:AS}{I:AS->Prop}{t:FT}(h:f as=some (.nx as1))(k:R4 (g as1) I t):R4 (zp f g as) I t:=by
 rcases k with⟨e,a,b,c⟩|⟨ds,e,b⟩
 . exact .inl ⟨e,a,zW h b,c⟩
 . exact .inr ⟨ds,e,zd h b⟩
theorem R4.imp{r:Option Out}{I I':AS->Prop}{t:FT}(h:R4 r I t)(k:∀as,I as->I' as):R4 r I' t:=Or.imp (λ⟨e,a,b,c⟩=>⟨e,a,b,k a c⟩) id h
def R4.rt{f g:SF}{as:AS}{I:AS->Prop}{t t':FT}(h:R4 (f as) I t)(k:∀as',I as'->Rt (g as') (oD t')):Rt (zp f g as) (oD<|t.or t'):=by
 rcases h with⟨rfl,as',h1,h2⟩|⟨ds,rfl,h1⟩
 . exact zd h1<|k as' h2
 . exact xa h1
def or_none{t:FT}:t.or none=t:=by cases t<;>rfl
def Mx{n:Nat}{t t':Int->FT}(h:∀b,zQ n b->t b=t' b):fs n t=fs n t':=by
 unfold fs;have:∀l:List Nat,(∀i ∈ l,i<n)->l.findSome? (λi:Nat=>t i)=l.findSome? λi:Nat=>t' i:=λl=>by
  induction l with
  |nil=>exact λ_=>rfl
  |cons i l ih=>
   intro hl;have:=hl i zzF;rw[List.findSome?_cons,List.findSome?_cons,h i ⟨by omega,by omega⟩,ih λj mj=>hl j<|zzD _ mj]
 exact this _ λi mi=>List.mem_range.mp mi
theorem EL{m:Nat}(m1:1<=m)(t:Int->Int->FT):∀n:Nat,fs (n*m) (λp=>t (p/m)<|p%m)=fs n λa=>fs m λi=>t a i
 |0=>by rw[Nat.zero_mul];unfold fs;rfl
 |n+1=>by
  have ih:=EL m1 t n;unfold fs at ih ⊢;rw[Nat.succ_mul,List.range_add,List.findSome?_append,ih,List.range_succ,List.findSome?_append]
  congr 1
  rw[List.findSome?_map];have e:∀l:List Nat,(∀j ∈ l,j<m)->l.findSome? ((λp:Nat=>t (p/m)<|p%m)∘λx=>n*m+x)=l.findSome? λi:Nat=>t n i:=λl=>by
   induction l with
   |nil=>exact λ_=>rfl
   |cons j l ih=>
    intro hl;have hj:=hl j zzF;have e1:(((n*m+j:Nat):Int))/m=n:=by
     rw[<-Int.natCast_ediv,Nat.mul_comm,Nat.mul_add_div (by omega),Nat.div_eq_of_lt hj,Nat.add_zero]
    have e2:(((n*m+j:Nat):Int))%m=j:=by
     rw[<-Int.natCast_emod,Nat.mul_comm,Nat.mul_add_mod,Nat.mod_eq_of_lt hj]
    rw[List.findSome?_cons,List.findSome?_cons,ih λi mi=>hl i<|zzD _ mi];have e3:((λp:Nat=>t ((p:Int)/m)<|(p:Int)%m)∘λx=>n*m+x) j=t (n:Int) (j:Int):=by
     show t _ _=_;rw[e1,e2]
    rw[e3]
  rw[e _ λj mj=>List.mem_range.mp mj];simp only[List.findSome?_cons,List.findSome?_nil];cases(List.range m).findSome? λi:Nat=>t n i<;>rfl
section
variable{S:Option O->Option O->Option O->AS}{vj vn ve:Nat}{J T:TZ}{n m:Nat}{e:Int}{Ds:DZ}{SS':SS}
def tU(n:Nat)(J:TZ)(e:Int):FT:=fs n λa=>if(!(yE J e a==a) || !(yE J a e==a))=true then some [.str "nothing",.int a]else none
def tA(n:Nat)(J:TZ):FT:=fs n λa=>fs n λb=>fs n λc=>if(!(yE J (yE J a b) c==yE J a (yE J b c)))=true then some [.str "parting",.int a,.int b,.int c]else none
def tD(n m:Nat)(J T:TZ)(s:Str):FT:=fs n λa=>fs m λi=>fs n λb=>fs m λk=>if(!(yE T ((i+k)%m) (yE J a b)==yE J (yE T i a) (yE T k b)))=true then some [.str "doing",.str s,.int a,.int i,.int b,.int k]else none
def SL{x y z:Option O}(hJ:Tab n n J)(he:zQ n e)(hj:∀x y z,(S x y z)[vj]? = some (sT<|zv J))(hv:∀x y z,(S x y z)[ve]? = some (sI e))(h3:∀x y z,(S x y z)[3]? = some x)(g3:∀d x y z,gN 3 (true,d) (S x y z)=some (S (sT d) y z)):
 R4 (forL (gN 3) (xB (vA (fT<|f2 (f2 (f2 (fV vj) (fV ve) zk) zC zk) zC<|zt .NotEq)<|fT<|f2 (f2 (f2 (fV vj) zC zk) (fV ve) zk) zC<|zt .NotEq) (zV<|yh<|dC (fC<|.str "nothing")<|dC zC dN) xQ) (xk 0 n)<|S x y z) (λas=>∃x,as=S x y z) (tU n J e):=by
 refine Wf (λas=>∃x,as=S x y z) _ (λa ha as hI=>?_) ⟨x,rfl⟩;obtain⟨x,rfl⟩:=hI;have w3:WD zC (S (sI a) y z) true (.int a):=za<|h3 _ _ _;have t1:=QJ (xy hJ he ha (za<|hj (sI a) y z) (za<|hv (sI a) y z) w3) w3;have t2:=QJ (xy hJ ha he (za<|hj (sI a) y z) w3<|za<|hv (sI a) y z) w3;exact⟨S (sI a) y z,g3 _ _ _ _,Oj (Vn t1 (λh=>by rw[h,Bool.false_or];exact t2) λh=>by rw[h];rfl) (Vf (zh zb<|zh w3 zR) (wX rfl) rfl rfl) ⟨_,rfl⟩⟩
abbrev qx(vj:Nat):SF:=xB (fT<|f2 (f2 (f2 (fV vj) (f2 (f2 (fV vj) zC zk) zZ zk) zk) yP zk) (f2 (f2 (fV vj) zC zk) (f2 (f2 (fV vj) zZ zk) yP zk) zk)<|zt .NotEq) (zV<|yh<|dC (fC<|.str "parting")<|dC zC<|dC zZ<|dC yP dN) xQ
abbrev uJ(vj vn:Nat):SF:=yK (zY (aC (fV vn) aN) z_) wO<|yK (zY (aC (fV vn) aN) z_) (gN 5)<|qx vj
def Xk{x y z:Option O}(n8:n<=8)(hJ:Tab n n J)(hj:∀x y z,(S x y z)[vj]? = some (sT<|zv J))(hn:∀x y z,(S x y z)[vn]? = some (sI n))(h3:∀x y z,(S x y z)[3]? = some x)(h4:∀x y z,(S x y z)[4]? = some y)(h5:∀x y z,(S x y z)[5]? = some z)
 (g3:∀d x y z,gN 3 (true,d) (S x y z)=some (S (sT d) y z)) (g4:∀d x y z,gN 4 (true,d) (S x y z)=some (S x (sT d) z)) (g5:∀d x y z,gN 5 (true,d) (S x y z)=some (S x y<|sT d)):
 R4 (forL (gN 3) (uJ vj vn) (xk 0 n)<|S x y z) (λas=>∃x y z,as=S x y z) (tA n J):=by
 refine Wf (λas=>∃x y z,as=S x y z) _ (λa ha as hI=>?_) ⟨x,y,z,rfl⟩;obtain⟨x,y,z,rfl⟩:=hI;refine⟨_,g3 _ _ _ _, ?_⟩;unfold uJ;rw[vY (hn _ _ _)<|by trivial];refine(Wf (λas=>∃y z,as=S (sI a) y z) _ (λb hb as hI=>?_) ⟨y,z,rfl⟩).imp λas ⟨y,z,e⟩=>⟨_,y,z,e⟩;obtain⟨y,z,rfl⟩:=hI;refine⟨_,g4 _ _ _ _, ?_⟩;rw[vY (hn _ _ _)<|by trivial];refine(Wf (λas=>∃z,as=S (sI a) (sI b) z) _ (λc hc as hI=>?_) ⟨z,rfl⟩).imp λas ⟨z,e⟩=>⟨_,z,e⟩;obtain⟨z,rfl⟩:=hI;have w3:WD zC (S (sI a) (sI b)<|sI c) true (.int a):=za<|h3 _ _ _;have w4:WD zZ (S (sI a) (sI b)<|sI c) true (.int b):=za<|h4 _ _ _;have w5:WD yP (S (sI a) (sI b)<|sI c) true (.int c):=za<|h5 _ _ _;have wj:WD (fV vj) (S (sI a) (sI b)<|sI c) true (zv J):=za<|hj _ _ _;have ab:=Zg hJ ha hb;have bc:=Zg hJ hb hc;exact⟨_,g5 _ _ _ _,Oj (QJ (xy hJ ab hc wj (xy hJ ha hb wj w3 w4) w5)<|xy hJ ha bc wj w3<|xy hJ hb hc wj w4 w5) (Vf (zh zb<|zh w3<|zh w4<|zh w5 zR) (wX rfl) rfl rfl) ⟨_,rfl⟩⟩
end
section
variable{n m:Nat}{J T:TZ}{e:Int}{Ds:DZ}{S:SS}
def PH(n8:n<=8)(hJ:Tab n n J)(he:zQ n e):RE (ZO [(true,.int n),(true,zv J),(true,.int e)]) (oD<|(tU n J e).or<|tA n J):=by
 have k1:=SL (S:=λx y z=>[sI n,sT<|zv J,sI e,x,y,z]) (x:=none) (y:=none) (z:=none) (vj:=1) (ve:=2) hJ he (λ_ _ _=>rfl) (λ_ _ _=>rfl) (λ_ _ _=>rfl) λ_ _ _ _=>rfl;rw[<-vY (v:=0) rfl (by trivial)]at k1;refine yk rfl<|k1.rt λas' hI=>?_;obtain⟨x,rfl⟩:=hI;have k2:=Xk (S:=λx y z=>[sI n,sT<|zv J,sI e,x,y,z]) (x:=x) (y:=none) (z:=none) (vj:=1) (vn:=0) n8 hJ (λ_ _ _=>rfl) (λ_ _ _=>rfl) (λ_ _ _=>rfl) (λ_ _ _=>rfl) (λ_ _ _=>rfl) (λ_ _ _ _=>rfl) (λ_ _ _ _=>rfl) λ_ _ _ _=>rfl;rw[<-vY (v:=0) rfl (by trivial)]at k2;rw[<-or_none (t:=tA n J)];exact k2.rt λ_ _=>yg<|WD.e zb
def M4(n8:n<=8)(hJ:Tab n n J)(he:zQ n e):RE (vH [(true,zm n m J e Ds S)]) (oD<|tU n J e):=by
 have s1:zz true 1 (f2 zg yq zk) [sT<|zm n m J e Ds S,none,none,none]=some (.nx [sT<|zm n m J e Ds S,sT<|zv J,none,none]):=yf (zE (za rfl) zb rfl)<|zo rfl;have s2:zz true 2 (f2 zg xr zk) [sT<|zm n m J e Ds S,sT<|zv J,none,none]=some (.nx [sT<|zm n m J e Ds S,sT<|zv J,sI e,none]):=yf (zE (za rfl) zb rfl)<|zo rfl;have k:=SL (S:=λx _ _=>[sT<|zm n m J e Ds S,sT<|zv J,sI e,x]) (x:=none) (y:=none) (z:=none) (vj:=1) (ve:=2) hJ he (λ_ _ _=>rfl) (λ_ _ _=>rfl) (λ_ _ _=>rfl) λ_ _ _ _=>rfl;have hr:=yU (as:=[sT<|zm n m J e Ds S,sT<|zv J,sI e,none]) (ze (zE (g:=zk) (za (i:=0) rfl) (zb (x:=.int 0)) rfl) zq) (by trivial) (by trivial);rw[zyI]at hr;refine yk rfl<|zd s1<|zd s2 ?_;rw[<-or_none (t:=tU n J e)];refine R4.rt (I:=λas=>∃x,as=[sT<|zm n m J e Ds S,sT<|zv J,sI e,x]) ?_ λ_ _=>yg<|WD.e zb;rw[yF hr rfl];exact k
def MO(n8:n<=8)(hJ:Tab n n J):RE (vG [(true,zm n m J e Ds S)]) (oD<|tA n J):=by
 have s1:zz true 1 (f2 zg zL zk) [sT<|zm n m J e Ds S,none,none,none,none,none]=some (.nx [sT<|zm n m J e Ds S,sI n,none,none,none,none]):=yf (zE (za rfl) zb rfl)<|zo rfl;have s2:zz true 2 (f2 zg yq zk) [sT<|zm n m J e Ds S,sI n,none,none,none,none]=some (.nx [sT<|zm n m J e Ds S,sI n,sT<|zv J,none,none,none]):=yf (zE (za rfl) zb rfl)<|zo rfl;have k:=Xk (S:=λx y z=>[sT<|zm n m J e Ds S,sI n,sT<|zv J,x,y,z]) (x:=none) (y:=none) (z:=none) (vj:=2) (vn:=1) n8 hJ (λ_ _ _=>rfl) (λ_ _ _=>rfl) (λ_ _ _=>rfl) (λ_ _ _=>rfl) (λ_ _ _=>rfl) (λ_ _ _ _=>rfl) (λ_ _ _ _=>rfl) λ_ _ _ _=>rfl;rw[<-vY (v:=1) rfl (by trivial)]at k;refine yk rfl<|zd s1<|zd s2 ?_;rw[<-or_none (t:=tA n J)];exact k.rt λ_ _=>yg<|WD.e zb
end
section
variable{n m:Nat}{J T:TZ}{e:Int}{Ds:DZ}{S:SS}
abbrev pA:SF:=(xB (fT<|f2 (f2 (f2 zu (f2 (f2 yR (fV 9) zA) zZ zy) zk) (f2 (f2 yP y9 zk) (fV 8) zk) zk) (f2 (f2 yP (f2 (f2 zu yR zk) y9 zk) zk) (f2 (f2 zu (fV 9) zk) (fV 8) zk) zk)<|zt .NotEq) (zV<|yh<|dC (fC<|.str "doing")<|dC zi<|dC y9<|dC yR<|dC (fV 8)<|dC (fV 9) dN) xQ)
abbrev Nh(n m:Nat)(J T:TZ)(e:Int)(Ds:DZ)(S:SS)(s:Str)(x y z w:Option O):AS:=[sT<|zm n m J e Ds S,sT<|.str s,sT<|zv T,sI n,sI m,sT<|zv J,x,y,z,w]
def oO{s:Str}{a i b k:Int}(hJ:Tab n n J)(hT:Tab m n T)(m1:1<=m)(ha:zQ n a)(hi:zQ m i)(hb:zQ n b)(hk:zQ m k):R4 (pA<|Nh n m J T e Ds S s (sI a) (sI i) (sI b)<|sI k) (λas=>∃w,as=Nh n m J T e Ds S s (sI a) (sI i) (sI b) w) (if(!(yE T ((i+k)%m) (yE J a b)==yE J (yE T i a) (yE T k b)))=true then some [.str "doing",.str s,.int a,.int i,.int b,.int k]else none):=by
 have w2:WD zu (Nh n m J T e Ds S s (sI a) (sI i) (sI b)<|sI k) true (zv T):=za rfl;have w5:WD yP (Nh n m J T e Ds S s (sI a) (sI i) (sI b)<|sI k) true (zv J):=za rfl;have w6:WD y9 (Nh n m J T e Ds S s (sI a) (sI i) (sI b)<|sI k) true (.int a):=za rfl;have w7:WD yR (Nh n m J T e Ds S s (sI a) (sI i) (sI b)<|sI k) true (.int i):=za rfl;have w8:WD (fV 8) (Nh n m J T e Ds S s (sI a) (sI i) (sI b)<|sI k) true (.int b):=za rfl;have w9:WD (fV 9) (Nh n m J T e Ds S s (sI a) (sI i) (sI b)<|sI k) true (.int k):=za rfl;obtain⟨q1,q2⟩:=XE hT hi ha w2 w7 w6;obtain⟨q3,q4⟩:=XE hT hk hb w2 w9 w8;obtain⟨q5,q6⟩:=XE hT (EO m1) (Zg hJ ha hb) w2 (yb (yD w7 w9) (za (i:=4) rfl)<|by trivial)<|xy hJ ha hb w5 w6 w8;exact Oj (QJ q5<|xy hJ q2 q4 w5 q1 q3) (Vf (zh zb<|zh (za rfl)<|zh w6<|zh w7<|zh w8<|zh w9 zR) (wX rfl) rfl rfl) ⟨_,rfl⟩
def Hl{s:Str}(n8:n<=8)(m1:1<=m)(m6:m<=6)(hJ:Tab n n J)(hT:Tab m n T):RE (vp [(true,zm n m J e Ds S),(true,.str s),(true,zv T)]) (oD<|tD n m J T s):=by
 have k:R4 (forL (gN 6) (yK (zY (aC zZ aN) z_) (gN 7)<|yK (zY Xg z_) (gN 8)<|yK (zY (aC zZ aN) z_) (gN 9) pA) (xk 0 n)<|Nh n m J T e Ds S s none none none none) (λas=>∃x y z w,as=Nh n m J T e Ds S s x y z w) (tD n m J T s):=by
  refine Wf (λas=>∃x y z w,as=Nh n m J T e Ds S s x y z w) _ (λa ha as hI=>?_) ⟨_,_,_,_,rfl⟩;obtain⟨x,y,z,w,rfl⟩:=hI;refine⟨Nh n m J T e Ds S s (sI a) y z w,rfl, ?_⟩;rw[vY rfl<|by trivial];refine(Wf (λas=>∃y z w,as=Nh n m J T e Ds S s (sI a) y z w) _ (λi hi as hI=>?_) ⟨_,_,_,rfl⟩).imp λas ⟨y,z,w,e⟩=>⟨_,y,z,w,e⟩;obtain⟨y,z,w,rfl⟩:=hI;refine⟨Nh n m J T e Ds S s (sI a) (sI i) z w,rfl, ?_⟩;rw[vY rfl<|by trivial];refine(Wf (λas=>∃z w,as=Nh n m J T e Ds S s (sI a) (sI i) z w) _ (λb hb as hI=>?_) ⟨_,_,rfl⟩).imp λas ⟨z,w,e⟩=>⟨_,z,w,e⟩;obtain⟨z,w,rfl⟩:=hI;refine⟨Nh n m J T e Ds S s (sI a) (sI i) (sI b) w,rfl, ?_⟩;rw[vY rfl<|by trivial];refine(Wf (λas=>∃w,as=Nh n m J T e Ds S s (sI a) (sI i) (sI b) w) _ (λk hk as hI=>?_) ⟨_,rfl⟩).imp λas ⟨w,e⟩=>⟨_,w,e⟩;obtain⟨w,rfl⟩:=hI;exact⟨_,rfl,oO hJ hT m1 ha hi hb hk⟩
 rw[<-vY (v:=3) rfl (by trivial)]at k;have s3:zz true 3 (f2 zg zL zk) [sT<|zm n m J e Ds S,sT<|.str s,sT<|zv T,none,none,none,none,none,none,none]=some (.nx [sT<|zm n m J e Ds S,sT<|.str s,sT<|zv T,sI n,none,none,none,none,none,none]):=yf (zE (za rfl) zb rfl)<|zo rfl;have s4:zz true 4 (f2 zg zH zk) [sT<|zm n m J e Ds S,sT<|.str s,sT<|zv T,sI n,none,none,none,none,none,none]=some (.nx [sT<|zm n m J e Ds S,sT<|.str s,sT<|zv T,sI n,sI m,none,none,none,none,none]):=yf (zE (za rfl) zb rfl)<|zo rfl;have s5:zz true 5 (f2 zg yq zk) [sT<|zm n m J e Ds S,sT<|.str s,sT<|zv T,sI n,sI m,none,none,none,none,none]=some (.nx<|Nh n m J T e Ds S s none none none none):=yf (zE (za rfl) zb rfl)<|zo rfl;refine yk rfl<|zd s3<|zd s4<|zd s5 ?_;rw[<-or_none (t:=tD n m J T s)];exact k.rt λ_ _=>yg<|WD.e zb
abbrev SE(n m:Nat)(J T:TZ)(s:Str)(p q a i b k v:Option O):AS:=[sI n,sI m,sT<|zv J,sT<|.str s,sT<|zv T,p,q,a,i,b,k,v]
abbrev ldI:SF:=(zp (Zo (fP (aC yP yW) LC)<|gT 2<|yd (gN 7)<|yd (gN 8) xG)
 (zp (Zo (fP (aC y9 yW) LC)<|gT 2<|yd (gN 9)<|yd (gN 10) xG)
 (zp (zz true 11<|f2 (f2 zu (f2 (f2 zZ (fV 8) zk) yR zk) zk) (f2 (f2 zZ (fV 10) zk) (fV 9) zk) zk)
 (xB (fT<|f2 (f2 (f2 zZ (f2 (f2 (fV 8) (fV 10) zA) zi zy) zk) (f2 (f2 zu yR zk) (fV 9) zk) zk) yO<|zt .NotEq) (zV<|yh<|dC (fC<|.str "doing")<|dC zC<|dC yR<|dC (fV 8)<|dC (fV 9)<|dC (fV 10) dN) xQ))))
def Dp{a b:EF}{as:AS}{x y:Int}(ha:WD a as true (.int x))(hb:WD b as true (.int y))(h0:0<y)(h1:y<1000):WD (fP (aC a<|aC b aN) LC) as true (.tup [.int<|x/y,.int<|x%y]):=
 NC (ze ha<|ze hb zq) (by show(if 0<y/\y<1073741824 then _ else _)=_;rw[if_pos ⟨h0,by trivial⟩]) rfl
def sh{s:Str}{p q:Int}{a i b k v:Option O}(hJ:Tab n n J)(hT:Tab m n T)(m1:1<=m)(m6:m<=6)(hp:zQ (n*m) p)(hq:zQ (n*m) q):R4 (ldI<|SE n m J T s (sI p) (sI q) a i b k v) (λas=>∃y a i b k v,as=SE n m J T s (sI p) y a i b k v) (if(!(yE T ((p%m+q%m)%m) (yE J (p/m)<|q/m)==yE J (yE T (p%m)<|p/m) (yE T (q%m)<|q/m)))=true then some [.str "doing",.str s,.int<|p/m,.int<|p%m,.int<|q/m,.int<|q%m]else none):=by
 obtain⟨ha,hi⟩:=yp m1 hp;obtain⟨hb,hk⟩:=yp m1 hq;refine R4.seq (TQ (WD.e<|Dp (za rfl) (za rfl) (by trivial)<|by trivial) rfl) ?_;refine R4.seq (TQ (WD.e<|Dp (za rfl) (za rfl) (by trivial)<|by trivial) rfl) ?_;generalize p/m=a' at *;generalize p%m=i' at *;generalize q/m=b' at *;generalize q%m=k' at *;obtain⟨q1,q2⟩:=XE (as:=SE n m J T s (sI p) (sI q) (sI a') (sI i') (sI b') (sI k') v) hT hi ha (za (i:=4) rfl) (za (i:=8) rfl)<|za (i:=7) rfl;obtain⟨q3,q4⟩:=XE (as:=SE n m J T s (sI p) (sI q) (sI a') (sI i') (sI b') (sI k') v) hT hk hb (za (i:=4) rfl) (za (i:=10) rfl)<|za (i:=9) rfl;refine R4.seq (yf (xy hJ q2 q4 (za rfl) q1 q3)<|zo rfl) ?_;obtain⟨q5,_⟩:=XE (as:=SE n m J T s (sI p) (sI q) (sI a') (sI i') (sI b') (sI k')<|sI<|yE J (yE T i' a')<|yE T k' b') hT (EO m1) (Zg hJ ha hb) (za (i:=4) rfl) (yb (yD (za (i:=8) rfl)<|za (i:=10) rfl) (za (i:=1) rfl)<|by trivial)<|xy hJ ha hb (za (i:=2) rfl) (za (i:=7) rfl)<|za (i:=9) rfl;exact Oj (QJ q5<|za rfl) (Vf (zh zb<|zh (za rfl)<|zh (za rfl)<|zh (za rfl)<|zh (za rfl)<|zh (za rfl) zR) (wX rfl) rfl rfl) ⟨_,_,_,_,_,_,rfl⟩
def NH{g:GF}{f:SF}{as:AS}(h0:as[0]? = some (sI n))(h1:as[1]? = some (sI m))(n8:n<=8)(m6:m<=6):yK (zY (aC (f2 zg zi zF) aN) z_) g f as=forL g f (xk 0<|n*m) as:=by
 have nm:=Nat.mul_le_mul n8 m6;have w:=y6 (za h0) (za h1) (zP (by trivial)<|by trivial) (zP (by trivial)<|by trivial);rw[<-zzV]at w;exact yF (yU (ze w zq) (by trivial)<|by trivial) (by rw[zyI])
def KW{s:Str}(n8:n<=8)(m1:1<=m)(m6:m<=6)(hJ:Tab n n J)(hT:Tab m n T):RE (ZK [(true,.int n),(true,.int m),(true,zv J),(true,.str s),(true,zv T)]) (oD<|tD n m J T s):=by
 have k:R4 (forL (gN 5) (yK (zY (aC (f2 zg zi zF) aN) z_) (gN 6) ldI) (xk 0<|n*m)<|SE n m J T s none none none none none none none) (λas=>∃x y a i b k v,as=SE n m J T s x y a i b k v) (fs (n*m) λp=>fs (n*m) λq=>if(!(yE T ((p%m+q%m)%m) (yE J (p/m)<|q/m)==yE J (yE T (p%m)<|p/m) (yE T (q%m)<|q/m)))=true then some [.str "doing",.str s,.int<|p/m,.int<|p%m,.int<|q/m,.int<|q%m]else none):=by
  refine Wf (λas=>∃x y a i b k v,as=SE n m J T s x y a i b k v) _ (λp hp as hI=>?_) ⟨_,_,_,_,_,_,_,rfl⟩;obtain⟨x,y,a,i,b,k,v,rfl⟩:=hI;refine⟨SE n m J T s (sI p) y a i b k v,rfl, ?_⟩;rw[NH rfl rfl n8 m6];refine(Wf (λas=>∃y a i b k v,as=SE n m J T s (sI p) y a i b k v) _ (λq hq as hI=>?_) ⟨_,_,_,_,_,_,rfl⟩).imp λas ⟨y,a,i,b,k,v,e⟩=>⟨_,y,a,i,b,k,v,e⟩;obtain⟨y,a,i,b,k,v,rfl⟩:=hI;exact⟨SE n m J T s (sI p) (sI q) a i b k v,rfl,sh hJ hT m1 m6 hp hq⟩
 have e1:=EL m1 (λa i=>fs (n*m) λq=>if(!(yE T ((i+q%m)%m) (yE J a<|q/m)==yE J (yE T i a) (yE T (q%m)<|q/m)))=true then some [.str "doing",.str s,.int a,.int i,.int<|q/m,.int<|q%m]else none) n;rw[e1]at k;have e2:(fs n λa=>fs m λi=>fs (n*m) λq=>if(!(yE T ((i+q%m)%m) (yE J a<|q/m)==yE J (yE T i a) (yE T (q%m)<|q/m)))=true then some [.str "doing",.str s,.int a,.int i,.int<|q/m,.int<|q%m]else none)=tD n m J T s:=by
  unfold tD;refine Mx λa _=>Mx λi _=>?_;exact EL m1 (λb k=>if(!(yE T ((i+k)%m) (yE J a b)==yE J (yE T i a) (yE T k b)))=true then some [.str "doing",.str s,.int a,.int i,.int b,.int k]else none) n
 rw[e2]at k;rw[<-NH rfl rfl n8 m6]at k;refine yk rfl ?_;rw[<-or_none (t:=tD n m J T s)];exact k.rt λ_ _=>yg<|WD.e zb
end
section
variable{n m:Nat}{J T:TZ}{e:Int}{Ds:DZ}{S:SS}
def R4.thn{f g:SF}{as:AS}{I I':AS->Prop}{t t':FT}(h:R4 (f as) I t)(k:∀as',I as'->R4 (g as') I' t'):R4 (zp f g as) I' (t.or t'):=by
 rcases h with⟨rfl,as',h1,h2⟩|⟨ds,rfl,h1⟩
 . rcases k as' h2 with⟨e,a,b,c⟩|⟨ds,e,b⟩
   . exact .inl ⟨e,a,zW h1 b,c⟩
   . exact .inr ⟨ds,e,zd h1 b⟩
 . exact .inr ⟨ds,rfl,xa h1⟩
def tE(n m:Nat)(J:TZ)(e:Int)(p:Str×TZ):FT:=(if(!(yE p.2 0 e==e))=true then some [.str "empty",.str p.1]else none).or<|tD n m J p.2 p.1
def tW(n m:Nat)(J:TZ)(e:Int)(Ds:DZ):FT:=((tU n J e).or<|tA n J).or<|Ds.findSome?<|tE n m J e
def OA{t:FT}:zt .Is (oD t) .non=some (.im<|.bl t.isNone):=by cases t<;>rfl
def C4{t:FT}:zt .IsNot (oD t) .non=some (.im<|.bl t.isSome):=by cases t<;>rfl
def pZ{as:AS}{i:Nat}{t:FT}(h:as[i]? = some (sT<|oD t)):WT (fT<|f2 (fV i) (fC .non)<|zt .Is) as t.isNone:=zJ (zj (za h) (zb) OA rfl) rfl
def qg{as:AS}{i:Nat}{t:FT}(h:as[i]? = some (sT<|oD t)):WT (fT<|f2 (fV i) (fC .non)<|zt .IsNot) as t.isSome:=zJ (zj (za h) (zb) C4 rfl) rfl
def Os(A:Alg n m J e Ds):RE (YD [(true,zm n m J e Ds S)]) (oD<|Ds.findSome?<|tE n m J e):=by
 have n8:=A.n8;have m1:=A.m1;have s1:zz true 1 (f2 zg xr zk) [sT<|zm n m J e Ds S,none,none,none,none]=some (.nx [sT<|zm n m J e Ds S,sI e,none,none,none]):=yf (zE (za rfl) zb rfl)<|zo rfl;have k:=rO (g:=gT 2<|yd (gN 2)<|yd (gN 3) xG) (f:=(zp (xB (fT<|f2 (f2 (f2 zC zL zk) zi zk) zi<|zt .NotEq) (zV<|yh<|dC (fC<|.str "empty")<|dC zu dN) xQ)
  (zp (zz true 4<|zx (aC zg<|aC zu Xg) vp)
  (xB (fT<|f2 zZ (fC .non)<|zt .IsNot) (zV zZ) xQ)))) (it:=λp:Str×TZ=>(true,zK p)) (λas=>∃(x y z:Option O),as=[sT<|zm n m J e Ds S,sI e,x,y,z]) (tE n m J e) Ds (λp mp as hI=>by
   obtain⟨x,y,z,rfl⟩:=hI;have hT:=A.ds p mp;obtain⟨q1,_⟩:=XE (as:=[sT<|zm n m J e Ds S,sI e,sT<|.str p.1,sT<|zv p.2,z]) hT ⟨by trivial,by trivial⟩ ⟨A.e0,A.en⟩ (za (i:=3) rfl) (zb)<|za (i:=1) rfl;have t1:=QJ q1<|za (i:=1) rfl;refine⟨_,rfl, ?_⟩;refine(Oj t1 (Vf (zh zb<|zh (za rfl) zR) (wX rfl) rfl rfl) rfl).thn λas' hI=>?_;subst hI;refine R4.seq (yQ (vI (WD.e<|za rfl) (WD.e<|za rfl) (WD.e<|za rfl)<|Hl n8 m1 A.m6 A.j hT)<|zo rfl) ?_;have tt:=qg (as:=[sT<|zm n m J e Ds S,sI e,sT<|.str p.1,sT<|zv p.2,sT<|oD<|tD n m J p.2 p.1]) (i:=4) rfl;generalize tD n m J p.2 p.1=t at tt;cases t with
   |none=>exact .inl ⟨rfl,_,zU tt rfl,_,_,_,rfl⟩
   |some ds=>exact .inr ⟨ds,rfl,xT tt<|yg<|WD.e<|za rfl⟩) [sT<|zm n m J e Ds S,sI e,none,none,none] ⟨_,_,_,rfl⟩
 refine yk rfl<|zd s1 ?_;rw[<-or_none (t:=Ds.findSome?<|tE n m J e)];refine R4.rt (I:=λas=>∃(x y z:Option O),as=[sT<|zm n m J e Ds S,sI e,x,y,z]) ?_ λ_ _=>yg<|WD.e zb;have hi:=OI (as:=[sT<|zm n m J e Ds S,sI e,none,none,none]) (f:=f2 zg yV zk)<|zE (za rfl) zb rfl;rw[zyB]at hi;rw[yF hi rfl];exact k
def Cm(A:Alg n m J e Ds):RE (Yr [(true,zm n m J e Ds S)]) (oD<|tW n m J e Ds):=by
 have r1:=M4 (m:=m) (Ds:=Ds) (S:=S) A.n8 A.j ⟨A.e0,A.en⟩;have r2:=MO (m:=m) (e:=e) (Ds:=Ds) (S:=S) A.n8 A.j;have r3:=Os (S:=S) A;have s1:=yQ (as:=Yl 2 [(true,zm n m J e Ds S)]) (p:=1) (xm (WD.e<|za (i:=0) rfl) r1)<|zo rfl;have st:∀(t t':FT) g,RE (g [(true,zm n m J e Ds S)]) (oD t')->xB (fT<|f2 zi (fC .non)<|zt .Is) (zz true 1<|zx xq g) xQ [sT<|zm n m J e Ds S,sT<|oD t]=some (.nx [sT<|zm n m J e Ds S,sT<|oD<|t.or t']):=λt t' g hg=>by
  have tt:=pZ (as:=[sT<|zm n m J e Ds S,sT<|oD t]) (i:=1) rfl;cases t with
  |none=>exact wL tt (yQ (xm (WD.e<|za rfl) hg)<|zo rfl)
  |some ds=>exact zU tt rfl
 exact yk rfl<|zd s1<|zd (st _ _ _ r2)<|zd (st _ _ _ r3)<|yg<|WD.e<|za rfl
abbrev Jv(n m:Nat)(J:TZ)(e:Int)(Ds:DZ)(S:SS)(d:D)(x y:Option O):AS:=[sT<|zm n m J e Ds S,sI n,sI m,sT<|zv J,sI e,sT<|.lst<|Ds.map zK,sT<|.lst<|S.map ye,sT d,x,y]
abbrev oX:SF:=(zp (xB (YW (fT<|f2 yR (fC .non)<|zt .Is)<|fT<|f2 (f2 (f2 (fV 9) zL zk) zZ zk) zZ<|zt .NotEq) (zz true 7<|yh<|dC (fC<|.str "empty")<|dC (fV 8) dN) xQ)
 (xB (fT<|f2 yR (fC .non)<|zt .Is) (zz true 7<|zx (aC zi<|aC zu<|aC zC<|aC (fV 8)<|aC (fV 9) aN) ZK) xQ))
def Lj(A:Alg n m J e Ds):RE (ZC [(true,zm n m J e Ds S)]) (oD<|tW n m J e Ds):=by
 have n8:=A.n8;have m1:=A.m1;have he:zQ n e:=⟨A.e0,A.en⟩;have h0:=PH n8 A.j he;obtain⟨as',hf,x,y,rfl⟩:=yM (g:=gT 2<|yd (gN 8)<|yd (gN 9) xG) (f:=oX)
  (λi as=>∃(x y:Option O),as=Jv n m J e Ds S (oD<|((tU n J e).or<|tA n J).or<|(Ds.take i).findSome?<|tE n m J e) x y)
  ((Ds.map zK).map λd=>(true,d)) 0 (Jv n m J e Ds S (oD<|(tU n J e).or<|tA n J) none none) (λi x as hx' hI=>by
    obtain⟨x,y,rfl⟩:=hI;rw[zyB,zzI]at hx';obtain⟨p,hp,rfl⟩:=zzX.mp hx';have hT:=A.ds p<|zyA hp;have es:((tU n J e).or<|tA n J).or ((Ds.take<|0+i+1).findSome?<|tE n m J e)=(((tU n J e).or<|tA n J).or<|(Ds.take<|0+i).findSome?<|tE n m J e).or (tE n m J e p):=by
     have e2:List.findSome? (tE n m J e) (Option.toList<|some p)=tE n m J e p:=by
      rw[Option.toList_some,List.findSome?_cons,List.findSome?_nil];cases tE n m J e p<;>rfl
     generalize (tU n J e).or (tA n J)=X;rw[zyY,List.take_succ,hp,List.findSome?_append,e2,Option.or_assoc]
    rw[es];generalize ((tU n J e).or<|tA n J).or ((Ds.take<|0+i).findSome?<|tE n m J e)=t;refine⟨Jv n m J e Ds S (oD t) (sT<|.str p.1)<|sT<|zv p.2,rfl, ?_⟩;have tn:=pZ (as:=Jv n m J e Ds S (oD t) (sT<|.str p.1)<|sT<|zv p.2) (i:=7) rfl;cases t with
    |some ds=>exact⟨_,zW (zU (Zl tn (λh=>nomatch h) λ_=>rfl) rfl)<|zU tn rfl,_,_,rfl⟩
    |none=>
     obtain⟨q1,_⟩:=XE (as:=Jv n m J e Ds S (oD none) (sT<|.str p.1)<|sT<|zv p.2) hT ⟨by trivial,by trivial⟩ he (za (i:=9) rfl) (zb)<|za (i:=4) rfl;have t1:=QJ q1<|za (i:=4) rfl;have t2:=Zl tn (λ_=>t1) (λh=>nomatch h);have ed:tE n m J e p=(if(!(yE p.2 0 e==e))=true then some [.str "empty",.str p.1]else none).or (tD n m J p.2 p.1):=rfl;rw[show none.or (tE n m J e p)=tE n m J e p from rfl,ed];generalize (!(yE p.2 0 e==e))=q at t2;cases q with
     |true=>exact⟨_,zW (wL t2<|yQ (Vf (zh zb<|zh (za rfl) zR) (wX rfl) rfl rfl)<|zo rfl)<|zU (zJ (zj (za rfl) zb rfl rfl) rfl) rfl,_,_,rfl⟩
     |false=>exact⟨_,zW (zU t2 rfl)<|wL tn<|yQ (Nd (WD.e<|za rfl) (WD.e<|za rfl) (WD.e<|za rfl) (WD.e<|za rfl) (WD.e<|za rfl)<|KW n8 m1 A.m6 A.j hT)<|zo rfl,_,_,rfl⟩)
  ⟨none,none,by rw[List.take_zero,List.findSome?_nil,or_none]⟩
 rw[zzB,zzB,zyY,List.take_length]at hf;exact yk rfl<|zd (TQ (WD.e<|za rfl) rfl)<|zd (yQ (vI (WD.e<|za rfl) (WD.e<|za rfl) (WD.e<|za rfl) h0)<|zo rfl)<|zd (yF (OI<|za rfl) hf)<|yg<|WD.e<|za rfl
end
def LH{n m:Nat}{J:TZ}{e c:Int}{Ds:DZ}{S:SS}(A:Alg n m J e Ds):∃J' e' Ds',Alg n m J' e' Ds'/\RE (vK [(true,zm n m J e Ds S),(true,.int c)]) (zm n m J' e' Ds' S):=by
 have n1:=A.n1;have n8:=A.n8;have m6:=A.m6;have dl:=A.dl;have nn:=Nat.mul_le_mul n8 n8;have nm:n*m<=48:=Nat.mul_le_mul n8 m6;have nmd:=Nat.mul_le_mul nm dl;obtain⟨ds,d1,d2,d3⟩:=G7 (k:=1+n*n+n*m*Ds.length) n1 n8 (by omega);obtain⟨e',e1,e2⟩:=QL (k:=0) (by omega) (by omega) d2;obtain⟨J',j1,j2,j3⟩:=Po (as:=[sT<|zm n m J e Ds S,sI c,sI n,sI m,sT<|zv J,sI e,sT<|.lst<|Ds.map zK,sT<|.lst<|S.map ye,sT<|.lst<|ds.map D.int,none,none,none,none]) zc (fr:=aC zu aN) (cap:=[none,some 8,some 2]) (fe:=ZW zi (oS<|f2 zH (f2 zu zg zF) zA) (oS<|f2 (f2 zH (f2 zu zg zF) zA) zu zA) Qa) (ze (za rfl) zq) (by omega) λa a0 a1=>by
  have ha:n*a.toNat+n<=n*n:=by rw[<-Nat.mul_succ];exact Nat.mul_le_mul_left n (by omega)
  have ea:(a.toNat:Int)=a:=by omega
  have w:WD (f2 zH (f2 zu zg zF) zA) [sI a,sT<|.lst<|ds.map D.int,sI n] true (.int<|1+n*a):=yD zb (y6 (za rfl) (za rfl) (zP (by omega)<|by omega)<|zP (by omega)<|by omega);exact⟨_,_,rfl,uH (a:=1+n*a.toNat) (by omega) (za rfl) w (yD w<|za rfl) (by rw[Int.natCast_add,zzV,ea];rfl) (by rw[Int.natCast_add,Int.natCast_add,zzV,ea];rfl),E9 (by omega) d2 rfl⟩
 obtain⟨os,l,e11,e12,ho,hlm,hlen,hf⟩:=D4 (a4:=sT<|zv J) (a9:=sT<|zv J') n1 n8 m6 dl d1 d2;refine⟨J',e',l,⟨n1,n8,A.m1,m6,⟨j1,j2⟩,e2.1,e2.2,by omega,ho.al,by rw[hlm];exact A.nd⟩, ?_⟩;have ek:((1+n*n+n*m*Ds.length:Nat):Int)=1+n*n+n*m*((Ds.map zK).length:Int):=by rw[Int.natCast_add,Int.natCast_add,zzV,zzV,zzV,zzB];rfl
 have enm:=zzV n m;rw[ek]at d3;refine yk rfl<|zd (TQ (WD.e<|za rfl) rfl)<|zd (yQ (vI (WD.e<|za rfl) (WD.e<|za rfl) (WD.e<|yD (yD zb<|y6 (za rfl) (za rfl) (zP (by omega)<|by omega)<|zP (by omega)<|by omega)<|y6 (y6 (za rfl) (za rfl) (zP (by omega)<|by omega)<|zP (by omega)<|by omega) (xb (ze (za rfl) zq) rfl rfl) (by rw[<-enm];exact zP (by omega)<|by omega)<|zP (by rw[zzB];omega)<|by rw[zzB];omega) d3)<|zo rfl)<|zd (yQ j3<|zo rfl)<|zd (y8 (xS zR<|wX rfl)<|zo rfl)<|zd (yF (yU (ze (xb (ze (za rfl) zq) rfl rfl) zq) (by omega)<|by rw[zzB];omega)<|by rw[zzB];exact hf) ?_;have q:=yG (as:=Dl n m (sT<|zm n m J e Ds S) (sI c) (sT<|zv J) (sI e) (sT<|.lst<|S.map ye) (sT<|zv J') Ds ds (sN os) e11 e12) (a:=fV 2) (za rfl)<|yG (a:=fV 3) (za rfl)<|yG (a:=fV 9) (za rfl)<|yG (a:=f2 (fV 8) zL zk) (zj (za rfl) zb e1 rfl)<|QK (j:=10) (fr:=dC yR dN) rfl<|yG (za rfl) rfl;rw[ho.frz]at q;exact⟨_,XS (RI q<|wX rfl) rfl,rfl,rfl⟩
def Hj{ns:List Int}:∃n m J e Ds S,Alg n m J e Ds/\Sg n S/\RE (XX [(true,.lst<|ns.map .int)]) (zm n m J e Ds S):=by
 obtain⟨c,hc⟩:=ZJ (k:=2) (by omega);obtain⟨c0,hc0⟩:=ZJ (k:=0) (by omega);obtain⟨c1,hc1⟩:=ZJ (k:=1) (by omega);obtain⟨n,m,J,e,Ds,S,⟨A,_⟩,hSl,hA⟩:=Th (c':=c1);have s1:zz true 1 (zx (aC zg<|aC yq aN) yi) [sT<|.lst<|ns.map .int,none,none]=some (.nx [sT<|.lst<|ns.map .int,sI c,none]):=yf (yB (ze (za rfl)<|ze zb zq) hc)<|zo rfl;have s2:zz true 2 (zx (aC (zx (aC zg<|aC zL aN) yi)<|aC (zx (aC zg<|aC zH aN) yi) aN) xO) [sT<|.lst<|ns.map .int,sI c,none]=some (.nx [sT<|.lst<|ns.map .int,sI c,sT<|zm n m J e Ds S]):=
  yQ (wY (WD.e<|yB (ze (za rfl)<|ze zb zq) hc0) (WD.e<|yB (ze (za rfl)<|ze zb zq) hc1) hA) (zo rfl)
 by_cases h:c%2=1
 . obtain⟨J',e',Ds',A',h'⟩:=LH (S:=S) A;exact⟨n,m,J',e',Ds',S,A',hSl,yk rfl<|zd s1<|zd s2<|xa<|xT (zJ (yt (yb (za rfl) zb<|by decide) zb rfl) (by show some (c%2==1)=_;simp[h]))<|yg<|wY (WD.e<|za rfl) (WD.e<|wd (za rfl) zb (by decide)<|zP (by decide)<|by decide) h'⟩
 . obtain⟨J',e',Ds',A',h'⟩:=Fh (S:=S) A;exact⟨n,m,J',e',Ds',S,A',hSl,yk rfl<|zd s1<|zd s2<|zd (zU (zJ (yt (yb (za rfl) zb<|by decide) zb rfl) (by show some (c%2==1)=_;simp[h])) rfl)<|yg<|wY (WD.e<|za rfl) (WD.e<|wd (za rfl) zb (by decide)<|zP (by decide)<|by decide) h'⟩
def Zs{n:Nat}{t:Int->FT}(h:fs n t=none){b:Int}(hb:zQ n b):t b=none:=by
 unfold fs at h;have:=List.findSome?_eq_none_iff.mp h b.toNat (List.mem_range.mpr<|by have:=hb.1;have:=hb.2;omega);rw[show(b.toNat:Int)=b by have:=hb.1;omega]at this;exact this
def O1{t t':FT}(h:t.or t'=none):t=none/\t'=none:=by cases t with
 |none=>exact⟨rfl,h⟩
 |some d=>cases h
def FD{q:Bool}{ds:List D}(h:(if q=true then some ds else none)=none):q=false:=by cases q with
 |false=>rfl
 |true=>cases h
def Pk{a b:Int}(h:(!(a==b))=false):a=b:=by simpa using h
def SO{n m:Nat}{J:TZ}{e:Int}{Ds:DZ}(A:Alg n m J e Ds)(h:tW n m J e Ds=none):LawA n m J e Ds:=by
 obtain⟨h1,h3⟩:=O1 h;obtain⟨h1,h2⟩:=O1 h1;have un:∀a,zQ n a->yE J e a=a/\yE J a e=a:=λa ha=>by
  have:=FD<|Zs h1 ha;rw[Bool.or_eq_false_iff]at this;exact⟨Pk this.1,Pk this.2⟩
 have m0:zQ m 0:=⟨Int.le_refl _,by have:=A.m1;omega⟩;have cl:∀{k:Nat}{T:TZ}(c a:Int),Tab k n T->zQ k c->zQ n a->zQ n (yE T c a):=λc a hT hc ha=>(rowAt (wK hT hc).2 ha).2;have he:zQ n e:=⟨A.e0,A.en⟩;refine⟨⟨λa b ha hb=>cl a b A.j ha hb,he,λa ha=>(un a ha).1,λa ha=>(un a ha).2,λa b c ha hb hc=>Pk<|FD<|Zs (Zs (Zs h2 ha) hb) hc⟩,λp mp=>?_⟩;obtain⟨g1,g2⟩:=O1<|List.findSome?_eq_none_iff.mp h3 p mp;exact⟨λc a hc ha=>cl c a (A.ds p mp) hc ha,Pk<|FD g1,λa i b k ha hi hb hk=>Pk<|FD<|Zs (Zs (Zs (Zs g2 ha) hi) hb) hk⟩
def S7{n m:Nat}{J:TZ}{e:Int}{Ds:DZ}(A:Alg n m J e Ds)(L:LawA n m J e Ds):tW n m J e Ds=none:=by
 have fn:∀{k:Nat}{t:Int->FT},(∀b,zQ k b->t b=none)->fs k t=none:=λ{k t} H=>by
  unfold fs;exact List.findSome?_eq_none_iff.mpr λi mi=>H _ ⟨by omega,by have:=List.mem_range.mp mi;omega⟩
 have bn:∀{a b:Int},a=b->(!(a==b))=false:=λh=>by simp[h]
 have ino:∀{q:Bool}{ds:List D},q=false->(if q=true then some ds else none)=none:=λh=>by rw[h];rfl
 have h1:tU n J e=none:=fn λa ha=>ino (by rw[bn<|L.lj.ul a ha,bn<|L.lj.ur a ha];rfl);have h2:tA n J=none:=fn λa ha=>fn λb hb=>fn λc hc=>ino<|bn<|L.lj.as a b c ha hb hc;have h3:Ds.findSome? (tE n m J e)=none:=List.findSome?_eq_none_iff.mpr λp mp=>by
  have ld:=L.ld p mp;have g1:(if(!(yE p.2 0 e==e))=true then some [D.str "empty",D.str p.1]else none)=none:=ino<|bn ld.em;have g2:tD n m J p.2 p.1=none:=fn λa ha=>fn λi hi=>fn λb hb=>fn λk hk=>ino<|bn<|ld.dn a i b k ha hi hb hk;unfold tE;rw[g1,g2];rfl
 unfold tW;rw[h1,h2,h3];rfl
def Ot{n m:Nat}{J:TZ}{e:Int}{Ds:DZ}{S:SS}(A:Alg n m J e Ds)(L:LawA n m J e Ds):xo [(true,zm n m J e Ds S)]=sT .non:=by
 have w:=Cm (S:=S) A;rw[S7 A L]at w;have h:Zd (Yl 2 [(true,zm n m J e Ds S)])=some (.nx [sT<|zm n m J e Ds S,sT .non]):=zW (yQ (xm (WD.e<|za rfl) w)<|zo rfl)<|zU (zJ (zj (za rfl) zb rfl rfl) rfl) rfl;unfold xo wQ;rw[if_pos<|show[(true,zm n m J e Ds S)].length=1 from rfl,h];rfl
def CP{ns:List Int}:∃n m J e Ds S,Alg n m J e Ds/\LawA n m J e Ds/\Sg n S/\RE (Vg [(true,.lst<|ns.map .int)]) (zm n m J e Ds S):=by
 obtain⟨c,hc⟩:=ZJ (ns:=ns) (k:=2) (by omega);obtain⟨c0,hc0⟩:=ZJ (ns:=ns) (k:=0) (by omega);obtain⟨c1,hc1⟩:=ZJ (ns:=ns) (k:=1) (by omega);obtain⟨n,m,J,e,Ds,S,⟨A,L⟩,hS,hA⟩:=Th (c':=c1);obtain⟨n',m',J',e',Ds',S',A',hS',hA'⟩:=Hj;have s1:=yQ (p:=1) (as:=[sT<|.lst<|ns.map .int,none]) (xm (WD.e<|za (i:=0) rfl) hA')<|zo rfl;have ra:Rt (zV (zx (aC (zx (aC zg<|aC zL aN) yi)<|aC (zx (aC zg<|aC zH aN) yi) aN) xO) [sT<|.lst<|ns.map .int,sT<|zm n' m' J' e' Ds' S']) (zm n m J e Ds S):=yg<|wY (WD.e<|yB (ze (za rfl)<|ze zb zq) hc0) (WD.e<|yB (ze (za rfl)<|ze zb zq) hc1) hA;have t1:WT (fT<|f2 (f2 (zx (aC zg<|aC yq aN) yi) yq zy) zH<|zt .Eq) [sT<|.lst<|ns.map .int,sT<|zm n' m' J' e' Ds' S'] (c%2==1):=zJ (yt (yb (yB (ze (za rfl)<|ze zb zq) hc) zb<|by decide) zb rfl) rfl;have t2:WT (fT<|f2 (zx yW ZC) (fC .non)<|zt .Is) [sT<|.lst<|ns.map .int,sT<|zm n' m' J' e' Ds' S'] (tW n' m' J' e' Ds').isNone:=zJ (Sf (xm (WD.e<|za rfl)<|Lj A') (WD.e<|zb) OA) rfl
 by_cases h:(c%2==1)=true
 . cases hw:tW n' m' J' e' Ds' with
   |none=>
    rw[hw]at t2;exact⟨n',m',J',e',Ds',S',A',SO A' hw,hS',yk rfl<|zd s1<|xa<|xT (Zl t1 (λ_=>t2) λz=>by rw[h]at z;cases z)<|yg<|WD.e<|za rfl⟩
   |some d=>
    rw[hw]at t2;exact⟨n,m,J,e,Ds,S,A,L,hS,yk rfl<|zd s1<|zd (zU (Zl t1 (λ_=>t2) λ_=>rfl) rfl) ra⟩
 . exact⟨n,m,J,e,Ds,S,A,L,hS,yk rfl<|zd s1<|zd (zU (Zl t1 (λz=>absurd z h) λ_=>rfl) rfl) ra⟩
abbrev sL(x:Int):D:=.tup [.str "left",.int x]
abbrev sR(x:Int):D:=.tup [.str "right",.int x]
abbrev sD(s:Str)(c:Int):D:=.tup [.str "deed",.str s,.int c]
def xI{α:Type}{f:EF}{as:AS}{g:α->D}{l:List α}(h:WE f as (.lst<|l.map g)):yu f as=some (l.map λa=>(true,g a),as):=by
 have:=Pq h;rw[zyB]at this;exact this
def yj{n:Nat}{x:Int}(h:x ∈ zD n):zQ n x:=by
 obtain⟨i,hi,rfl⟩:=zxE.mp h;have:=List.mem_range.mp hi;exact⟨by omega,by omega⟩
def wy{n:Nat}{x:Int}(h:zQ n x):x ∈ zD n:=zxE.mpr ⟨x.toNat,List.mem_range.mpr (by have:=h.1;have:=h.2;omega),by have:=h.1;omega⟩
def wM{as:AS}{fr:AF}{n:Nat}{u:Bool}(h:WA fr as [(u,.int n)])(hn:n<=1000):zY fr z_ as=some ((zD n).map λx=>(true,D.int x),as):=by
 rw[yU h (by omega) (by omega),zyI,zyB];unfold xk;simp only[Int.zero_add];rfl
abbrev B6(q:D×List Int):D:=.tup [q.1,zc q.2]
def rM{a b:EF}{as:AS}{ds es:List D}(ha:WE a as (.lst ds))(hb:WE b as (.lst es))(hl:ds.length+es.length<=sizeLine):f2 a b zA as=some (.ow<|.nd .ls<|(ds++es).map<|O.lf true,as):=by
 obtain⟨o,h1,h2,h3⟩:=ha;obtain⟨p,k1,k2,k3⟩:=hb;have e1:RV.view as (.ow o.frz)=some (.lst ds,some true):=by
  show some (o.toD,some o.str)=_;rw[h2,h3]
 have e2:RV.view as (.ow p.frz)=some (.lst es,some true):=by
  show some (p.toD,some p.str)=_;rw[k2,k3]
 unfold f2;simp only[h1,k1,zyL,RV.frz,e1,e2];show((Vc .Add _ _).bind _)=_;rw[add_lists hl];show(if((ds++es).all yr||true)=true then some (RV.ow<|.nd .ls<|(ds++es).map<|MN true)else none:Option RV).bind _=_;rw[if_pos (by simp),X6];rfl
theorem Me:∀(a b:List O),O.toDs (a++b)=O.toDs a++O.toDs b
 | [],_=>rfl
 |x::a,b=>congrArg (x.toD :: ·)<|Me a b
theorem Mc:∀{a b:List O},O.strs a=true->O.strs b=true->O.strs (a++b)=true
 | [],_,_,h=>h
 |x::a,b,h,h'=>by
  have h:=(zyC _ _).mp<|h;show(x.str&&O.strs (a++b))=_;rw[h.1,Mc h.2 h'];rfl
def qG{α:Type}{toD:α->D}{Q:α->Prop}{as:AS}{fi:IF}{cap:List (Option Nat)}{g:GF}{fe:EF}{i:Nat}{os ps:List O}{l k:List α}{xs:List ZV}(h:as[i]? = some (sN os))(ho:Ows toD Q os l)(hi:fi as=some (xs,as))(hx:xs.length<=1000)(hc:xv g zN fe (vB cap as) xs=some ps)(hs:O.strs ps=true)(hd:O.toDs ps=k.map toD)(hk:∀a ∈ k,Q a)(hl:l.length+k.length<=1000):
 yI (xt i (dC (zr fi cap g zN fe) dN) BB) as=some (.nx<|as.set i<|sN<|os++ps)/\Ows toD Q (os++ps) (l++k):=by
 have hlp:ps.length=k.length:=by have:=congrArg List.length hd;rw[XD,zzB]at this;exact this
 refine⟨?_,Mc ho.st hs,by rw[Me,ho.ds,hd,zyM],λa m=>(zzM.mp m).elim (ho.al a)<|hk a,by rw[zzJ,zzJ,ho.ln,hlp]⟩;have e1:=Yd hi (Gk<|by omega) hc;unfold yI xt;rw[h];unfold dC;rw[e1];show((match as[i]? with|some (some<|.nd .ls os)=>(BB os _).bind λz=>some _|_=>none).bind _)=_;rw[h];show(((if os.length+ps.length<=sizeLine then some _ else none:Option _).bind _).bind _)=_;rw[if_pos<|Gk<|by rw[ho.ln,hlp];omega];rfl
section
variable{n m:Nat}{J:TZ}{e:Int}{Ds:DZ}{S:SS}{v:Int}
abbrev tR(T:TZ)(x:Int):List Int:=(T[x.toNat]?).getD []
abbrev col(J:TZ)(x:Int):List Int:=J.map λr=>zM r x
abbrev Fm(n m:Nat)(J:TZ)(Ds:DZ)(q:List Int):Prop:=(∃x,zQ n x/\(q=tR J x\/q=col J x))\/∃p ∈ Ds,∃c,zQ m c/\q=tR p.2 c
abbrev Gd(n m:Nat)(J:TZ)(Ds:DZ)(q:D×List Int):Prop:=Row n q.2/\Fm n m J Ds q.2
def qe{x:Int}(A:Alg n m J e Ds)(h:zQ n x):Row n (col J x):=by
 refine⟨by rw[zzB];exact A.j.1,λy my=>?_⟩;obtain⟨r,mr,rfl⟩:=zxE.mp my;exact(rowAt (A.j.2 r mr) h).2
abbrev oK:SF:=(yI<|xt 3 (dC (zr (M9 yP) [none,none,some 4] (gT 2<|yd zG<|yd (gN 1) xG) zN<|yh<|dC (yh<|dC (fC<|.str "deed")<|dC zu<|dC zg dN)<|dC zi dN) dN) BB)
theorem E6:∀(T:TZ) (k:Nat),Y7 true k (T.map zc)=((List.range' k T.length).zip T).map λq=>(true,D.tup [.int (q.1:Int),zc q.2])
 | [],_=>rfl
 |r::T,k=>by
  show _::Y7 true _ _=_;rw[E6 T<|k+1];rfl
def OY(A:Alg n m J e Ds){p:Str×TZ}(hp:p ∈ Ds){B C L:Option O}{os:List O}{l:List (D×List Int)}(ho:Ows B6 (Gd n m J Ds) os l)(hl:l.length+6<=1000):
 ∃ps k,oK [B,C,L,sN os,sT<|.str p.1,sT<|zv p.2]=some (.nx [B,C,L,sN<|os++ps,sT<|.str p.1,sT<|zv p.2])/\Ows B6 (Gd n m J Ds) (os++ps) (l++k)/\k.length=m/\∀c,zQ m c->(sD p.1 c,tR p.2 c) ∈ k:=by
 have hT:=A.ds p hp;have m6:=A.m6;have hz:∀q ∈ (List.range' 0 p.2.length).zip p.2,p.2[q.1]? = some q.2:=λq hq=>by
  obtain⟨i,hi⟩:=List.mem_iff_getElem?.mp hq;obtain⟨h1,h2⟩:=List.getElem?_zip_eq_some.mp hi;have:=(zzG.mp h1);obtain⟨h3,h4⟩:=this;rw[List.getElem_range']at h4;rw[<-h4];simpa using h2
 obtain⟨ps,c1,c2,c3⟩:=QE (gg:=gT 2<|yd zG<|yd (gN 1) xG) (it:=λq:Nat×List Int=>(true,D.tup [.int q.1,zc q.2])) (h:=λq=>B6 (sD p.1 q.1,q.2)) (as0:=[none,none,sT<|.str p.1]) ((List.range' 0 p.2.length).zip p.2) λq hq=>⟨_,rfl,wH (Vf (zh zb<|zh (za (i:=2) rfl)<|zh (za (i:=0) rfl) zR) (wX rfl) rfl rfl)<|WD.e<|za (i:=1) rfl⟩;have hi:M9 yP [B,C,L,sN os,sT<|.str p.1,sT<|zv p.2]=some (((List.range' 0 p.2.length).zip p.2).map λq=>(true,D.tup [.int (q.1:Int),zc q.2]),[B,C,L,sN os,sT<|.str p.1,sT<|zv p.2]):=by
  rw[<-E6];rfl
 have zl:((List.range' 0 p.2.length).zip p.2).length=m:=by rw[List.length_zip,List.length_range',Nat.min_self];exact hT.1
 obtain⟨x1,x2⟩:=qG (i:=3) (cap:=[none,none,some 4]) rfl ho hi (by rw[zzB,zl];omega) c1 c2 (by rw[c3,zyB];rfl) (λa ma=>by
  obtain⟨q,mq,rfl⟩:=zxE.mp ma;refine⟨hT.2 _<|zyA<|hz q mq,.inr ⟨p,hp,q.1, ?_, ?_⟩⟩
  . have:=(zzG.mp<|hz q mq).1;rw[hT.1]at this;exact⟨by omega,by omega⟩
  . show q.2=(p.2[(_:Int).toNat]?).getD [];rw[zyI,hz q mq];rfl) (by rw[zzB,zl];omega)
 refine⟨ps,_,x1,x2,by rw[zzB,zl],λc hc=>?_⟩;have hk:c.toNat<p.2.length:=by have:=hc.1;have:=hc.2;have:=hT.1;omega
 rw[show tR p.2 c=p.2[c.toNat] by show(p.2[c.toNat]?).getD []=_;rw[zzE hk];rfl];refine zxE.mpr ⟨(c.toNat,p.2[c.toNat]), ?_,by rw[show(c.toNat:Int)=c by have:=hc.1;omega]⟩;refine List.mem_iff_getElem?.mpr ⟨c.toNat,List.getElem?_zip_eq_some.mpr ⟨?_,zzE hk⟩⟩;rw[List.getElem?_range' hk];simp
def N7:(zD n).length=n:=by rw[zzB,zyU]
def K0(A:Alg n m J e Ds):∃sts:List (D×List Int),sts.length<=60/\(∀q ∈ sts,Gd n m J Ds q)/\(∀x,zQ n x->(sL x,tR J x) ∈ sts/\(sR x,col J x) ∈ sts)/\(∀p ∈ Ds,∀c,zQ m c->(sD p.1 c,tR p.2 c) ∈ sts)/\RE (Xz [(true,zm n m J e Ds S)]) (.lst<|sts.map B6):=by
 have n8:=A.n8;have m6:=A.m6;have dl:=A.dl;have s1:zz true 1 (f2 zg yq zk) [sT<|zm n m J e Ds S,none,none,none,none,none]=some (.nx [sT<|zm n m J e Ds S,sT<|zv J,none,none,none,none]):=yf (zE (za rfl) zb rfl)<|zo rfl;have w2:WE (fP (aC (f2 zg zL zk) aN) Ce) [sT<|zm n m J e Ds S,sT<|zv J,none,none,none,none] (zc<|zD n):=⟨_,W7 (WD.e<|zE (za rfl) zb rfl) (by
  show(if(0:Int)<=n/\(n:Int)<=100000 then _ else _)=_;rw[if_pos ⟨by omega,by omega⟩,zyB];rfl),Kp _,congrArg D.lst<|G_ _⟩
 have s2:=yQ (p:=2) w2<|zo rfl;have ib:∀e3 e4 e5,yu zu [sT<|zm n m J e Ds S,sT<|zv J,sT<|zc<|zD n,e3,e4,e5]=some ((zD n).map λx=>(true,D.int x),[sT<|zm n m J e Ds S,sT<|zv J,sT<|zc<|zD n,e3,e4,e5]):=λ_ _ _=>xI<|WD.e<|za rfl;have wl:=yx (h:=λx=>B6 (sL x,tR J x)) (cap:=[none,some 1]) (gg:=gN 0) (zD n) (ib none none none) (by rw[N7];omega) λx mx=>⟨_,rfl,wH (wH (WD.e zb)<|WD.e<|za (i:=0) rfl)<|WD.e<|zE (za (i:=1) rfl) (za (i:=0) rfl) (wK A.j<|yj mx).1⟩;have wr:=yx (h:=λx=>B6 (sR x,col J x)) (cap:=[none,some 1]) (gg:=gN 0) (zD n) (ib none none none) (by rw[N7];omega) λx mx=>⟨_,rfl,by
  have wc:=yx (as:=[sI x,sT<|zv J]) (cap:=[none,some 0]) (gg:=gN 0) J (xI<|WD.e<|za (i:=1) rfl) (by rw[A.j.1];omega) λr mr=>⟨_,rfl,WD.e<|zj (za (i:=0) rfl) (za (i:=1) rfl) (rowAt (A.j.2 r mr)<|yj mx).1 rfl⟩;have ec:(J.map λr=>D.int<|zM r x)=(col J x).map D.int:=by rw[zyB];rfl
  rw[ec]at wc;exact wH (wH (WD.e zb)<|WD.e<|za (i:=0) rfl) wc⟩
 have s3:=y8 (i:=3) (rM wl wr<|Gk<|by simp only[zzB,zyU];omega)<|zo rfl;have l0:Ows B6 (Gd n m J Ds) ((((zD n).map λx=>B6 (sL x,tR J x))++((zD n).map λx=>B6 (sR x,col J x))).map<|O.lf true) (((zD n).map λx=>(sL x,tR J x))++((zD n).map λx=>(sR x,col J x))):=by
  refine⟨Kp _, ?_,λq mq=>?_, ?_⟩
  . rw[G_];simp only[zyM,zyB];rfl
  . rcases zzM.mp mq with h|h
    . obtain⟨x,mx,rfl⟩:=zxE.mp h;exact⟨(wK A.j<|yj mx).2,.inl ⟨x,yj mx,.inl rfl⟩⟩
    . obtain⟨x,mx,rfl⟩:=zxE.mp h;exact⟨qe A<|yj mx,.inl ⟨x,yj mx,.inr rfl⟩⟩
  . simp only[zzB,zzJ]
 obtain⟨as',hf,os,l,e4,e5,rfl,ho,hl,hx,hd⟩:=yM (g:=gT 2<|yd wO<|yd (gN 5) xG)
  (λi as=>∃(os:List O) (l:List (D×List Int)) (e4 e5:Option O),as=[sT<|zm n m J e Ds S,sT<|zv J,sT<|zc<|zD n,sN os,e4,e5]/\Ows B6 (Gd n m J Ds) os l/\l.length<=16+6*i/\(∀x,zQ n x->(sL x,tR J x) ∈ l/\(sR x,col J x) ∈ l)/\∀p ∈ Ds.take i,∀c,zQ m c->(sD p.1 c,tR p.2 c) ∈ l)
  ((Ds.map zK).map λd=>(true,d)) 0 [sT<|zm n m J e Ds S,sT<|zv J,sT<|zc<|zD n,sN<|(((zD n).map λx=>B6 (sL x,tR J x))++((zD n).map λx=>B6 (sR x,col J x))).map<|O.lf true,none,none] (λi x as hx' hI=>by
    obtain⟨os,l,e4,e5,rfl,ho,hl,hx,hd⟩:=hI;rw[zyB,zzI]at hx';obtain⟨p,hp,rfl⟩:=zzX.mp hx';have hi:=(zzG.mp hp).1;have mp:=zyA hp;rw[zyY]at hl hd ⊢;obtain⟨ps,k,x1,x2,x3,x4⟩:=OY A mp ho (by omega);refine⟨_,rfl,_,x1,_,_,_,_,rfl,x2,by rw[zzJ,x3];omega,λx hxx=>?_,λq mq c hc=>?_⟩
    . exact⟨zzP _ (hx x hxx).1,zzP _ (hx x hxx).2⟩
    . rw[List.take_succ,hp]at mq
      rcases zzM.mp mq with h|h
      . exact zzP _<|hd q h c hc
      . have:q=p:=by simpa using h
        subst this;exact zzL _<|x4 c hc)
  ⟨_,_,none,none,rfl,l0,by simp only[zzB,zzJ,zyU];omega,λx hx=>⟨zzP _<|zxE.mpr ⟨x,wy hx,rfl⟩,zzL _<|zxE.mpr ⟨x,wy hx,rfl⟩⟩,λp hp=>by simp at hp⟩
 rw[zzB,zzB,zyY]at hl hd;rw[List.take_length]at hd;exact⟨l,by omega,ho.al,hx,hd,yk rfl<|zd s1<|zd s2<|zd s3<|zd (yF (OI<|zE (za (i:=0) rfl) zb rfl) hf)<|Ows.retB (i:=3) rfl ho⟩
end
section
variable{α:Type}[DecidableEq α]{toK:α->D}
def pos:List α->α->Nat
 | [],_=>0
 |x::K,a=>if x=a then 0 else pos K a+1
theorem Fp{a b:α}:∀{K:List α},a ∈ K->b ∈ K->pos K a=pos K b->a=b
 | [],h,_,_=>nomatch h
 |x::K,ha,hb,e=>by
  unfold pos at e
  by_cases h1:x=a
  . rw[if_pos h1]at e
    by_cases h2:x=b
    . rw[<-h1,<-h2]
    . rw[if_neg h2]at e;omega
  . rw[if_neg h1]at e
    by_cases h2:x=b
    . rw[if_pos h2]at e;omega
    . rw[if_neg h2]at e;exact Fp ((zzC.mp ha).resolve_left λz=>h1 z.symm) ((zzC.mp hb).resolve_left λz=>h2 z.symm) (by omega)
def S5(hf:∀a,yr (toK a)=false)(u:Bool)(l:List α):kids u (l.map toK)=l.map λa=>(u,toK a):=by
 unfold kids;rw[zyB];refine List.map_congr_left λa _=>?_;show(yr _||u,toK a)=_;rw[hf];rfl
def YT(K:List α):List α->List α
 | []=>K
 |a::l=>if a ∈ K then YT K l else YT (K++[a]) l
theorem Fy{a:α}:∀(l K:List α),a ∈ K->a ∈ YT K l
 | [],_,h=>h
 |b::l,K,h=>by
  unfold YT
  by_cases e:b ∈ K
  . rw[if_pos e];exact Fy l K h
  . rw[if_neg e];exact Fy l _<|zzP _ h
theorem TC{a:α}:∀(l K:List α),a ∈ l->a ∈ YT K l
 | [],_,h=>nomatch h
 |b::l,K,h=>by
  unfold YT
  by_cases e:b ∈ K
  . rw[if_pos e]
    rcases zzC.mp h with rfl|h
    . exact Fy l K e
    . exact TC l K h
  . rw[if_neg e]
    rcases zzC.mp h with rfl|h
    . exact Fy l _<|zzL _<|zzR.mpr rfl
    . exact TC l _ h
theorem KQ:∀(l K:List α),(YT K l).length<=K.length+l.length
 | [],K=>zzN _
 |b::l,K=>by
  unfold YT;show _<=K.length+(l.length+1)
  by_cases e:b ∈ K
  . rw[if_pos e];have:=KQ l K;omega
  . rw[if_neg e];have:=KQ l<|K++[b];rw[zzJ]at this;have:(YT (K++[b]) l).length<=K.length+1+l.length:=this;omega
variable{kk:α->List Key}
def Dr(hk:∀a b,kk a=kk b->a=b)(a:α)(K:List α):KP (K.map kk) (kk a)=decide (a ∈ K):=by
 unfold KP;rw[List.any_map]
 by_cases h:a ∈ K
 . rw[zyO h,List.any_eq_true];exact⟨a,h,by simp⟩
 . rw[zyG h,List.any_eq_false];intro b mb z;exact h<|hk b a (by simpa using z) ▸ mb
theorem Ho(hk:∀a b,kk a=kk b->a=b){a:α}:∀(K:List α) (s:Nat),a ∈ K->Gm (K.map kk) ((List.range' s K.length).map λi:Nat=>D.int (i:Int)) (kk a)=some (.int ((s+pos K a:Nat):Int))
 | [],_,h=>nomatch h
 |x::K,s,h=>by
  unfold Gm pos;rw[zzT,List.range'_succ,zyS,zyS,List.zip_cons_cons]
  by_cases e:x=a
  . rw[if_pos e,List.find?_cons_of_pos<|by simp[e]];rfl
  . rw[if_neg e,List.find?_cons_of_neg (by simpa using λz:kk x=kk a=>e<|hk x a z)];have:=Ho hk K (s+1)<|(zzC.mp h).resolve_left λz=>e z.symm;unfold Gm at this;rw[this,show s+1+pos K a=s+(pos K a+1) by omega]
abbrev nD(kk:α->List Key)(K:List α):Option O:=some<|.nd (.dt<|K.map kk) ((List.range' 0 K.length).map λi:Nat=>vJ (i:Int))
theorem La:∀(k s:Nat),O.toDs ((List.range' s k).map λi:Nat=>vJ (i:Int))=(List.range' s k).map λi:Nat=>D.int (i:Int)
 |0,_=>rfl
 |k+1,s=>by
  rw[List.range'_succ,zyS,zyS];exact congrArg (D.int s :: ·)<|La k<|s+1
abbrev qD:SF:=Bu 1<|dC zu<|dC (fP yW xx) dN
def CM(hk:∀a b,kk a=kk b->a=b)(ht:∀a,QV (toK a)=some (kk a)){s0:Option O}{u:Bool}{K:List α}{a:α}(hl:K.length<=1000):qD [s0,nD kk K,some<|.lf u<|toK a]=some (.nx [s0,if a ∈ K then nD kk K else nD kk<|K++[a],some<|.lf u<|toK a]):=by
 have ln:fP yW xx [s0,nD kk K,some<|.lf u<|toK a]=some (.ow<|vJ (K.length:Nat),[s0,nD kk K,some<|.lf u<|toK a]):=by
  have h1:([s0,nD kk K,some<|.lf u<|toK a]:AS)[1]? = some (some<|.nd (.dt<|K.map kk) ((List.range' 0 K.length).map λi:Nat=>vJ (i:Int))):=rfl;have e2:(O.nd (.dt<|K.map kk) ((List.range' 0 K.length).map λi:Nat=>vJ (i:Int))).toD = .dt (K.map kk) ((List.range' 0 K.length).map λi:Nat=>D.int (i:Int)):=congrArg (D.dt<|K.map kk)<|La _ _;have e:views [s0,nD kk K,some<|.lf u<|toK a] [.bo 1]=some ([.dt (K.map kk) ((List.range' 0 K.length).map λi:Nat=>D.int (i:Int))],meet (O.nd (.dt<|K.map kk) ((List.range' 0 K.length).map λi:Nat=>vJ (i:Int))).kl<|some true):=by
   show(RV.view _<|.bo 1).bind _=_;rw[Rx h1,e2];rfl
  unfold fP yW aC;rw[UL h1];simp only[zyL,aN,RV.frz,e];show(some _).bind _=_;rw[zzB,List.length_range'];rfl
 have fr:dC zu (dC (fP yW xx) dN) [s0,nD kk K,some<|.lf u<|toK a]=some ([.lf u<|toK a,vJ (K.length:Nat)],[s0,nD kk K,some<|.lf u<|toK a]):=yG (za (i:=2) rfl)<|yG ln rfl;unfold qD Bu;rw[fr];show((QV<|toK a).bind λk=>if(K.map kk).length<sizeLine then some _ else none)=_;rw[ht];show(if(K.map kk).length<sizeLine then some _ else none)=_;rw[if_pos (by rw[zzB];exact Nat.lt_of_le_of_lt hl<|by decide),Dr hk]
 by_cases h:a ∈ K
 . rw[zyO h,if_pos rfl,if_pos h]
 . rw[zyG h,if_neg (by decide),if_neg h];unfold nD;rw[zyM,zzJ];show _=some (Out.nx [s0,some<|.nd _ ((List.range' 0<|K.length+1).map λi:Nat=>vJ (i:Int)),some<|.lf u<|toK a]);rw[List.range'_concat,zyM];simp
theorem KM(hk:∀a b,kk a=kk b->a=b)(ht:∀a,QV (toK a)=some (kk a)){s0:Option O}{u:Bool}:∀(l K:List α) (e2:Option O),K.length+l.length<=1000->∃e2',forL (gN 2) qD (l.map λa=>(u,toK a)) [s0,nD kk K,e2]=some (.nx [s0,nD kk<|YT K l,e2'])
 | [],K,e2,_=>⟨e2,rfl⟩
 |a::l,K,e2,hl=>by
  have hl:K.length+(l.length+1)<=1000:=hl;have h1:=CM hk ht (s0:=s0) (u:=u) (K:=K) (a:=a) (by omega);unfold YT
  by_cases e:a ∈ K
  . rw[if_pos e]at h1 ⊢;obtain⟨e2',hf⟩:=KM hk ht l K (some<|.lf u<|toK a) (by omega);exact⟨e2',xN rfl h1 hf⟩
  . rw[if_neg e]at h1 ⊢;obtain⟨e2',hf⟩:=KM hk ht l (K++[a]) (some<|.lf u<|toK a) (by rw[zzJ];show K.length+1+_<=_;omega);exact⟨e2',xN rfl h1 hf⟩
end
section
variable{α:Type}[DecidableEq α]{toK:α->D}{kk:α->List Key}
def UP(hf:∀a,yr (toK a)=false)(hk:∀a b,kk a=kk b->a=b)(ht:∀a,QV (toK a)=some (kk a))(u:Bool)(l:List α)(hl:l.length<=100):RE (vb [(u,.lst<|l.map toK)]) (zc<|l.map λa=>((pos (YT [] l) a:Nat):Int)):=by
 obtain⟨e2,hfor⟩:=KM hk ht l [] none (by show 0+_<=_;omega);have it1:Wa zg [some<|.lf u<|.lst<|l.map toK,nD kk ([]:List α),none]=some (l.map λa=>(u,toK a),[some<|.lf u<|.lst<|l.map toK,nD kk ([]:List α),none]):=by
  show some (kids u<|l.map toK,_)=_;rw[S5 hf]
 have it2:yu zg [some<|.lf u<|.lst<|l.map toK,nD kk<|YT [] l,e2]=some (l.map λa=>(u,toK a),[some<|.lf u<|.lst<|l.map toK,nD kk<|YT [] l,e2]):=by
  show some (kids u<|l.map toK,_)=_;rw[S5 hf]
 have w:=yx (h:=λa=>D.int (pos (YT [] l) a:Nat)) (gg:=gN 0) (fe:=f2 zi zg qj) l it2 (by omega) λa ma=>by
  have ec:vB [none,some 1] [some<|.lf u<|.lst<|l.map toK,nD kk<|YT [] l,e2]=[none,some<|.lf false<|.dt ((YT [] l).map kk) ((List.range' 0 (YT [] l).length).map λi:Nat=>D.int (i:Int))]:=by
   show[none,some<|O.lf false<|.dt _ _]=_;rw[La]
  rw[ec];refine⟨_,rfl,WD.e<|zj (za (i:=1) rfl) (za (i:=0) rfl) ?_ rfl⟩;show(QV<|toK a).bind _=_;rw[ht];show SU _=_;rw[Ho hk _ 0<|TC l [] ma,zyY];rfl
 rw[show(l.map λa=>D.int (pos (YT [] l) a:Nat))=(l.map λa=>((pos (YT [] l) a:Nat):Int)).map D.int by rw[zyB];rfl]at w;exact yk rfl<|zd (y8 (i:=1) rfl<|zo rfl)<|zd (yF it1 hfor)<|yg w
end
section
variable{ι α β:Type}[DecidableEq α][DecidableEq β]{g:ι->α}{h:ι->β}
def KZ(e:ι->ι->Bool)(R:List ι):List ι->List ι
 | []=>R
 |i::is=>if(R.any λr=>e r i)=true then KZ e R is else KZ e (R++[i]) is
def Sh(e:ι->ι->Bool):List ι->ι->Nat
 | [],_=>0
 |r::R,i=>if e r i=true then 0 else Sh e R i+1
def JM(R:List ι)(i:ι):(R.any λr=>decide (g r=g i))=true ↔ g i ∈ R.map g:=by
 rw[List.any_eq_true,zxE];exact⟨λ⟨r,mr,z⟩=>⟨r,mr,by simpa using z⟩,λ⟨r,mr,z⟩=>⟨r,mr,by simpa using z⟩⟩
theorem RH:∀(is R:List ι),YT (R.map g) (is.map g)=(KZ (λr i=>decide (g r=g i)) R is).map g
 | [],_=>rfl
 |i::is,R=>by
  rw[zyS];unfold YT KZ
  by_cases q:g i ∈ R.map g
  . rw[if_pos q,if_pos<|(JM R i).mpr q];exact RH is R
  . rw[if_neg q,if_neg λz=>q<|(JM R i).mp z];have:=RH is<|R++[i];rw[zyM]at this;exact this
theorem Lw(i:ι):∀R:List ι,pos (R.map g) (g i)=Sh (λr i=>decide (g r=g i)) R i
 | []=>rfl
 |r::R=>by
  rw[zyS];unfold pos Sh
  by_cases q:g r=g i
  . rw[if_pos q,if_pos<|by simpa using q]
  . rw[if_neg q,if_neg (by simpa using q),Lw i R]
theorem LR{e:ι->ι->Bool}{i:ι}:∀(is R:List ι),i ∈ KZ e R is->i ∈ R\/i ∈ is
 | [],_,m=>.inl m
 |j::is,R,m=>by
  unfold KZ at m
  split at m
  . exact(LR is R m).imp id λz=>zzD _ z
  . rcases LR is _ m with z|z
    . rcases zzM.mp z with z|z
      . exact .inl z
      . rw[zzR.mp z];exact .inr<|zzF ..
    . exact .inr<|zzD _ z
theorem HM{e e':ι->ι->Bool}{i:ι}:∀{R:List ι},(∀r ∈ R,e r i=e' r i)->(R.any λr=>e r i)=R.any λr=>e' r i
 | [],_=>rfl
 |r::R,H=>by rw[List.any_cons,List.any_cons,H r<|zzF ..,HM λx mx=>H x<|zzD _ mx]
theorem LZ{e e':ι->ι->Bool}{P:ι->Prop}(H:∀r i,P r->P i->e r i=e' r i):∀(is R:List ι),(∀i ∈ is,P i)->(∀r ∈ R,P r)->KZ e R is=KZ e' R is
 | [],_,_,_=>rfl
 |i::is,R,hi,hR=>by
  have pi:=hi i<|zzF ..;have hi':∀j ∈ is,P j:=λj mj=>hi j<|zzD _ mj;unfold KZ;rw[HM λr mr=>H r i (hR r mr) pi,LZ H is R hi' hR,LZ H is (R++[i]) hi' λr mr=>(zzM.mp mr).elim (hR r) λz=>zzR.mp z ▸ pi]
theorem FC{e e':ι->ι->Bool}{i:ι}:∀{R:List ι},(∀r ∈ R,e r i=e' r i)->Sh e R i=Sh e' R i
 | [],_=>rfl
 |r::R,H=>by
  unfold Sh;rw[H r<|zzF ..,FC λx mx=>H x<|zzD _ mx]
def O6{is:List ι}(H:∀i ∈ is,∀j ∈ is,g i=g j ↔ h i=h j){i:ι}(hi:i ∈ is):pos (YT []<|is.map g) (g i)=pos (YT []<|is.map h) (h i):=by
 have e1:=RH (g:=g) is [];have e2:=RH (g:=h) is [];rw[List.map_nil]at e1 e2;have He:∀r i,r ∈ is->i ∈ is->decide (g r=g i)=decide (h r=h i):=λr i mr mi=>decide_eq_decide.mpr<|H r mr i mi;rw[e1,e2,Lw,Lw,LZ He is [] (λ_ m=>m) (λ_ m=>nomatch m)];exact FC λr mr=>He r i ((LR is [] mr).elim (λz=>nomatch z) id) hi
end
def Mu(S:SS)(v:Int):List Bool:=S.map λp=>decide (v ∈ p.2)
theorem MW(v:Int):∀xs:List Int,Am (.int v) (zc xs)=some (decide (v ∈ xs))
 | []=>rfl
 |x::xs=>by
  have ih:anyF (λy=>wN 50 y<|.int v) (xs.map D.int)=some (decide (v ∈ xs)):=MW v xs;show(some _).bind (λb=>(anyF _ _).bind λc=>some (b||c))=_;rw[ih]
  by_cases h:x=v
  . subst h;simp
  . have h':¬v=x:=λz=>h z.symm;simp[h,h']
def Ub{a b:EF}{as:AS}{v:Int}{xs:List Int}(ha:WD a as true (.int v))(hb:WD b as true (zc xs)):WD (f2 a b<|zt .In) as true (.bl<|decide (v ∈ xs)):=
 zj ha hb (by show(Am (.int v)<|zc xs).bind _=_;rw[MW];rfl) rfl
def X5{n:Nat}{g:Int->Int}{v:Int}(hv:zQ n v):zM ((zD n).map g) v=g v:=by
 unfold zM;have h0:=hv.1;have h1:=hv.2;rw[zzI,zzI,List.getElem?_range (show v.toNat<n by omega)];show g ((v.toNat:Nat):Int)=g v;rw[show(v.toNat:Int)=v by omega]
section
variable{n m:Nat}{J:TZ}{e:Int}{Ds:DZ}{S:SS}{v:Int}{Rs:TZ}
def NB(sl:S.length<=10):RE (W6 [(true,zm n m J e Ds S),(true,.int v)]) (.tup<|(Mu S v).map D.bl):=by
 have w:=yx (as:=[sT<|zm n m J e Ds S,sI v]) (cap:=[none,none,some 1]) (gg:=gT 2<|yd zG<|yd (gN 1) xG) (fi:=yu<|f2 zg wR zk) S (xI<|WD.e<|zE (za rfl) zb rfl) (by omega) λp mp=>⟨_,rfl,WD.e<|Ub (za (i:=2) rfl)<|za (i:=1) rfl⟩;refine yk rfl<|yg<|FU w ?_;show _=some (R0.im<|.tup<|(S.map λp=>decide _).map D.bl);rw[zyB];rfl
abbrev Ee(S:SS)(Rs:TZ)(k:Nat)(u v:Int):Prop:=PP.Ek (Mu S) zM (λr=>r ∈ Rs) k u v
structure Nb(n:Nat)(S:SS)(Rs:TZ)(k:Nat)(r:List Int):Prop where
 ln:r.length=n
 eq:∀u v,zQ n u->zQ n v->(zM r u=zM r v ↔ Ee S Rs k u v)
 cn:∀{β:Type}[DecidableEq β] (h:Int->β),(∀i ∈ zD n,∀j ∈ zD n,h i=h j ↔ Ee S Rs k i j)->r=(zD n).map λa=>((pos (YT []<|(zD n).map h) (h a):Nat):Int)
def Nb.mk'{k:Nat}{α:Type}[DecidableEq α]{g:Int->α}(H:∀i ∈ zD n,∀j ∈ zD n,g i=g j ↔ Ee S Rs k i j):Nb n S Rs k ((zD n).map λa=>((pos (YT []<|(zD n).map g) (g a):Nat):Int)):=by
 refine⟨by simp,λu v hu hv=>?_,λ{β} _ h hh=>?_⟩
 . rw[X5 hu,X5 hv];rw[<-H u (wy hu) v (wy hv)];exact⟨λz=>Fp (TC _ _<|List.mem_map_of_mem<|wy hu) (TC _ _<|List.mem_map_of_mem<|wy hv)<|Int.ofNat_inj.mp z,λz=>by rw[z]⟩
 . refine List.map_congr_left λa ma=>?_;rw[O6 (λi mi j mj=>(H i mi j mj).trans (hh i mi j mj).symm) ma]
def Nb.same{k:Nat}{r r':List Int}(h:Nb n S Rs k r)(h':Nb n S Rs (k+1) r')(s:PP.St (Mu S) zM (λr=>r ∈ Rs) n k):r'=r:=by
 have hk:=λi mi j mj=>h.eq i j (yj mi)<|yj mj;have hk':∀i ∈ zD n,∀j ∈ zD n,zM r i=zM r j ↔ Ee S Rs (k+1) i j:=λi mi j mj=>(hk i mi j mj).trans ⟨λz=>by
  have a:=yj mi;have b:=yj mj;have:=s i.toNat j.toNat (by have:=a.1;have:=a.2;omega) (by have:=b.1;have:=b.2;omega);rw[show(i.toNat:Int)=i by have:=a.1;omega,show(j.toNat:Int)=j by have:=b.1;omega]at this;exact this z,λz=>z.mono<|zyX _⟩
 exact(h'.cn _ hk').trans (h.cn _ hk).symm
def Nb.st{k:Nat}{r:List Int}(h:Nb n S Rs k r)(h':Nb n S Rs (k+1) r):PP.St (Mu S) zM (λr=>r ∈ Rs) n k:=λu v hu hv z=>(h'.eq u v ⟨by omega,by omega⟩ ⟨by omega,by omega⟩).mp<|(h.eq u v ⟨by omega,by omega⟩ ⟨by omega,by omega⟩).mpr z
abbrev key(Rs:TZ)(r:List Int)(v:Int):List Int:=Rs.map λq=>zM r<|zM q v
def D0{k:Nat}{r:List Int}(hR:∀q ∈ Rs,Row n q)(h:Nb n S Rs k r):∀i ∈ zD n,∀j ∈ zD n,key (zD n::Rs) r i=key (zD n::Rs) r j ↔ Ee S Rs (k+1) i j:=λi mi j mj=>by
 have hi:=yj mi;have hj:=yj mj;have ei:∀{x:Int},zQ n x->zM (zD n) x=x:=λ{x} hx=>by
  have:=X5 (g:=λa=>a) hx
  rwa [List.map_id']at this
 unfold Ee;rw[PP.Ek.succ];constructor
 . intro z;obtain⟨z1,z2⟩:=List.cons.inj z;have z1:zM r (zM (zD n) i)=zM r (zM (zD n) j):=z1;rw[ei hi,ei hj]at z1;refine⟨(h.eq i j hi hj).mp z1,λq hq=>?_⟩;exact(h.eq _ _ (rowAt (hR q hq) hi).2 (rowAt (hR q hq) hj).2).mp<|List.map_inj_left.mp z2 q hq
 . intro⟨z1,z2⟩;show zM r _::_=zM r _::_;rw[ei hi,ei hj,(h.eq i j hi hj).mpr z1];exact congrArg _<|List.map_congr_left λq hq=>(h.eq _ _ (rowAt (hR q hq) hi).2 (rowAt (hR q hq) hj).2).mpr<|z2 q hq
end
abbrev bK(l:List Bool):D:=.tup<|l.map D.bl
abbrev iK(l:List Int):D:=.tup<|l.map D.int
abbrev kB(l:List Bool):List Key:=l.map λb=>.inl (if b=true then 1 else 0)
abbrev kI(l:List Int):List Key:=l.map Sum.inl
theorem Oq:∀a b:List Bool,kB a=kB b->a=b
 | [],[],_=>rfl
 | [],_::_,h=>by simp at h
 |_::_,[],h=>by simp at h
 |x::a,y::b,h=>by
  obtain⟨h1,h2⟩:=List.cons.inj<|h;have h1:=Sum.inl.inj h1;rw[Oq a b h2];cases x<;>cases y<;>first|rfl|simp at h1
theorem SK:∀a b:List Int,kI a=kI b->a=b
 | [],[],_=>rfl
 | [],_::_,h=>by simp at h
 |_::_,[],h=>by simp at h
 |x::a,y::b,h=>by
  obtain⟨h1,h2⟩:=List.cons.inj<|h;rw[SK a b h2,Sum.inl.inj h1]
theorem Ow:∀l:List Bool,QV (bK l)=some (kB l)
 | []=>rfl
 |b::l=>by
  have ih:UV (l.map D.bl)=some (kB l):=Ow l;show(UV _).bind _=_;rw[ih];rfl
theorem HE:∀l:List Int,QV (iK l)=some (kI l)
 | []=>rfl
 |b::l=>by
  have ih:UV (l.map D.int)=some (kI l):=HE l;show(UV _).bind _=_;rw[ih];rfl
def y7{n:Nat}{r:List Int}{v:Int}(hr:r.length=n)(hv:zQ n v):zk (zc r) (.int v)=some (.im<|.int<|zM r v):=by
 have hk:v.toNat<r.length:=by rw[hr];have:=hv.1;have:=hv.2;omega
 have g:=zzE hk;have e:zM r v=r[v.toNat]:=by unfold zM;rw[g];rfl
 rw[e];have:=v8 (xs:=r.map D.int) (by rw[zzI,g];rfl);rw[show(v.toNat:Int)=v by have:=hv.1;omega]at this;show SU _=_;rw[this];rfl
section
variable{n m:Nat}{J:TZ}{e:Int}{Ds:DZ}{S:SS}{Rs:TZ}
abbrev C5(A:D)(n:Nat)(Rs:TZ)(e3 e4:Option O):AS:=[sT A,sT<|zc<|zD n,sT<|zv (zD n::Rs),e3,e4]
abbrev pC:EF:=zx (aC (zr (yu zi) [none,some 3,some 2] zG zN<|fP (aC (zr (yu zu) [none,some 1,some 0] zG zN<|f2 zi (f2 zg zu zk) zk) aN) tupP) aN) vb
def Ox{A:D}{k:Nat}{r:List Int}{e4:Option O}(n8:n<=8)(hl:Rs.length<=60)(hR:∀q ∈ Rs,Row n q)(h:Nb n S Rs k r):∃r',Nb n S Rs (k+1) r'/\WE pC (C5 A n Rs (sT<|zc r) e4) (zc r'):=by
 refine⟨_,Nb.mk'<|D0 hR h, ?_⟩;have w:=yx (as:=C5 A n Rs (sT<|zc r) e4) (h:=λa=>iK<|key (zD n::Rs) r a) (cap:=[none,some 3,some 2]) (gg:=gN 0) (zD n) (xI<|WD.e<|za (i:=1) rfl) (by rw[zzB,zyU];omega) λa ma=>by
  have ha:=yj ma;have wi:=yx (as:=[sI a,sT<|zc r,sT<|zv (zD n::Rs)]) (cap:=[none,some 1,some 0]) (gg:=gN 0) (zD n::Rs) (xI<|WD.e<|za (i:=2) rfl) (by rw[zzT];omega) λq mq=>by
   have hq:Row n q:=by
    rcases zzC.mp mq with rfl|mq
    . exact⟨by rw[zzB,zyU],λx mx=>yj mx⟩
    . exact hR q mq
   exact⟨_,rfl,WD.e<|zj (za (i:=1) rfl) (zj (za (i:=0) rfl) (za (i:=2) rfl) (rowAt hq ha).1 rfl) (y7 h.ln (rowAt hq ha).2) rfl⟩
  refine⟨_,rfl, ?_⟩;have:=FU (g:=tupP) wi rfl;rw[show iK (key (zD n::Rs) r a) = .tup ((zD n::Rs).map λq=>D.int<|zM r<|zM q a) by show D.tup (((zD n::Rs).map λq=>zM r<|zM q a).map D.int)=_;rw[zyB];rfl];exact this
 rw[show((zD n).map λa=>iK<|key (zD n::Rs) r a)=((zD n).map<|key (zD n::Rs) r).map iK from(zyB (g:=iK)).symm]at w;have nm:=UP (λ_=>rfl) SK HE true ((zD n).map<|key (zD n::Rs) r) (by simp only[zzB,zyU];omega);rw[zyB (g:=λa=>((pos (YT []<|(zD n).map<|key (zD n::Rs) r) a:Nat):Int))]at nm;exact xm w nm
end
theorem LG:∀a b:List Int,wN 60 (zc a) (zc b)=some (decide (a=b))
 | [],[]=>rfl
 | [],_::_=>rfl
 |_::_,[]=>rfl
 |x::a,y::b=>by
  have ih:FM (wN 59) (a.map D.int) (b.map D.int)=some (decide (a=b)):=LG a b;show(some _).bind (λc=>(FM _ _ _).bind λd=>some<|c&&d)=_;rw[ih]
  by_cases h1:x=y<;>by_cases h2:a=b<;>simp[h1,h2]
section
variable{n m:Nat}{J:TZ}{e:Int}{Ds:DZ}{S:SS}{Rs:TZ}
abbrev p4:TF:=fT<|f2 zZ zC<|zt .NotEq
abbrev oR:SF:=(zp (zz true 3 zZ)<|zz true 4 pC)
def uG{A:D}(n8:n<=8)(hl:Rs.length<=60)(hR:∀q ∈ Rs,Row n q){k0:Nat}(s0:PP.St (Mu S) zM (λr=>r ∈ Rs) n k0):∀(d k f:Nat) (r r':List Int),k+d=k0->d<f->Nb n S Rs k r->Nb n S Rs (k+1) r'->∃k1 r1 e4,Sr p4 oR f (C5 A n Rs (sT<|zc r)<|sT<|zc r')=some (.nx<|C5 A n Rs (sT<|zc r1) e4)/\Nb n S Rs k1 r1/\PP.St (Mu S) zM (λr=>r ∈ Rs) n k1:=by
 intro d
 induction d with
 |zero=>
  intro k f r r' hk hf h h';have hk:=hk;subst hk;have e:=h.same h' s0;subst e;obtain⟨f,rfl⟩:∃g,f=g+1:=⟨f-1,by omega⟩;have t:WT p4 (C5 A n Rs (sT<|zc r')<|sT<|zc r') false:=zJ (Ur (za rfl) (za rfl)<|by rw[LG,zyO rfl]) rfl;exact⟨k,r',_,M3 t,h,s0⟩
 |succ d ih=>
  intro k f r r' hk hf h h';obtain⟨f,rfl⟩:∃g,f=g+1:=⟨f-1,by omega⟩;have tw:=Ur (as:=C5 A n Rs (sT<|zc r)<|sT<|zc r') (za (i:=4) rfl) (za (i:=3) rfl)<|LG r' r
  by_cases q:r'=r
  . subst q;rw[zyO rfl]at tw;exact⟨k,r',_,M3<|zJ tw rfl,h,h.st h'⟩
  . rw[zyG q]at tw;obtain⟨r2,h2,w2⟩:=Ox n8 hl hR h';obtain⟨k1,r1,e4,hw,n1,n2⟩:=ih (k+1) f r' r2 (by omega) (by omega) h' h2;exact⟨k1,r1,e4,OE (zJ tw rfl) (zW (yf (za rfl)<|zo rfl)<|yQ w2<|zo rfl) hw,n1,n2⟩
def O0(A:Alg n m J e Ds)(hS:Sg n S):∃(Rs:TZ) (k:Nat) (r:List Int),(∀q ∈ Rs,Row n q)/\(∀q ∈ Rs,Fm n m J Ds q)/\(∀x,zQ n x->tR J x ∈ Rs/\col J x ∈ Rs)/\(∀p ∈ Ds,∀c,zQ m c->tR p.2 c ∈ Rs)/\Nb n S Rs k r/\PP.St (Mu S) zM (λr=>r ∈ Rs) n k/\RE (wm [(true,zm n m J e Ds S)]) (zc r):=by
 have n1:=A.n1;have n8:=A.n8;obtain⟨sts,sl,hg,hx,hd,hst⟩:=K0 A;have hR:∀q ∈ sts.map (·.2),Row n q:=λq mq=>by
  obtain⟨p,mp,rfl⟩:=zxE.mp mq;exact(hg p mp).1
 have hFm:∀q ∈ sts.map (·.2),Fm n m J Ds q:=λq mq=>by
  obtain⟨p,mp,rfl⟩:=zxE.mp mq;exact(hg p mp).2
 obtain⟨k0,hk0,st0⟩:=PP.stable n1;have w1:WE (fP (aC (f2 zg zL zk) aN) Ce) [sT<|zm n m J e Ds S,none,none,none,none] (zc<|zD n):=⟨_,W7 (WD.e<|zE (za rfl) zb rfl) (by
  show(if(0:Int)<=n/\(n:Int)<=100000 then _ else _)=_;rw[if_pos ⟨by omega,by omega⟩,zyB];rfl),Kp _,congrArg D.lst<|G_ _⟩
 have s1:=yQ (p:=1) w1<|zo rfl;have wr:=yx (as:=[sT<|zm n m J e Ds S,sT<|zc<|zD n,none,none,none]) (cap:=[none,none]) (gg:=gT 2<|yd zG<|yd (gN 1) xG) sts (xI<|xm (WD.e<|za (i:=0) rfl) hst) (by omega) λq _=>⟨_,by
  have k:kids true [q.1,zc q.2]=[(true,q.1),(true,zc q.2)]:=by
   show[(yr q.1||true,q.1),(yr (zc q.2)||true,zc q.2)]=_;rw[zyD,zyD]
  unfold gT;simp only[B6,k];rfl,WD.e<|za (i:=1) rfl⟩
 have s2:=yQ (p:=2) (OG (xi (x:=.lst [zc<|zD n]) (zh (za (i:=1) rfl) zR) (wX rfl) rfl rfl) wr<|add_lists<|Gk (by rw[zzB];show 1+_<=_;omega))<|zo rfl;rw[show[zc<|zD n]++sts.map (λq:D×List Int=>zc q.2)=(zD n::sts.map (·.2)).map zc by rw[zyS,zyB];rfl]at s2;have wk:=yx (as:=C5 (zm n m J e Ds S) n (sts.map (·.2)) none none) (cap:=[none,some 0]) (gg:=gN 0) (zD n) (xI<|WD.e<|za (i:=1) rfl) (by rw[zzB,zyU];omega) λv _=>⟨_,rfl,wY (WD.e<|za (i:=1) rfl) (WD.e<|za (i:=0) rfl)<|NB hS.1⟩;rw[show((zD n).map λv=>bK<|Mu S v)=((zD n).map<|Mu S).map bK from(zyB (g:=bK)).symm]at wk;have nm:=UP (λ_=>rfl) Oq Ow true ((zD n).map<|Mu S) (by simp only[zzB,zyU];omega);rw[zyB (g:=λa=>((pos (YT []<|(zD n).map<|Mu S) a:Nat):Int))]at nm;have N0:Nb n S (sts.map (·.2)) 0 ((zD n).map λa=>((pos (YT []<|(zD n).map<|Mu S) (Mu S a):Nat):Int)):=Nb.mk' λi _ j _=>(PP.Ek.zero).symm;have s3:=yQ (p:=3) (xm wk nm)<|zo rfl;obtain⟨r1,h1,w4⟩:=Ox n8 (by rw[zzB];exact sl) hR N0;have s4:=yQ (p:=4) w4<|zo rfl;obtain⟨k1,r,e4,hw,hb,hs⟩:=uG n8 (by rw[zzB];exact sl) hR st0 k0 0 10000 _ r1 (zyY _) (by omega) N0 h1;refine⟨sts.map (·.2),k1,r,hR,hFm,λx hxx=>⟨zxE.mpr ⟨_,(hx x hxx).1,rfl⟩,zxE.mpr ⟨_,(hx x hxx).2,rfl⟩⟩,λp mp c hc=>zxE.mpr ⟨_,hd p mp c hc,rfl⟩,hb,hs,yk rfl<|zd s1<|zd s2<|zd s3<|zd s4<|zd hw<|yg<|WD.e<|za (i:=3) rfl⟩
end
section
variable{α:Type}[DecidableEq α]
theorem Lz:∀(l K:List α),K.Nodup->(YT K l).Nodup
 | [],_,h=>h
 |a::l,K,h=>by
  unfold YT
  by_cases e:a ∈ K
  . rw[if_pos e];exact Lz l K h
  . rw[if_neg e];exact Lz l _<|zxF.mpr ⟨h,by simp,λx mx y my=>by rw[zzR.mp my];exact λz=>e<|z ▸ mx⟩
theorem K9{b:α}:∀(l K:List α),b ∈ YT K l->b ∈ K\/b ∈ l
 | [],_,h=>.inl h
 |a::l,K,h=>by
  unfold YT at h
  split at h
  . exact(K9 l K h).imp id λz=>zzD _ z
  . rcases K9 l _ h with z|z
    . rcases zzM.mp z with z|z
      . exact .inl z
      . rw[zzR.mp z];exact .inr<|zzF ..
    . exact .inr<|zzD _ z
theorem Hf{a:α}:∀{K:List α},a ∈ K->pos K a<K.length
 | [],h=>nomatch h
 |x::K,h=>by
  unfold pos
  by_cases e:x=a
  . rw[if_pos e];exact Nat.succ_pos _
  . rw[if_neg e];exact Nat.succ_lt_succ<|Hf<|(zzC.mp h).resolve_left λz=>e z.symm
theorem Hy:∀{K:List α}{k:Nat}{a:α},K.Nodup->K[k]? = some a->pos K a=k
 | [],_,_,_,h=>by simp at h
 |x::K,0,a,_,h=>by
  have:x=a:=zzZ h;unfold pos;rw[if_pos this]
 |x::K,k+1,a,nd,h=>by
  have h1:=h;have:x≠a:=λz=>(zzW.mp nd).1<|z ▸ zyA h1;unfold pos;rw[if_neg this,Hy (zzW.mp nd).2 h1]
end
section
variable{n:Nat}{S:SS}{Rs:TZ}{k:Nat}{r:List Int}
def Nb.cnt(h:Nb n S Rs k r):∃c:Nat,c<=n/\(∀v,zQ n v->zQ c (zM r v))/\∀x,zQ c x->∃v,zQ n v/\zM r v=x:=by
 have e:=h.cn (zM r) λi mi j mj=>h.eq i j (yj mi)<|yj mj;have at_:∀v,zQ n v->zM r v=((pos (YT []<|(zD n).map<|zM r) (zM r v):Nat):Int):=λv hv=>by
  conv=>lhs;rw[e]
  rw[X5 hv]
 refine⟨(YT []<|(zD n).map<|zM r).length, ?_,λv hv=>?_,λx hx=>?_⟩
 . have:=KQ ((zD n).map<|zM r) [];rw[zzB,zzB,zyU]at this;simpa using this
 . have:=Hf<|TC ((zD n).map<|zM r) []<|List.mem_map_of_mem<|wy hv;rw[at_ v hv];exact⟨by omega,by omega⟩
 . have h0:=hx.1;have h1:=hx.2;have g:=zzE (l:=YT []<|(zD n).map<|zM r) (i:=x.toNat) (by omega);have p:=Hy (Lz ((zD n).map<|zM r) [] zyJ) g
   rcases K9 _ _ (zyA g)with z|z
   . exact nomatch z
   . obtain⟨v,mv,ev⟩:=zxE.mp z;refine⟨v,yj mv, ?_⟩;rw[at_ v<|yj mv,ev,p];omega
def Nb.row(h:Nb n S Rs k r)(s:PP.St (Mu S) zM (λr=>r ∈ Rs) n k)(hR:∀q ∈ Rs,Row n q){q:List Int}(hq:q ∈ Rs){u v:Int}(hu:zQ n u)(hv:zQ n v)(e:zM r u=zM r v):zM r (zM q u)=zM r (zM q v):=by
 have z:=(h.eq u v hu hv).mp e;have z1:Ee S Rs (k+1) u v:=by
  have:=s u.toNat v.toNat (by have:=hu.1;have:=hu.2;omega) (by have:=hv.1;have:=hv.2;omega);rw[show(u.toNat:Int)=u by have:=hu.1;omega,show(v.toNat:Int)=v by have:=hv.1;omega]at this;exact this z
 exact(h.eq _ _ (rowAt (hR q hq) hu).2 (rowAt (hR q hq) hv).2).mpr<|(PP.Ek.succ.mp z1).2 q hq
def Nb.sgn(h:Nb n S Rs k r){u v:Int}(hu:zQ n u)(hv:zQ n v)(e:zM r u=zM r v):Mu S u=Mu S v:=PP.Ek.zero.mp<|((h.eq u v hu hv).mp e).mono<|Nat.zero_le _
end
theorem Nq:∀(l K:List Int),l.foldl step_dedup K=YT K l
 | [],_=>rfl
 |a::l,K=>by
  show l.foldl step_dedup _=_;unfold YT;rw[Nq l];unfold step_dedup;have e:(K.any (· == a))=decide (a ∈ K):=by
   by_cases h:a ∈ K
   . rw[zyO h,List.any_eq_true];exact⟨a,h,by simp⟩
   . rw[zyG h,List.any_eq_false];exact λx mx z=>h (by rw[<-eq_of_beq z];exact mx)
  rw[e]
  by_cases h:a ∈ K
  . rw[zyO h,if_pos rfl,if_pos h]
  . rw[zyG h,if_neg (by decide),if_neg h]
def AB{r:List Int}{c:Nat}(h1:∀x ∈ r,zQ c x)(h2:∀x,zQ c x->x ∈ r):Tb r=c:=by
 unfold Tb;rw[Nq];have nd:=Lz r [] zyJ;have s1:=λx mx=>wy<|h1 x<|(K9 r [] mx).elim (λz=>nomatch z) id;have s2:=λx mx=>TC r []<|h2 x<|yj mx;have nr:(zD c).Nodup:=List.Pairwise.map _ (λa b h z=>h<|Int.ofNat_inj.mp z) List.nodup_range;have l1:=nd.length_le_of_subset s1;have l2:=nr.length_le_of_subset s2;rw[zzB,zyU]at l1 l2;omega
def Zc(r:List Int)(b:Int):Int:=(((Pp (λy=>wN 50 y<|.int b)<|r.map D.int).getD 0:Nat):Int)
def Vi{n:Nat}{r:List Int}{b:Int}(hl:r.length=n)(hb:b ∈ r):zQ n (Zc r b)/\zM r (Zc r b)=b/\Pp (λy=>wN 50 y<|.int b) (r.map D.int)=some (Zc r b).toNat:=by
 obtain⟨j,j1,j2,j3⟩:=Te hb;have e:Zc r b=(j:Int):=by unfold Zc;rw[j3];rfl
 rw[e,zyI];refine⟨⟨by omega,by omega⟩, ?_,j3⟩;unfold zM;rw[zyI,j2];rfl
section
variable{n:Nat}{S:SS}{Rs:TZ}{k c:Nat}{r:List Int}
def BL{as:AS}(n8:n<=8)(hl:r.length=n)(h1:∀v,zQ n v->zQ c (zM r v))(h2:∀x,zQ c x->∃v,zQ n v/\zM r v=x)(cn:c<=n)(hs:as[1]? = some (sT<|zc r))(hc:vB [none,some 1] as=[none,sT<|zc r]):
 WE (zr (zY (aC (fP yW sY) aN) z_) [none,some 1] zG zN<|wV .lst zi xq wC) as (zc<|(zD c).map<|Zc r)/\∀x,zQ c x->zQ n (Zc r x)/\zM r (Zc r x)=x:=by
 have mem:∀x,zQ c x->x ∈ r:=λx hx=>by
  obtain⟨v,hv,e⟩:=h2 x hx;have hk:v.toNat<r.length:=by have:=hv.1;have:=hv.2;omega
  have:zM r v=r[v.toNat]:=by unfold zM;rw[zzE hk];rfl
  rw[<-e,this];exact zxA hk
 have inn:∀x ∈ r,zQ c x:=λx mx=>by
  obtain⟨i,hi⟩:=List.mem_iff_getElem?.mp mx;have hk:=(zzG.mp hi).1;have:=h1 i ⟨by omega,by omega⟩;unfold zM at this;rw[zyI,hi]at this;exact this
 have dc:=AB inn mem;have ls:WD (fP yW sY) as true (.int (c:Nat)):=by
  refine xb (ze (za hs) zq) ?_ rfl;show((Zm _).bind λss=>if ss.length<=1000 then some _ else none)=_;have:Zm (r.map D.int)=some r:=by
   clear dc inn mem h1 h2 hl hs hc
   induction r with
   |nil=>rfl
   |cons x r ih=>show(Zm<|r.map D.int).bind _=_;rw[ih];rfl
  rw[this];show(if r.length<=1000 then _ else _)=_;rw[if_pos (by omega),dc]
 have w:=yx (h:=λx=>D.int<|Zc r x) (gg:=gN 0) (fe:=wV .lst zi xq wC) (zD c) (wM (ze ls zq)<|by omega) (by rw[zzB,zyU];omega) λx mx=>by
  rw[hc];obtain⟨a1,a2,a3⟩:=Vi hl<|mem x<|yj mx;refine⟨_,rfl,WD.e<|Ql (za rfl) rfl (ze (za rfl) zq) ?_ rfl⟩;show(Pp _ _).bind _=_;rw[a3];show(if(r.map D.int).length<=1000 then some _ else none)=_;rw[if_pos (by rw[zzB];omega),show(((Zc r x).toNat:Nat):Int)=Zc r x by have:=a1.1;omega]
 rw[show((zD c).map λx=>D.int<|Zc r x)=((zD c).map<|Zc r).map D.int from(zyB).symm]at w;exact⟨w,λx hx=>⟨(Vi hl<|mem x hx).1,(Vi hl<|mem x hx).2.1⟩⟩
end
section
variable{n m c:Nat}{J:TZ}{e:Int}{Ds:DZ}{S:SS}{r:List Int}
abbrev cH(r:List Int)(c:Nat):List Int:=(zD c).map<|Zc r
abbrev lJ(J:TZ)(r:List Int)(c:Nat):TZ:=(cH r c).map λa=>(cH r c).map λb=>zM r<|yE J a b
abbrev lD(Ds:DZ)(r:List Int)(c:Nat):DZ:=Ds.map λp=>(p.1,p.2.map λq=>(cH r c).map λa=>zM r<|zM q a)
abbrev lS(S:SS)(r:List Int)(c:Nat):SS:=S.map λp=>(p.1,((cH r c).filter λa=>decide (a ∈ p.2)).map<|zM r)
def BU(A:Alg n m J e Ds)(L:LawA n m J e Ds)(hS:Sg n S)(hn:RE (wm [(true,zm n m J e Ds S)]) (zc r))(hl:r.length=n)(h1:∀v,zQ n v->zQ c (zM r v))(h2:∀x,zQ c x->∃v,zQ n v/\zM r v=x)(cn:c<=n):RE (xM [(true,zm n m J e Ds S)]) (.tup [zm c m (lJ J r c) (zM r e) (lD Ds r c)<|lS S r c,zc r]):=by
 have n8:=A.n8;have m6:=A.m6;have dl:=A.dl;have s0:yI (zx xq xo) [sT<|zm n m J e Ds S,none,none,none,none,none]=some (.nx [sT<|zm n m J e Ds S,none,none,none,none,none]):=by
  have:zx xq xo [sT<|zm n m J e Ds S,none,none,none,none,none]=some (.ow<|.lf true .non,[sT<|zm n m J e Ds S,none,none,none,none,none]):=Z9 (ze (za (i:=0) rfl) zq)<|Ot A L;unfold yI;rw[this];rfl
 have s1:=yQ (p:=1) (as:=[sT<|zm n m J e Ds S,none,none,none,none,none]) (xm (WD.e<|za (i:=0) rfl) hn)<|zo rfl;obtain⟨w2,hc⟩:=BL (as:=[sT<|zm n m J e Ds S,sT<|zc r,none,none,none,none]) n8 hl h1 h2 cn rfl rfl;have s2:=yQ (p:=2) w2<|zo rfl;have cl:(cH r c).length=c:=by rw[zzB,zzB,zyU]
 have ci:∀a ∈ cH r c,zQ n a:=λa ma=>by
  obtain⟨x,mx,rfl⟩:=zxE.mp ma;exact(hc x<|yj mx).1
 have he:zQ n e:=⟨A.e0,A.en⟩;have w3:WE (zr (yu zu) [none,some 1,some 2,some 0] zG zN<|zr (yu zu) [none,some 1,some 0,some 3] zG zN<|f2 zi (f2 (f2 (f2 zC yq zk) zu zk) zg zk) zk) [sT<|zm n m J e Ds S,sT<|zc r,sT<|zc<|cH r c,none,none,none] (zv<|lJ J r c):=by
  have w:=yx (as:=[sT<|zm n m J e Ds S,sT<|zc r,sT<|zc<|cH r c,none,none,none]) (cap:=[none,some 1,some 2,some 0]) (gg:=gN 0) (cH r c) (xI (g:=D.int) (f:=fV 2)<|WD.e<|za (i:=2) rfl) (by rw[cl];omega) λa ma=>by
   have wi:=yx (as:=[sI a,sT<|zc r,sT<|zc<|cH r c,sT<|zm n m J e Ds S]) (cap:=[none,some 1,some 0,some 3]) (gg:=gN 0) (fe:=f2 zi (f2 (f2 (f2 zC yq zk) zu zk) zg zk) zk) (cH r c) (xI (g:=D.int) (f:=fV 2)<|WD.e<|za (i:=2) rfl) (by rw[cl];omega) λb mb=>
    ⟨[sI b,sT<|zc r,sI a,sT<|zm n m J e Ds S],rfl,WD.e<|zj (za (i:=1) rfl) (xy A.j (ci a ma) (ci b mb) (zE (za (i:=3) rfl) zb rfl) (za (i:=2) rfl)<|za (i:=0) rfl) (y7 hl<|Zg A.j (ci a ma)<|ci b mb) rfl⟩
   rw[show((cH r c).map λb=>D.int<|zM r<|yE J a b)=((cH r c).map λb=>zM r<|yE J a b).map D.int from(zyB (f:=λb=>zM r<|yE J a b) (g:=D.int)).symm]at wi;exact⟨[sI a,sT<|zc r,sT<|zc<|cH r c,sT<|zm n m J e Ds S],rfl,wi⟩
  rw[show((cH r c).map λa=>zc<|(cH r c).map λb=>zM r<|yE J a b)=(lJ J r c).map zc from(zyB (g:=zc)).symm]at w;exact w
 have s3:=yQ (p:=3) w3<|zo rfl;have w4:WE (zr (yu<|f2 zg yV zk) [none,none,some 1,some 2] (gT 2<|yd zG<|yd (gN 1) xG) zN<|yh<|dC zg<|dC (zr (yu zi) [none,some 2,some 3] zG zN<|zr (yu zu) [none,some 1,some 0] zG zN<|f2 zi (f2 zu zg zk) zk) dN) [sT<|zm n m J e Ds S,sT<|zc r,sT<|zc<|cH r c,sT<|zv<|lJ J r c,none,none] (.lst<|(lD Ds r c).map zK):=by
  have w:=yx (as:=[sT<|zm n m J e Ds S,sT<|zc r,sT<|zc<|cH r c,sT<|zv<|lJ J r c,none,none]) (cap:=[none,none,some 1,some 2]) (gg:=gT 2<|yd zG<|yd (gN 1) xG) (fi:=yu<|f2 zg yV zk) Ds (xI (g:=zK)<|WD.e<|zE (za (i:=0) rfl) zb rfl) (by omega) λp mp=>by
   have hT:=A.ds p mp;have wi:=yx (as:=[sT<|.str p.1,sT<|zv p.2,sT<|zc r,sT<|zc<|cH r c]) (cap:=[none,some 2,some 3]) (gg:=gN 0) p.2 (xI (g:=zc) (f:=fV 1)<|WD.e<|za (i:=1) rfl) (by rw[hT.1];omega) λq mq=>by
    have wj:=yx (as:=[sT<|zc q,sT<|zc r,sT<|zc<|cH r c]) (cap:=[none,some 1,some 0]) (gg:=gN 0) (cH r c) (xI (g:=D.int) (f:=fV 2)<|WD.e<|za (i:=2) rfl) (by rw[cl];omega) λa ma=>
     ⟨[sI a,sT<|zc r,sT<|zc q],rfl,WD.e<|zj (za (i:=1) rfl) (zj (za (i:=2) rfl) (za (i:=0) rfl) (rowAt (hT.2 q mq)<|ci a ma).1 rfl) (y7 hl (rowAt (hT.2 q mq)<|ci a ma).2) rfl⟩
    rw[show((cH r c).map λa=>D.int<|zM r<|zM q a)=((cH r c).map λa=>zM r<|zM q a).map D.int from(zyB (f:=λa=>zM r<|zM q a) (g:=D.int)).symm]at wj;exact⟨[sT<|zc q,sT<|zc r,sT<|zc<|cH r c],rfl,wj⟩
   rw[show(p.2.map λq=>zc<|(cH r c).map λa=>zM r<|zM q a)=(p.2.map λq=>(cH r c).map λa=>zM r<|zM q a).map zc from(zyB (g:=zc)).symm]at wi;exact⟨[sT<|.str p.1,sT<|zv p.2,sT<|zc r,sT<|zc<|cH r c],rfl,wH (WD.e<|za (i:=0) rfl) wi⟩
  rw[show(Ds.map λp=>zK (p.1,p.2.map λq=>(cH r c).map λa=>zM r<|zM q a))=(lD Ds r c).map zK from(zyB (g:=zK)).symm]at w;exact w
 have s4:=yQ (p:=4) w4<|zo rfl;have w5:WE (zr (yu<|f2 zg wR zk) [none,none,some 1,some 2] (gT 2<|yd zG<|yd (gN 1) xG) zN<|yh<|dC zg<|dC (zr (yu zC) [none,some 2,some 1] zG (fT<|f2 zg zu<|zt .In)<|f2 zi zg zk) dN) [sT<|zm n m J e Ds S,sT<|zc r,sT<|zc<|cH r c,sT<|zv<|lJ J r c,sT<|.lst<|(lD Ds r c).map zK,none] (.lst<|(lS S r c).map ye):=by
  have w:=yx (as:=[sT<|zm n m J e Ds S,sT<|zc r,sT<|zc<|cH r c,sT<|zv<|lJ J r c,sT<|.lst<|(lD Ds r c).map zK,none]) (cap:=[none,none,some 1,some 2]) (gg:=gT 2<|yd zG<|yd (gN 1) xG) (fi:=yu<|f2 zg wR zk) S (xI (g:=ye)<|WD.e<|zE (za (i:=0) rfl) zb rfl) (by have:=hS.1;omega) λp mp=>by
   have wj:=E1 (as:=[sT<|.str p.1,sT<|zc p.2,sT<|zc r,sT<|zc<|cH r c]) (h:=λa=>D.int<|zM r a) (p:=λa=>decide (a ∈ p.2)) (it:=λx:Int=>(true,D.int x)) (cap:=[none,some 2,some 1]) (gg:=gN 0) (tt:=fT<|f2 zg zu<|zt .In) (fe:=f2 zi zg zk) (cH r c) (xI (g:=D.int) (f:=fV 3)<|WD.e<|za (i:=3) rfl) (by rw[cl];omega) λa ma=>
    ⟨[sI a,sT<|zc r,sT<|zc p.2],rfl,zJ (Ub (za (i:=0) rfl)<|za (i:=2) rfl) rfl,λ_=>WD.e<|zj (za (i:=1) rfl) (za (i:=0) rfl) (y7 hl<|ci a ma) rfl⟩
   rw[show(((cH r c).filter λa=>decide (a ∈ p.2)).map λa=>D.int<|zM r a)=(((cH r c).filter λa=>decide (a ∈ p.2)).map<|zM r).map D.int from(zyB (f:=zM r) (g:=D.int)).symm]at wj;exact⟨[sT<|.str p.1,sT<|zc p.2,sT<|zc r,sT<|zc<|cH r c],rfl,wH (WD.e<|za (i:=0) rfl) wj⟩
  rw[show(S.map λp=>ye (p.1,((cH r c).filter λa=>decide (a ∈ p.2)).map<|zM r))=(lS S r c).map ye from(zyB (g:=ye)).symm]at w;exact w
 have s5:=yQ (p:=5) w5<|zo rfl;have wl:WD (fP xg xx) [sT<|zm n m J e Ds S,sT<|zc r,sT<|zc<|cH r c,sT<|zv<|lJ J r c,sT<|.lst<|(lD Ds r c).map zK,sT<|.lst<|(lS S r c).map ye] true (.int (c:Nat)):=by
  have:=xb (g:=xx) (ze (za (as:=[sT<|zm n m J e Ds S,sT<|zc r,sT<|zc<|cH r c,sT<|zv<|lJ J r c,sT<|.lst<|(lD Ds r c).map zK,sT<|.lst<|(lS S r c).map ye]) (i:=2) rfl) zq) rfl rfl;rw[zzB,cl]at this;exact this
 exact yk rfl<|zd s0<|zd s1<|zd s2<|zd s3<|zd s4<|zd s5<|yg<|wH (Vf (zh wl<|zh (zj (za (i:=0) rfl) zb rfl rfl)<|zh (za (i:=3) rfl)<|zh (zj (za (i:=1) rfl) (zj (za (i:=0) rfl) zb rfl rfl) (y7 hl he) rfl)<|zh (za (i:=4) rfl)<|zh (za (i:=5) rfl) zR) (wX rfl) rfl rfl)<|WD.e<|za (i:=1) rfl
end
section
variable{n m c:Nat}{J:TZ}{e:Int}{Ds:DZ}{S:SS}{r:List Int}
def E2{a b:Int}(hJ:Tab n n J)(ha:zQ n a):zM (col J b) a=yE J a b:=by
 have h0:=ha.1;have h1:=ha.2;have hk:a.toNat<J.length:=by rw[hJ.1];omega
 show(_[a.toNat]?).getD 0=zM _ b;rw[zzI,zzE hk];rfl
def Jk{g:Int->Int}{x:Int}(hx:zQ c x):zM ((cH r c).map g) x=g (Zc r x):=by
 rw[zyB];exact X5 hx
def Jq{x y:Int}(hx:zQ c x)(hy:zQ c y):yE (lJ J r c) x y=zM r (yE J (Zc r x)<|Zc r y):=by
 have h0:=hx.1;have h1:=hx.2;have e1:(lJ J r c)[x.toNat]? = some ((cH r c).map λb=>zM r<|yE J (Zc r x) b):=by
  rw[zzI,zzI,zzI,List.getElem?_range (show x.toNat<c by omega)];show some ((cH r c).map λb=>zM r<|yE J (Zc r ((x.toNat:Nat):Int)) b)=_;rw[show(x.toNat:Int)=x by omega]
 show zM _ y=_;rw[e1];exact Jk hy
abbrev lT(T:TZ)(r:List Int)(c:Nat):TZ:=T.map λq=>(cH r c).map λa=>zM r<|zM q a
def Jr{T:TZ}{i x:Int}(hT:Tab m n T)(hi:zQ m i)(hx:zQ c x):yE (lT T r c) i x=zM r (yE T i<|Zc r x):=by
 have h0:=hi.1;have h1:=hi.2;have hk:i.toNat<T.length:=by rw[hT.1];omega
 show zM _ x=zM r (zM _ _);rw[zzI,zzE hk];exact Jk hx
abbrev lV(V:List Int)(r:List Int)(c:Nat):List Int:=((cH r c).filter λa=>decide (a ∈ V)).map<|zM r
structure Ct(n m c:Nat)(J:TZ)(e:Int)(Ds:DZ)(S:SS)(r:List Int):Prop where
 al:Alg c m (lJ J r c) (zM r e) (lD Ds r c)
 cn:c<=n
 ln:r.length=n
 i1:∀v,zQ n v->zQ c (zM r v)
 ix:∀x,zQ c x->zQ n (Zc r x)/\zM r (Zc r x)=x
 jc:∀a b,zQ n a->zQ n b->yE (lJ J r c) (zM r a) (zM r b)=zM r (yE J a b)
 dc:∀p ∈ Ds,∀i a,zQ m i->zQ n a->yE (lT p.2 r c) i (zM r a)=zM r (yE p.2 i a)
 sc:∀p ∈ S,∀a,zQ n a->(zM r a ∈ lV p.2 r c ↔ a ∈ p.2)
structure Cg(n m:Nat)(J:TZ)(Ds:DZ)(S:SS)(r:List Int)(Rs:TZ)(k:Nat):Prop where
 R:∀q ∈ Rs,Row n q
 F:∀q ∈ Rs,Fm n m J Ds q
 x:∀x,zQ n x->tR J x ∈ Rs/\col J x ∈ Rs
 d:∀p ∈ Ds,∀c,zQ m c->tR p.2 c ∈ Rs
 nb:Nb n S Rs k r
 st:PP.St (Mu S) zM (λr=>r ∈ Rs) n k
def Ol(A:Alg n m J e Ds)(L:LawA n m J e Ds)(hS:Sg n S):∃(c:Nat) (r:List Int) (Rs:TZ) (k:Nat),Ct n m c J e Ds S r/\Cg n m J Ds S r Rs k/\RE (xM [(true,zm n m J e Ds S)]) (.tup [zm c m (lJ J r c) (zM r e) (lD Ds r c)<|lS S r c,zc r]):=by
 obtain⟨Rs,k,r,hR,hFm,hx,hd,nb,st,hn⟩:=O0 A hS;obtain⟨c,cn,h1,h2⟩:=nb.cnt;have n1:=A.n1;have n8:=A.n8;have he:zQ n e:=⟨A.e0,A.en⟩;have hl:=nb.ln;have ix:∀x,zQ c x->zQ n (Zc r x)/\zM r (Zc r x)=x:=λx hx=>by
  obtain⟨v,hv,ev⟩:=h2 x hx;have hk:v.toNat<r.length:=by have:=hv.1;have:=hv.2;omega
  have e1:zM r v=r[v.toNat]:=by unfold zM;rw[zzE hk];rfl
  have mx:x ∈ r:=by rw[<-ev,e1];exact zxA hk
  exact⟨(Vi hl mx).1,(Vi hl mx).2.1⟩
 have cl:(cH r c).length=c:=by rw[zzB,zzB,zyU]
 have ci:∀a ∈ cH r c,zQ n a:=λa ma=>by
  obtain⟨x,mx,rfl⟩:=zxE.mp ma;exact(ix x<|yj mx).1
 have rw_:∀g:Int->Int,(∀a,zQ n a->zQ n (g a))->Row c ((cH r c).map λa=>zM r<|g a):=λg hg=>⟨by rw[zzB,cl],λy my=>by
  obtain⟨a,ma,rfl⟩:=zxE.mp my;exact h1 _<|hg a<|ci a ma⟩
 have ie:=h1 e he;have c1:1<=c:=by have:=ie.1;have:=ie.2;omega
 refine⟨c,r,Rs,k,⟨⟨c1,by omega,A.m1,A.m6,⟨by rw[zzB,cl],λq mq=>?_⟩,ie.1,ie.2,by rw[zzB];exact A.dl,λp mp=>?_, ?_⟩,cn,hl,h1,ix,λa b ha hb=>?_,λp mp i a hi ha=>?_,λp mp a ha=>?_⟩,⟨hR,hFm,hx,hd,nb,st⟩,BU A L hS hn hl h1 h2 cn⟩
 . obtain⟨a,ma,rfl⟩:=zxE.mp mq;exact rw_ (yE J a) λb hb=>Zg A.j (ci a ma) hb
 . obtain⟨q,mq,rfl⟩:=zxE.mp mp;have hT:=A.ds q mq;refine⟨by rw[zzB];exact hT.1,λt mt=>?_⟩;obtain⟨s,ms,rfl⟩:=zxE.mp mt;exact rw_ (zM s) λb hb=>(rowAt (hT.2 s ms) hb).2
 . rw[zyB];exact A.nd
 . obtain⟨ia,ea⟩:=ix _<|h1 a ha;obtain⟨ib,eb⟩:=ix _<|h1 b hb;rw[Jq (h1 a ha)<|h1 b hb];have q1:=nb.row st hR (hx _ ib).2 ia ha ea;rw[E2 A.j ia,E2 A.j ha]at q1;have q2:=nb.row st hR (hx _ ha).1 ib hb eb;exact q1.trans q2
 . obtain⟨ia,ea⟩:=ix _<|h1 a ha;rw[Jr (A.ds p mp) hi<|h1 a ha];exact nb.row st hR (hd p mp i hi) ia ha ea
 . have sg:∀u v,zQ n u->zQ n v->zM r u=zM r v->u ∈ p.2->v ∈ p.2:=λu v hu hv q mu=>by
    have:=List.map_inj_left.mp (nb.sgn hu hv q) p mp;rw[zyO mu]at this;exact of_decide_eq_true this.symm
   obtain⟨ia,ea⟩:=ix _<|h1 a ha;constructor
   . intro z;obtain⟨a',ma,q⟩:=zxE.mp z;obtain⟨m1,m2⟩:=List.mem_filter.mp ma;exact sg a' a (ci a' m1) ha q<|of_decide_eq_true m2
   . intro z;refine zxE.mpr ⟨Zc r<|zM r a,List.mem_filter.mpr ⟨zxE.mpr ⟨_,wy<|h1 a ha,rfl⟩,zyO<|sg a _ ha ia ea.symm z⟩,ea⟩
end
section
variable{n m c:Nat}{J:TZ}{e:Int}{Ds:DZ}{S:SS}{r:List Int}
def EX(c:Nat):(zD c).Nodup:=List.Pairwise.map _ (λa b h z=>h<|Int.ofNat_inj.mp z) List.nodup_range
def uD(K:Ct n m c J e Ds S r)(V:List Int):lV V r c=(zD c).filter λx=>decide (Zc r x ∈ V):=by
 show(((zD c).map _).filter λa=>decide _).map _=_;rw[List.filter_map,zyB]
 conv=>rhs;rw[<-List.map_id' (List.filter _<|zD c)]
 refine List.map_congr_left λa ma=>?_;exact(K.ix a<|yj (List.mem_filter.mp ma).1).2
end
def xu{α:Type}{f:α->D}{g:α->Str}(l:List α)(hl:l.length<=1000)(h:∀a ∈ l,zk (f a) (.int 0)=some (.im<|.str<|g a)):RE (vf [(true,.lst<|l.map f)]) (.lst<|l.map λa=>D.str<|g a):=
 yk rfl (yg<|yx l (xI<|WD.e<|za rfl) (by omega) λa ma=>⟨_,rfl,WD.e<|zj (za rfl) zb (h a ma) rfl⟩)
def FH:∀l:List Str,wN 60 (.lst<|l.map D.str) (.lst<|l.map D.str)=some true:=λl=>by
 refine Pl λx m=>?_;obtain⟨s,_,rfl⟩:=zxE.mp m;show some _=_;simp
def Ie{a b c:EF}{as:AS}{i j k:Int}{s t u:Bool}(ha:WD a as s (.int i))(hb:WD b as t (.int j))(hc:WD c as u (.int k))(h1:i<=j)(h2:j<=k):WD (wa a b c (zt .LtE)<|zt .LtE) as true (.bl true):=by
 unfold WD at *;unfold wa;rw[ha];simp only[zyL];rw[hb];simp only[zyL];simp only[RV.frz,O.frz,RV.view,O.toD,O.str,zyL,zt,Gh,Sn,T_,Sl,h1,h2,decide_true,hc];rfl
def Pv{s:Bool}{x:Int}:W_ [(s,.int x)]=sT (.bl true):=
 xR rfl (y_<|Yw (RZ (za rfl) rfl) (λ_=>Ac (q:=false)<|RZ (za rfl) rfl) (λz=>nomatch z))
def Bm{x k:Int}(h0:0<=x)(h1:x<=k):vC [(true,.int x),(true,.int 0),(true,.int k)]=sT (.bl true):=
 xR rfl (y_<|Yw (yB (ze (za rfl) zq) Pv) (λ_=>Ie (za rfl) (za rfl) (za rfl) h0 h1) (λz=>nomatch z))
def Qn{α:Type}:∀l:List α,Nj [.lst<|l.map λ_=>D.bl true]=some (.im<|.bl true):=λl=>by
 have:Yg (l.map λ_=>D.bl true)=some (l.map λ_=>true):=by
  induction l with
  |nil=>rfl
  |cons a l ih=>show(Yg<|l.map λ_=>D.bl true).bind _=_;rw[ih];rfl
 show(Yg _).bind _=_;rw[this];show some _=_;rw[List.all_eq_true.mpr λx mx=>by obtain⟨_,_,rfl⟩:=zxE.mp mx;rfl]
section
variable{n m c:Nat}{J J':TZ}{e e':Int}{Ds Ds':DZ}{S S':SS}{r:List Int}
def BP(hr:∀x ∈ r,zQ c x)(hl:r.length<=1000):Z1 [(true,zc r),(true,.int c)]=sT (.bl true):=by
 have w:=yx (as:=[sT<|zc r,sI c]) (cap:=[none,some 1]) (gg:=gN 0) (fe:=zx (aC zg<|aC zL<|aC (f2 zi zH ZT) aN) vC) r (xI<|WD.e<|za (i:=0) rfl) (by omega) λx mx=>⟨_,rfl,WD.e<|yB (ze (za rfl)<|ze (zb)<|ze (QT (za rfl) zb) zq)<|Bm (hr x mx).1<|by have:=(hr x mx).2;omega⟩;exact xR rfl<|y_<|Yw (RZ (za rfl) rfl) (λ_=>ZU w<|Qn r) (λz=>nomatch z)
def Cv(dl:Ds.length<=1000)(dl':Ds'.length<=1000)(sl:S.length<=1000)(sl':S'.length<=1000)(hd:Ds'.map (·.1)=Ds.map (·.1))(hs:S'.map (·.1)=S.map (·.1)):wZ [(true,zm n m J e Ds S),(true,zm c m J' e' Ds' S')]=sT (.bl true):=by
 have n1:=xu (f:=zK) Ds dl λ_ _=>rfl;have n2:=xu (f:=zK) Ds' dl' λ_ _=>rfl;have n3:=xu (f:=ye) S sl λ_ _=>rfl;have n4:=xu (f:=ye) S' sl' λ_ _=>rfl;have mm:∀(l:List (Str×TZ)),(l.map λa=>D.str a.1)=(l.map (·.1)).map D.str:=λl=>(zyB).symm;have ms:∀(l:SS),(l.map λa=>D.str a.1)=(l.map (·.1)).map D.str:=λl=>(zyB).symm;rw[mm]at n1 n2;rw[ms]at n3 n4;rw[hd]at n2;rw[hs]at n4;have t1:WT (fT<|f2 (f2 zg zH zk) (f2 zi zH zk)<|zt .NotEq) [sT<|zm n m J e Ds S,sT<|zm c m J' e' Ds' S'] false:=zJ (Ur (c:=true) (zj (za rfl) zb rfl rfl) (zj (za rfl) zb rfl rfl) (by show some ((m:Int)==m)=_;simp)) rfl;refine xR rfl<|zW (zU t1 rfl)<|y_<|Yw (Xh (xm (WD.e<|zE (za rfl) zb rfl) n1) (xm (WD.e<|zE (za rfl) zb rfl) n2)<|FH _) (λ_=>Xh (xm (WD.e<|zE (za rfl) zb rfl) n3) (xm (WD.e<|zE (za rfl) zb rfl) n4)<|FH _) (λz=>nomatch z)
abbrev pE:SF:=xB (fT<|f2 (f2 zu (f2 (f2 (f2 zg yq zk) zC zk) zZ zk) zk) (f2 (f2 (f2 zi yq zk) (f2 zu zC zk) zk) (f2 zu zZ zk) zk)<|zt .NotEq) (zV<|fC<|.bl false) xQ
def OW(A:Alg n m J e Ds)(B:Alg c m J' e' Ds')(hl:r.length=n)(hr:∀a,zQ n a->zQ c (zM r a))(hj:∀a b,zQ n a->zQ n b->zM r (yE J a b)=yE J' (zM r a) (zM r b))(he:zM r e=e'):wD [(true,zm n m J e Ds S),(true,zm c m J' e' Ds' S'),(true,zc r)]=sT (.bl true):=by
 have n8:=A.n8;have rn:=λe3 e4=>by
  have:=yU (as:=[sT<|zm n m J e Ds S,sT<|zm c m J' e' Ds' S',sT<|zc r,e3,e4]) (ze (zj (g:=zk) (za (i:=0) rfl) (zb (x:=.int 0)) rfl rfl) zq) (by omega) (by omega);rw[zyI]at this;exact this
 obtain⟨as',hf,e3,e4,rfl⟩:=yM (g:=gN 3)
  (λ_ as=>∃e3 e4,as=[sT<|zm n m J e Ds S,sT<|zm c m J' e' Ds' S',sT<|zc r,e3,e4]) (xk 0 n) 0 [sT<|zm n m J e Ds S,sT<|zm c m J' e' Ds' S',sT<|zc r,none,none] (λi x as hx hI=>by
   obtain⟨e3,e4,rfl⟩:=hI;obtain⟨rfl,hi⟩:=xJ hx;rw[Int.zero_add];have ha:zQ n i:=⟨by omega,by omega⟩;obtain⟨as2,hf2,e4',rfl⟩:=yM (g:=wO) (f:=pE)
    (λ_ as=>∃e4,as=[sT<|zm n m J e Ds S,sT<|zm c m J' e' Ds' S',sT<|zc r,sI i,e4]) (xk 0 n) 0 [sT<|zm n m J e Ds S,sT<|zm c m J' e' Ds' S',sT<|zc r,sI i,e4] (λj x as hx hI=>by
     obtain⟨e4,rfl⟩:=hI;obtain⟨rfl,hj'⟩:=xJ hx;rw[Int.zero_add];have hb:zQ n j:=⟨by omega,by omega⟩;refine⟨_,rfl,_,zU (zJ (Ur (c:=true) (zj (za rfl) (xy A.j ha hb (zE (za rfl) zb rfl) (za rfl)<|za rfl) (y7 hl<|Zg A.j ha hb) rfl) (xy B.j (hr _ ha) (hr _ hb) (zE (za rfl) zb rfl) (zj (za rfl) (za rfl) (y7 hl ha) rfl)<|zj (za rfl) (za rfl) (y7 hl hb) rfl) (by rw[hj _ _ ha hb];show some _=_;simp)) rfl) rfl,_,rfl⟩) ⟨_,rfl⟩
   exact⟨_,rfl,_,yF (rn _ _) hf2,_,_,rfl⟩) ⟨_,_,rfl⟩
 refine xR rfl<|zW (yF (rn _ _) hf)<|y_<|yt (zj (za rfl) (zj (za rfl) zb rfl rfl) (y7 hl ⟨A.e0,A.en⟩) rfl) (zj (za rfl) zb rfl rfl) (by rw[he];show some _=_;simp)
end
theorem uV{α:Type}(f g:α->D):∀l:List α,v9 true (l.map f) (l.map g)=l.map λa=>(true,D.tup [f a,g a])
 | []=>rfl
 |a::l=>congrArg ((true,D.tup [f a,g a]) :: ·)<|uV f g l
theorem Dt{α:Type}(f g:α->D):∀l:List α,((l.map f).zip<|l.map g).map (λq=>(true,D.tup [q.1,q.2]))=l.map λa=>(true,D.tup [f a,g a])
 | []=>rfl
 |a::l=>congrArg ((true,D.tup [f a,g a]) :: ·)<|Dt f g l
theorem QH:∀(T:List Int) (k:Nat),Y7 true k (T.map D.int)=((List.range' k T.length).zip T).map λq=>(true,D.tup [.int (q.1:Int),.int q.2])
 | [],_=>rfl
 |r::T,k=>by
  show _::Y7 true _ _=_;rw[QH T<|k+1];rfl
section
variable{n m c:Nat}{J J':TZ}{e e':Int}{Ds Ds':DZ}{S S':SS}{r l:List Int}
def GS{as:AS}{cap:List (Option Nat)}{f:EF}(hr:r.length=n)(hf:WE f as (zc l))(hc:vB cap as=[none,sT<|zc r])(ll:l.length<=1000)(h:∀x ∈ l,zQ n x):WE (zr (yu f) cap zG zN<|f2 zi zg zk) as (zc<|l.map<|zM r):=by
 have w:=yx (gg:=gN 0) l (xI hf) (by omega) λx mx=>by
  rw[hc];exact⟨_,rfl,WD.e<|zj (za (i:=1) rfl) (za (i:=0) rfl) (y7 hr<|h x mx) rfl⟩
 rw[show(l.map λx=>D.int<|zM r x)=(l.map<|zM r).map D.int from(zyB).symm]at w;exact w
abbrev oE:SF:=xB (fT<|f2 (zr (yu zC) [none,some 2] zG zN<|f2 zi zg zk) (zr (yu zu) [none,some 4] zG zN<|f2 zi zg zk)<|zt .NotEq) (zV<|fC<|.bl false) xQ
def S4{T:TZ}{G:List Int->List Int}(n8:n<=8)(hl:r.length=n)(hr:∀x ∈ r,zQ c x)(hT:∀q ∈ T,Row n q)(hG:∀q ∈ T,(G q).length=c/\q.map (zM r)=r.map (zM<|G q)):xY [(true,zv T),(true,zv<|T.map G),(true,zc r)]=sT (.bl true):=by
 have hz:Qk (aC zg yW) [sT<|zv T,sT<|zv<|T.map G,sT<|zc r,none,none]=some (T.map λq=>(true,D.tup [zc q,zc<|G q]),[sT<|zv T,sT<|zv<|T.map G,sT<|zc r,none,none]):=by
  have:=EN (as:=[sT<|zv T,sT<|zv<|T.map G,sT<|zc r,none,none]) (WD.e<|za (i:=0) rfl)<|WD.e<|za (i:=1) rfl;rw[zyB]at this;rw[this];exact congrArg (λz=>some (z,_))<|uV zc (λq=>zc<|G q) T
 obtain⟨as',hf,e3,e4,rfl⟩:=yM (g:=gT 2<|yd (gN 3)<|yd wO xG) (f:=oE)
  (λ_ as=>∃e3 e4,as=[sT<|zv T,sT<|zv<|T.map G,sT<|zc r,e3,e4]) (T.map λq=>(true,D.tup [zc q,zc<|G q])) 0 [sT<|zv T,sT<|zv<|T.map G,sT<|zc r,none,none] (λi x as hx hI=>by
   obtain⟨e3,e4,rfl⟩:=hI;rw[zzI]at hx;obtain⟨q,hq,rfl⟩:=zzX.mp hx;have mq:=zyA hq;have rq:=hT q mq;obtain⟨g1,g2⟩:=hG q mq;have w1:=GS (as:=[sT<|zv T,sT<|zv<|T.map G,sT<|zc r,sT<|zc q,sT<|zc<|G q]) (cap:=[none,some 2]) hl (WD.e<|za (i:=3) rfl) rfl (by rw[rq.1];omega) rq.2;have w2:=GS (as:=[sT<|zv T,sT<|zv<|T.map G,sT<|zc r,sT<|zc q,sT<|zc<|G q]) (cap:=[none,some 4]) g1 (WD.e<|za (i:=2) rfl) rfl (by omega) hr;rw[<-g2]at w2;exact⟨_,rfl,_,zU (zJ (LU w1 w2 OD) rfl) rfl,_,_,rfl⟩) ⟨_,_,rfl⟩
 exact xR rfl<|zW (yF hz hf)<|y_ zb
def OT{V V':List Int}(hl:r.length<=1000)(h:∀(i:Nat) (v:Int),r[i]? = some v->((i:Int) ∈ V ↔ v ∈ V')):x9 [(true,zc V),(true,zc V'),(true,zc r)]=sT (.bl true):=by
 have hi:M9 zu [sT<|zc V,sT<|zc V',sT<|zc r]=some (((List.range' 0 r.length).zip r).map λq=>(true,D.tup [.int (q.1:Int),.int q.2]),[sT<|zc V,sT<|zc V',sT<|zc r]):=by
  rw[<-QH];rfl
 have w:=yx (cap:=[none,none,some 0,some 1]) (gg:=gT 2<|yd zG<|yd (gN 1) xG) ((List.range' 0 r.length).zip r) hi (by rw[List.length_zip,List.length_range'];omega) λq mq=>⟨_,rfl,by
  obtain⟨j,hj⟩:=List.mem_iff_getElem?.mp mq;obtain⟨h1,h2⟩:=List.getElem?_zip_eq_some.mp hj;obtain⟨h3,h4⟩:=zzG.mp h1;rw[List.getElem_range']at h4;have hv:r[q.1]? = some q.2:=by rw[<-h4];simpa using h2
  have hh:=h q.1 q.2 hv;have:=yt (as:=[sI q.1,sI q.2,sT<|zc V,sT<|zc V']) (Ub (za (i:=0) rfl)<|za (i:=2) rfl) (Ub (za (i:=1) rfl)<|za (i:=3) rfl) (by
   by_cases z:q.2 ∈ V'
   . rw[zyO z,zyO<|hh.mpr z];rfl
   . rw[zyG z,zyG λy=>z<|hh.mp y];rfl)
  exact WD.e this⟩
 exact xR rfl<|y_<|ZU w<|Qn _
def Eo{G:List Int->List Int}{W:List Int->List Int}(A:Alg n m J e Ds)(B:Alg c m J' e' (Ds.map λp=>(p.1,p.2.map G)))(sl:S.length<=10)(hl:r.length=n)(hr:∀x ∈ r,zQ c x)(hj:∀a b,zQ n a->zQ n b->zM r (yE J a b)=yE J' (zM r a) (zM r b))(he:zM r e=e')
 (hG:∀p ∈ Ds,∀q ∈ p.2,(G q).length=c/\q.map (zM r)=r.map (zM<|G q)) (hW:∀p ∈ S,∀(i:Nat) (v:Int),r[i]? = some v->((i:Int) ∈ p.2 ↔ v ∈ W p.2)):
 yX [(true,zm n m J e Ds S),(true,zm c m J' e' (Ds.map λp=>(p.1,p.2.map G))<|S.map λp=>(p.1,W p.2)),(true,zc r)]=sT (.bl true):=by
 have n8:=A.n8;have dl:=A.dl;have ra:∀a,zQ n a->zQ c (zM r a):=λa ha=>by
  have hk:a.toNat<r.length:=by have:=ha.1;have:=ha.2;omega
  have:zM r a=r[a.toNat]:=by unfold zM;rw[zzE hk];rfl
  rw[this];exact hr _<|zxA hk
 have k1:=Cv (n:=n) (m:=m) (c:=c) (J:=J) (J':=J') (e:=e) (e':=e') (Ds:=Ds) (Ds':=Ds.map λp=>(p.1,p.2.map G)) (S:=S) (S':=S.map λp=>(p.1,W p.2)) (by omega) (by rw[zzB];omega) (by omega) (by rw[zzB];omega) (by rw[zyB];rfl) (by rw[zyB];rfl);have k2:=OW (S:=S) (S':=S.map λp=>(p.1,W p.2)) A B hl ra hj he;have t1:WT (vA (wU<|fT<|zx (aC zg yW) wZ)<|vA (fT<|f2 (fP xg xx) (f2 zg zL zk)<|zt .NotEq)<|wU<|fT<|zx (aC zu<|aC (f2 zi zL zk) aN) Z1) [sT<|zm n m J e Ds S,sT<|zm c m J' e' (Ds.map λp=>(p.1,p.2.map G))<|S.map λp=>(p.1,W p.2),sT<|zc r] false:=by
  refine Vn (ZP (k:=true)<|zJ (yB (ze (za (i:=0) rfl)<|ze (za (i:=1) rfl) zq) k1) rfl) (λ_=>Vn (zJ (Ur (c:=true) (xb (g:=xx) (ze (za (i:=2) rfl) zq) rfl rfl) (zj (za (i:=0) rfl) zb rfl rfl) (by rw[zzB,hl];show some ((n:Int)==n)=_;simp)) rfl) (λ_=>ZP (k:=true)<|zJ (yB (ze (za (i:=2) rfl)<|ze (zj (za (i:=1) rfl) (zb) rfl rfl) zq)<|BP hr<|by omega) rfl) (λz=>nomatch z)) (λz=>nomatch z)
 have t2:WT (wU<|fT<|zx (aC zg<|aC zi xg) wD) [sT<|zm n m J e Ds S,sT<|zm c m J' e' (Ds.map λp=>(p.1,p.2.map G))<|S.map λp=>(p.1,W p.2),sT<|zc r] false:=ZP (k:=true)<|zJ (yB (ze (za (i:=0) rfl)<|ze (za (i:=1) rfl)<|ze (za (i:=2) rfl) zq) k2) rfl;have z1:=V_ (as:=[sT<|zm n m J e Ds S,sT<|zm c m J' e' (Ds.map λp=>(p.1,p.2.map G))<|S.map λp=>(p.1,W p.2),sT<|zc r]) (a:=f2 zg yV zk) (b:=f2 zi yV zk) (WD.e<|zE (za (i:=0) rfl) zb rfl) (WD.e<|zE (za (i:=1) rfl) zb rfl) (.l _)<|.l _;rw[zyB,Dt zK (zK∘λp=>(p.1,p.2.map G)) Ds]at z1;have w3:=yx (cap:=[none,none,some 2]) (gg:=gT 2<|yd zG<|yd (gN 1) xG) (fe:=zx (aC (f2 zg zH zk)<|aC (f2 zi zH zk) xg) xY) Ds z1 (by omega) λp mp=>⟨_,rfl,WD.e<|yB (ze (zE (za (i:=0) rfl) (zb) rfl)<|ze (zE (za (i:=1) rfl) (zb) rfl)<|ze (za (i:=2) rfl) zq)<|S4 n8 hl hr (A.ds p mp).2<|hG p mp⟩;have t3:=ZP (k:=true)<|zJ (ZU w3<|Qn Ds) rfl;have z2:=V_ (as:=[sT<|zm n m J e Ds S,sT<|zm c m J' e' (Ds.map λp=>(p.1,p.2.map G))<|S.map λp=>(p.1,W p.2),sT<|zc r]) (a:=f2 zg wR zk) (b:=f2 zi wR zk) (WD.e<|zE (za (i:=0) rfl) zb rfl) (WD.e<|zE (za (i:=1) rfl) zb rfl) (.l _)<|.l _;rw[zyB,Dt ye (ye∘λp=>(p.1,W p.2)) S]at z2;have w4:=yx (cap:=[none,none,some 2]) (gg:=gT 2<|yd zG<|yd (gN 1) xG) (fe:=zx (aC (f2 zg zH zk)<|aC (f2 zi zH zk) xg) x9) S z2 (by omega) λp mp=>⟨_,rfl,WD.e<|yB (ze (zE (za (i:=0) rfl) (zb) rfl)<|ze (zE (za (i:=1) rfl) (zb) rfl)<|ze (za (i:=2) rfl) zq)<|OT (by omega)<|hW p mp⟩;exact xR rfl<|zW (zU t1 rfl)<|zW (zU t2 rfl)<|zW (zU t3 rfl)<|y_<|ZU w4<|Qn S
end
section
variable{n m c:Nat}{J:TZ}{e:Int}{Ds:DZ}{S:SS}{r:List Int}
def Cr{l:List Int}{j:Nat}{v:Int}(h:l[j]? = some v):zM l (j:Int)=v:=by
 show(l[((j:Int)).toNat]?).getD 0=v;rw[zyI,h];rfl
def G6(A:Alg n m J e Ds)(K:Ct n m c J e Ds S r)(sl:S.length<=10):
 yX [(true,zm n m J e Ds S),(true,zm c m (lJ J r c) (zM r e) (lD Ds r c)<|lS S r c),(true,zc r)]=sT (.bl true):=by
 have inn:∀{j:Nat}{v:Int},r[j]? = some v->zQ n j:=λ{j v} h=>by
  have:=(zzG.mp h).1;rw[K.ln]at this;exact⟨by omega,by omega⟩
 refine Eo (W:=λV=>lV V r c) A K.al sl K.ln (λx mx=>?_) (λa b ha hb=>(K.jc a b ha hb).symm) rfl (λp mp q mq=>⟨?_, ?_⟩) λp mp i v h=>?_
 . obtain⟨j,h⟩:=List.mem_iff_getElem?.mp mx;have:=K.i1 _<|inn h
   rwa [Cr h]at this
 . rw[zzB,zzB,zzB,zyU]
 . obtain⟨i,hi⟩:=List.mem_iff_getElem?.mp mq;have T:=A.ds p mp;have hil:=(zzG.mp hi).1;have hq:=T.2 q mq;refine List.ext_getElem? λj=>?_;rw[zzI,zzI]
   by_cases hj:j<n
   . have l1:j<q.length:=by rw[hq.1];exact hj
     have l2:j<r.length:=by rw[K.ln];exact hj
     have h1:=zzE l1;have h2:=zzE l2;rw[h1,h2];have d:=K.dc p mp i j ⟨by omega,by rw[T.1]at hil;omega⟩<|inn h2;rw[Cr h2]at d;have e1:yE (lT p.2 r c) (i:Int) r[j]=zM ((cH r c).map λa=>zM r<|zM q a) r[j]:=by
      show zM _ _=_;rw[zyI,zzI,hi];rfl
     have e2:yE p.2 (i:Int) (j:Int)=q[j]:=by
      show zM _ _=_;rw[zyI,hi];exact Cr h1
     rw[e1,e2]at d;exact congrArg some d.symm
   . rw[List.getElem?_eq_none (by rw[hq.1];omega),List.getElem?_eq_none<|by rw[K.ln];omega];rfl
 . have:=K.sc p mp i<|inn h;rw[Cr h]at this;exact this.symm
end
section
variable{n m c:Nat}{J:TZ}{e:Int}{Ds:DZ}{S:SS}{F:List Int}
def Zh(h:F.Perm (zD n)):F.length=n:=by rw[h.length_eq,zzB,zyU]
def v_(h:F.Perm (zD n)){v:Int}(hv:zQ n v):zQ n (zM F v):=by
 have hk:v.toNat<F.length:=by rw[Zh h];have:=hv.1;have:=hv.2;omega
 have e1:zM F v=F[v.toNat]:=by unfold zM;rw[zzE hk];rfl
 rw[e1];exact yj<|h.mem_iff.mp<|zxA hk
def Qh(h:F.Perm (zD n)){x:Int}(hx:zQ n x):zQ n (Zc F x)/\zM F (Zc F x)=x:=
 have k:=Vi (Zh h) (h.mem_iff.mpr<|wy hx)
 ⟨k.1,k.2.1⟩
def K6(h:F.Perm (zD n)){a b:Int}(ha:zQ n a)(hb:zQ n b)(q:zM F a=zM F b):a=b:=by
 have nd:=h.nodup_iff.mpr<|EX n;have h1:a.toNat<F.length:=by rw[Zh h];have:=ha.1;have:=ha.2;omega
 have h2:b.toNat<F.length:=by rw[Zh h];have:=hb.1;have:=hb.2;omega
 unfold zM at q;rw[zzE h1,zzE h2]at q;have:=(List.getElem_inj nd).mp<|q;have:=ha.1;have:=hb.1;omega
def XC(h:F.Perm (zD n)){a:Int}(ha:zQ n a):Zc F (zM F a)=a:=
 have k:=Qh h (v_ h ha)
 K6 h k.1 ha k.2
def Bb(A:Alg n m J e Ds)(h:F.Perm (zD n)):Ct n m n J e Ds S F:=by
 have he:zQ n e:=⟨A.e0,A.en⟩;have cl:(cH F n).length=n:=by rw[zzB,zzB,zyU]
 have ci:∀a ∈ cH F n,zQ n a:=λa ma=>by
  obtain⟨x,mx,rfl⟩:=zxE.mp ma;exact(Qh h<|yj mx).1
 have rw_:∀g:Int->Int,(∀a,zQ n a->zQ n (g a))->Row n ((cH F n).map λa=>zM F<|g a):=λg hg=>⟨by rw[zzB,cl],λy my=>by
  obtain⟨a,ma,rfl⟩:=zxE.mp my;exact v_ h<|hg a<|ci a ma⟩
 have ie:=v_ h he;refine⟨⟨A.n1,A.n8,A.m1,A.m6,⟨by rw[zzB,cl],λq mq=>?_⟩,ie.1,ie.2,by rw[zzB];exact A.dl,λp mp=>?_, ?_⟩,zzN _,Zh h,λv hv=>v_ h hv,λx hx=>Qh h hx,λa b ha hb=>?_,λp mp i a hi ha=>?_,λp mp a ha=>?_⟩
 . obtain⟨a,ma,rfl⟩:=zxE.mp mq;exact rw_ (yE J a) λb hb=>Zg A.j (ci a ma) hb
 . obtain⟨q,mq,rfl⟩:=zxE.mp mp;have hT:=A.ds q mq;refine⟨by rw[zzB];exact hT.1,λt mt=>?_⟩;obtain⟨s,ms,rfl⟩:=zxE.mp mt;exact rw_ (zM s) λb hb=>(rowAt (hT.2 s ms) hb).2
 . rw[zyB];exact A.nd
 . rw[Jq (v_ h ha)<|v_ h hb,XC h ha,XC h hb]
 . rw[Jr (A.ds p mp) hi<|v_ h ha,XC h ha]
 . constructor
   . intro z;obtain⟨a',ma,q⟩:=zxE.mp z;obtain⟨m1,m2⟩:=List.mem_filter.mp ma;exact K6 h (ci a' m1) ha q ▸ of_decide_eq_true m2
   . intro z;exact zxE.mpr ⟨a,List.mem_filter.mpr ⟨zxE.mpr ⟨_,wy<|v_ h ha,XC h ha⟩,zyO z⟩,rfl⟩
end
section
variable{n m c c':Nat}{J:TZ}{e:Int}{Ds:DZ}{S:SS}{r F W T:List Int}
def ud(c:Nat):(zD c).Pairwise (· <= ·):=List.Pairwise.map _ (λa b h=>by show(a:Int)<=b;omega) List.pairwise_lt_range
def Iq(A:Alg n m J e Ds)(h:F.Perm (zD n)){V:List Int}(hV:V.Sublist (zD n)):sortI (V.map<|zM F)=lV V F n:=by
 have vi:∀x ∈ V,zQ n x:=λx mx=>yj<|hV.subset mx;have vn:=(EX n).sublist hV;rw[uD (Bb (S:=[]) A h) V];refine QD _ _ ((sortI_perm _).trans<|(List.perm_ext_iff_of_nodup ?_ ?_).mpr λx=>⟨λq=>?_,λq=>?_⟩) (vR _)<|(ud n).sublist List.filter_sublist
 . exact List.pairwise_map.mpr<|vn.imp_of_mem λma mb hne q=>hne<|K6 h (vi _ ma) (vi _ mb) q
 . exact(EX n).sublist List.filter_sublist
 . obtain⟨v,mv,rfl⟩:=zxE.mp q;exact List.mem_filter.mpr ⟨wy<|v_ h<|vi v mv,zyO<|by rw[XC h<|vi v mv];exact mv⟩
 . obtain⟨q1,q2⟩:=List.mem_filter.mp q;exact zxE.mpr ⟨_,of_decide_eq_true q2,(Qh h<|yj q1).2⟩
end
section
variable{n m c:Nat}{J:TZ}{e:Int}{Ds:DZ}{S:SS}{F:List Int}{s:Bool}
abbrev sW(s:Bool)(d:D):Option O:=some<|.lf s d
def uL{as:AS}{r:List Int}{i j:Nat}{x:Int}{s:Bool}(hl:r.length<=1000)(hx:x ∈ r)(hi:as[i]? = some (sW s<|zc r))(hj:as[j]? = some (sI x)):WD (wV .lst (fV i) (aC (fV j) aN) wC) as true (.int<|Zc r x):=by
 obtain⟨a1,a2,a3⟩:=Vi rfl hx;refine Ql (za hi) rfl (ze (za hj) zq) ?_ rfl;show(Pp _ _).bind _=_;rw[a3];show(if(r.map D.int).length<=1000 then some _ else none)=_;rw[if_pos (by rw[zzB];exact hl),show(((Zc r x).toNat:Nat):Int)=Zc r x by have:=a1.1;omega]
def t6{a:EF}{as:AS}{l:List Int}(h:WE a as (zc l))(hl:l.length<64):WE (fP (aC a aN) PV) as (zc<|sortI l):=by
 have k:=W7 (g:=PV) h (by
  show(Zm _).bind _=_;rw[XW];show(if l.length<64 then _ else _)=_;rw[if_pos hl])
 rw[X9]at k;exact⟨_,k,(vO _).1,(vO _).2⟩
abbrev Iz(s:Bool)(n m:Nat)(J:TZ)(e:Int)(Ds:DZ)(S:SS)(F:List Int)(e8 e9 e10 e11:Option O):AS:=[sT<|zm n m J e Ds S,sW s<|zc F,sI n,sI m,sT<|zv J,sI e,sT<|.lst<|Ds.map zK,sT<|.lst<|S.map ye,e8,e9,e10,e11]
def Ed(A:Alg n m J e Ds)(hS:Sg n S)(h:F.Perm (zD n)):RE (ZQ [(true,zm n m J e Ds S),(s,zc F)]) (zm n m (lJ J F n) (zM F e) (lD Ds F n)<|lS S F n):=by
 have n8:=A.n8;have m6:=A.m6;have dl:=A.dl;have he:zQ n e:=⟨A.e0,A.en⟩;have fl:=Zh h;have cl:(cH F n).length=n:=by rw[zzB,zzB,zyU]
 have rl:(zD n).length=n:=by rw[zzB,zyU]
 have ix:=λx (hx:zQ n x)=>(Qh h hx).1;have bk:∀x,zQ n x->zk (zc<|cH F n) (.int x)=some (.im<|.int<|Zc F x):=λx hx=>by
  have:=y7 cl hx
  rwa [X5 hx]at this
 have mc:∀{β:Type}(g:Int->β),(cH F n).map g=(zD n).map λx=>g (Zc F x):=λg=>zyB (f:=Zc F) (g:=g);have s0:Zo zg (gT 6<|yd (gN 2)<|yd (gN 3)<|yd wO<|yd (gN 5)<|yd (gN 6)<|yd (gN 7) xG) [sT<|zm n m J e Ds S,sW s<|zc F,none,none,none,none,none,none,none,none,none,none]=some (.nx<|Iz s n m J e Ds S F none none none none):=TQ (WD.e<|za (i:=0) rfl) rfl;have w8:WE (zr (zY xg z_) [none,some 1] zG zN<|wV .lst zi xq wC) (Iz s n m J e Ds S F none none none none) (zc<|cH F n):=by
  have w:=yx (as:=Iz s n m J e Ds S F none none none none) (h:=λx=>D.int<|Zc F x) (it:=λx:Int=>(true,D.int x)) (cap:=[none,some 1]) (gg:=gN 0) (fe:=wV .lst zi xq wC) (fi:=zY xg z_) (zD n) (wM (ze (za (i:=2) rfl) zq)<|by omega) (by rw[rl];omega) λx mx=>⟨[sI x,sW s<|zc F],rfl,WD.e<|uL (i:=1) (j:=0) (by omega) (h.mem_iff.mpr mx) rfl rfl⟩;rw[show((zD n).map λx=>D.int<|Zc F x)=(cH F n).map D.int from(zyB (f:=Zc F) (g:=D.int)).symm]at w;exact w
 have s8:=yQ (p:=8) w8<|zo rfl;have w9:WE (zr (zY xg z_) [none,some 1,some 2,some 4,some 8] zG zN<|zr (zY xg z_) [none,some 1,some 3,some 4,some 0] zG zN<|f2 zi (f2 (f2 zu (f2 zC zZ zk) zk) (f2 zC zg zk) zk) zk) (Iz s n m J e Ds S F (sT<|zc<|cH F n) none none none) (zv<|lJ J F n):=by
  have w:=yx (as:=Iz s n m J e Ds S F (sT<|zc<|cH F n) none none none) (it:=λx:Int=>(true,D.int x)) (cap:=[none,some 1,some 2,some 4,some 8]) (gg:=gN 0) (fi:=zY xg z_) (zD n) (wM (ze (za (i:=2) rfl) zq)<|by omega) (by rw[rl];omega) λa ma=>by
   have wi:=yx (as:=[sI a,sW s<|zc F,sI n,sT<|zv J,sT<|zc<|cH F n]) (it:=λx:Int=>(true,D.int x)) (cap:=[none,some 1,some 3,some 4,some 0]) (gg:=gN 0) (fi:=zY xg z_) (zD n) (wM (ze (za (i:=2) rfl) zq)<|by omega) (by rw[rl];omega) λb mb=>
    ⟨[sI b,sW s<|zc F,sT<|zv J,sT<|zc<|cH F n,sI a],rfl,WD.e<|zj (za (i:=1) rfl) (xy A.j (ix a<|yj ma) (ix b<|yj mb) (za (i:=2) rfl) (zj (za (i:=3) rfl) (za (i:=4) rfl) (bk a<|yj ma) rfl)<|zj (za (i:=3) rfl) (za (i:=0) rfl) (bk b<|yj mb) rfl) (y7 fl<|Zg A.j (ix a<|yj ma)<|ix b<|yj mb) rfl⟩
   rw[show((zD n).map λb=>D.int<|zM F<|yE J (Zc F a)<|Zc F b)=((zD n).map λb=>zM F<|yE J (Zc F a)<|Zc F b).map D.int from(zyB (g:=D.int)).symm]at wi;exact⟨[sI a,sW s<|zc F,sI n,sT<|zv J,sT<|zc<|cH F n],rfl,wi⟩
  have e0:lJ J F n=(zD n).map λa=>(zD n).map λb=>zM F (yE J (Zc F a)<|Zc F b):=(mc _).trans<|List.map_congr_left λa _=>mc _;have e1:((zD n).map λa=>zc<|(zD n).map λb=>zM F<|yE J (Zc F a)<|Zc F b)=(lJ J F n).map zc:=by
   rw[e0];exact(zyB (g:=zc)).symm
  rw[e1]at w;exact w
 have s9:=yQ (p:=9) w9<|zo rfl;have w10:WE (zr (yu y9) [none,none,some 1,some 2,some 8] (gT 2<|yd zG<|yd (gN 1) xG) zN<|yh<|dC zg<|dC (zr (yu zi) [none,some 2,some 3,some 4] zG zN<|zr (zY xg z_) [none,some 1,some 0,some 3] zG zN<|f2 zi (f2 zu (f2 zC zg zk) zk) zk) dN) (Iz s n m J e Ds S F (sT<|zc<|cH F n) (sT<|zv<|lJ J F n) none none) (.lst<|(lD Ds F n).map zK):=by
  have w:=yx (as:=Iz s n m J e Ds S F (sT<|zc<|cH F n) (sT<|zv<|lJ J F n) none none) (h:=λp=>zK (p.1,lT p.2 F n)) (cap:=[none,none,some 1,some 2,some 8]) (gg:=gT 2<|yd zG<|yd (gN 1) xG) (fi:=yu y9) Ds (xI (g:=zK)<|WD.e<|za (i:=6) rfl) (by omega) λp mp=>by
   have hT:=A.ds p mp;have wi:=yx (as:=[sT<|.str p.1,sT<|zv p.2,sW s<|zc F,sI n,sT<|zc<|cH F n]) (cap:=[none,some 2,some 3,some 4]) (gg:=gN 0) p.2 (xI (g:=zc) (f:=fV 1)<|WD.e<|za (i:=1) rfl) (by rw[hT.1];omega) λq mq=>by
    have wj:=yx (as:=[sT<|zc q,sW s<|zc F,sI n,sT<|zc<|cH F n]) (it:=λx:Int=>(true,D.int x)) (cap:=[none,some 1,some 0,some 3]) (gg:=gN 0) (fi:=zY xg z_) (zD n) (wM (ze (za (i:=2) rfl) zq)<|by omega) (by rw[rl];omega) λa ma=>
     ⟨[sI a,sW s<|zc F,sT<|zc q,sT<|zc<|cH F n],rfl,WD.e<|zj (za (i:=1) rfl) (zj (za (i:=2) rfl) (zj (za (i:=3) rfl) (za (i:=0) rfl) (bk a<|yj ma) rfl) (rowAt (hT.2 q mq)<|ix a<|yj ma).1 rfl) (y7 fl (rowAt (hT.2 q mq)<|ix a<|yj ma).2) rfl⟩
    have e1:((zD n).map λa=>D.int<|zM F<|zM q<|Zc F a)=((cH F n).map λa=>zM F<|zM q a).map D.int:=by
     rw[mc];exact(zyB (f:=λa=>zM F<|zM q<|Zc F a) (g:=D.int)).symm
    rw[e1]at wj;exact⟨[sT<|zc q,sW s<|zc F,sI n,sT<|zc<|cH F n],rfl,wj⟩
   rw[show(p.2.map λq=>zc<|(cH F n).map λa=>zM F<|zM q a)=(lT p.2 F n).map zc from(zyB (g:=zc)).symm]at wi;exact⟨_,rfl,wH (WD.e<|za (i:=0) rfl) wi⟩
  rw[show(Ds.map λp=>zK (p.1,lT p.2 F n))=(lD Ds F n).map zK from(zyB (g:=zK)).symm]at w;exact w
 have s10:=yQ (p:=10) w10<|zo rfl;have w11:WE (zr (yu yR) [none,none,some 1] (gT 2<|yd zG<|yd (gN 1) xG) zN<|yh<|dC zg<|dC (fP (aC (zr (yu zi) [none,some 2] zG zN<|f2 zi zg zk) aN) PV) dN) (Iz s n m J e Ds S F (sT<|zc<|cH F n) (sT<|zv<|lJ J F n) (sT<|.lst<|(lD Ds F n).map zK) none) (.lst<|(lS S F n).map ye):=by
  have w:=yx (as:=Iz s n m J e Ds S F (sT<|zc<|cH F n) (sT<|zv<|lJ J F n) (sT<|.lst<|(lD Ds F n).map zK) none) (h:=λp=>ye (p.1,lV p.2 F n)) (cap:=[none,none,some 1]) (gg:=gT 2<|yd zG<|yd (gN 1) xG) (fi:=yu yR) S (xI (g:=ye)<|WD.e<|za (i:=7) rfl) (by have:=hS.1;omega) λp mp=>by
   have hV:=hS.2.2 p mp;have vl:p.2.length<=n:=by have:=hV.length_le;rw[rl]at this;exact this
   have wi:=yx (as:=[sT<|.str p.1,sT<|zc p.2,sW s<|zc F]) (h:=λv=>D.int<|zM F v) (it:=λx:Int=>(true,D.int x)) (cap:=[none,some 2]) (gg:=gN 0) (fe:=f2 zi zg zk) p.2 (xI (g:=D.int) (f:=fV 1)<|WD.e<|za (i:=1) rfl) (by omega) λv mv=>
    ⟨[sI v,sW s<|zc F],rfl,WD.e<|zj (za (i:=1) rfl) (za (i:=0) rfl) (y7 fl<|yj<|hV.subset mv) rfl⟩
   rw[show(p.2.map λv=>D.int<|zM F v)=(p.2.map<|zM F).map D.int from(zyB (f:=zM F) (g:=D.int)).symm]at wi;have ws:=t6 wi (by rw[zzB];omega);rw[Iq A h hV]at ws;exact⟨[sT<|.str p.1,sT<|zc p.2,sW s<|zc F],rfl,wH (WD.e<|za (i:=0) rfl) ws⟩
  rw[show(S.map λp=>ye (p.1,lV p.2 F n))=(lS S F n).map ye from(zyB (g:=ye)).symm]at w;exact w
 have s11:=yQ (p:=11) w11<|zo rfl;exact yk rfl<|zd s0<|zd s8<|zd s9<|zd s10<|zd s11<|yg<|Vf (zh (za (i:=2) rfl)<|zh (za (i:=3) rfl)<|zh (za (i:=9) rfl)<|zh (zj (za (i:=1) rfl) (za (i:=5) rfl) (y7 fl he) rfl)<|zh (za (i:=10) rfl)<|zh (za (i:=11) rfl) zR) (wX rfl) rfl rfl
end
def AU{n m:Nat}{J:TZ}{e:Int}{Ds:DZ}{S:SS}{k:Int}(A:Alg n m J e Ds)(sl:Sg n S):∃S':SS,Sg n S'/\RE (QC [(true,zm n m J e Ds S),(true,.int k)]) (zm n m J e Ds S'):=by
 have n1:=A.n1;have n8:=A.n8;have s0:Zo zg (gT 6<|yd (gN 2)<|yd (gN 3)<|yd wO<|yd (gN 5)<|yd (gN 6)<|yd (gN 7) xG) [sT<|zm n m J e Ds S,sI k,none,none,none,none,none,none,none,none]=some (.nx [sT<|zm n m J e Ds S,sI k,sI n,sI m,sT<|zv J,sI e,sT<|.lst<|Ds.map zK,sT<|.lst<|S.map ye,none,none]):=TQ (WD.e<|za rfl) rfl;have t1:WT (fT<|f2 (f2 zi yq zy) zL<|zt .Eq) [sT<|zm n m J e Ds S,sI k,sI n,sI m,sT<|zv J,sI e,sT<|.lst<|Ds.map zK,sT<|.lst<|S.map ye,none,none] (k%2==0):=zJ (yt (yb (za rfl) zb<|by decide) zb rfl) rfl;have t2:WT (fT<|f2 yR (yA dN)<|zt .Eq) [sT<|zm n m J e Ds S,sI k,sI n,sI m,sT<|zv J,sI e,sT<|.lst<|Ds.map zK,sT<|.lst<|S.map ye,none,none] S.isEmpty:=zJ (Xh (WD.e<|za rfl) (xi zR (wX rfl) rfl rfl)<|by cases S<;>rfl) rfl
 by_cases h:(k%2==0)=true
 . exact⟨S,sl,yk rfl<|zd s0<|xa<|xT (Vn t1 (λz=>by rw[h]at z;cases z) λ_=>rfl)<|yg<|WD.e<|za rfl⟩
 cases S with
 |nil=>exact⟨[],sl,yk rfl<|zd s0<|xa<|xT (Vn t1 (λ_=>t2) λ_=>rfl)<|yg<|WD.e<|za rfl⟩
 |cons p S=>
  have tf:=Vn t1 (λ_=>t2) λz=>absurd z h;obtain⟨ys,hl,hy,ws⟩:=IV (as:=[sT<|zm n m J e Ds (p::S),sI k,sI n,sI m,sT<|zv J,sI e,sT<|.lst<|Ds.map zK,sT<|.lst<|(p::S).map ye,none,none]) (a:=fV 1) (m:=1) (by omega) (WD.e<|za rfl)<|WD.e zb;obtain⟨y,a0,_⟩:=at2 hy (k:=0) (by omega) (by omega);have s8:=yQ (p:=8) (H_ ws (WD.e<|zb) a0)<|zo rfl;have yn:zQ n (y%n):=⟨zyN _ (by omega),zyH _<|by omega⟩;obtain⟨r,hr,ri⟩:=QO (g:=gN 0) (as0:=[none,sI n,sT<|zv J,sI y]) (tt:=fT<|f2 (f2 (f2 zu zg zk) (f2 zC zi zy) zk) (f2 (f2 zC vd zB) zi zy)<|zt .Eq) (xs:=zD n) λx mx=>by
   have hx:=yj mx;exact⟨_,_,rfl,zJ (yt (xy A.j hx yn (za rfl) (za rfl)<|yb (za rfl) (za rfl)<|by omega) (yb (wd (za rfl) zb (by decide)<|zP (by decide)<|by decide) (za rfl)<|by omega) rfl) rfl,za (i:=0) rfl⟩
  rw[<-JD]at hr;have hc:=Yd (as:=[sT<|zm n m J e Ds (p::S),sI k,sI n,sI m,sT<|zv J,sI e,sT<|.lst<|Ds.map zK,sT<|.lst<|(p::S).map ye,sI y,none]) (cap:=[none,some 2,some 4,some 8]) (yU (ze (za (i:=2) rfl) zq) (by omega)<|by omega) (by rw[yJ];exact Gk<|by omega) hr;have s9:=yQ (p:=9) (⟨_,hc,(vO r).1,(vO r).2⟩:WE _ _ (zc r))<|zo rfl;obtain⟨o1,h1,h2,h3⟩:=wH (as:=[sT<|zm n m J e Ds (p::S),sI k,sI n,sI m,sT<|zv J,sI e,sT<|.lst<|Ds.map zK,sT<|.lst<|(p::S).map ye,sI y,sT<|zc r]) (a:=f2 (f2 yR zL zk) zL zk) (WD.e<|zj (zE (za rfl) (zb)<|Px rfl) (zb) rfl rfl)<|WD.e<|za (i:=9) rfl;obtain⟨o2,g1,g2,g3⟩:=xi (Zp h1 zR) (wX rfl) (by show(o1.str&&true)=true;rw[h2];rfl) (by show D.lst [o1.toD]=_;rw[h3]);refine⟨[(p.1,r)],⟨by show 1<=10;decide,by simp,λq mq=>by rw[zzR.mp mq];exact ri⟩,yk rfl<|zd s0<|zd (zU tf rfl)<|zd s8<|zd s9<|yg<|Vf (zh (za rfl)<|zh (za rfl)<|zh (za (i:=4) rfl)<|zh (za (i:=5) rfl)<|zh (za (i:=6) rfl)<|Zp g1 zR) (wX rfl) (by show(true&&(true&&(true&&(true&&(true&&(o2.str&&true))))))=true;rw[g2];rfl) (by show D.tup [.int n,.int m,zv J,.int e,.lst<|Ds.map zK,o2.toD]=_;rw[g3];rfl)⟩
theorem NL{k:Nat}:∀a b:List Str,FM (wN<|k+1) (a.map D.str) (b.map D.str)=some (decide (a=b))
 | [],[]=>rfl
 | [],_::_=>rfl
 |_::_,[]=>rfl
 |x::a,y::b=>by
  show((some _).bind λc=>(FM _ _ _).bind λd=>some _)=_;rw[NL a b]
  by_cases h:x=y
  . subst h;simp
  . have:(x==y)=false:=by simp[h]
    rw[this];simp[h]
def Ml(a b:List Str):wN 60 (.lst<|a.map D.str) (.lst<|b.map D.str)=some (decide (a=b)):=NL a b
def all_bools{α:Type}(f:α->Bool):∀l:List α,Nj [.lst<|l.map λa=>D.bl<|f a]=some (.im<|.bl<|l.all f):=λl=>by
 have:Yg (l.map λa=>D.bl<|f a)=some (l.map f):=by
  induction l with
  |nil=>rfl
  |cons a l ih=>show(Yg<|l.map λa=>D.bl<|f a).bind _=_;rw[ih];rfl
 show(Yg _).bind _=_;rw[this];show some _=_;rw[List.all_map];rfl
def uh{a b c:EF}{as:AS}{i j k:Int}{s t u:Bool}(ha:WD a as s (.int i))(hb:WD b as t (.int j))(hc:WD c as u (.int k)):WD (wa a b c (zt .LtE)<|zt .LtE) as true (.bl<|decide (i<=j)&&decide (j<=k)):=by
 by_cases h:i<=j
 . unfold WD at *;unfold wa;rw[ha];simp only[zyL];rw[hb];simp only[zyL];simp only[RV.frz,O.frz,RV.view,O.toD,O.str,zyL,zt,Gh,Sn,T_,Sl,h,decide_true,hc];rfl
 . unfold WD at *;unfold wa;rw[ha];simp only[zyL];rw[hb];simp only[zyL];simp only[RV.frz,O.frz,RV.view,O.toD,O.str,zyL,zt,Gh,Sn,T_,Sl,h,decide_false];rfl
def BD{x k:Int}:vC [(true,.int x),(true,.int 0),(true,.int k)]=sT (.bl<|decide (0<=x)&&decide (x<=k)):=
 xR rfl (y_<|Yw (yB (ze (za rfl) zq) Pv) (λ_=>uh (za rfl) (za rfl)<|za rfl) (λz=>nomatch z))
section
variable{n m m' c:Nat}{J J':TZ}{e e':Int}{Ds Ds':DZ}{S S':SS}{r:List Int}
abbrev uj(c:Nat)(x:Int):Bool:=decide (0<=x)&&decide (x<=(c:Int)-1)
def BQ(hl:r.length<=1000):Z1 [(true,zc r),(true,.int c)]=sT (.bl<|r.all<|uj c):=by
 have w:=yx (as:=[sT<|zc r,sI c]) (h:=λx:Int=>D.bl<|uj c x) (cap:=[none,some 1]) (gg:=gN 0) r (xI<|WD.e<|za (i:=0) rfl) (by omega) λx mx=>⟨_,rfl,WD.e<|yB (ze (za (i:=0) rfl)<|ze (zb (x:=.int 0))<|ze (QT (za (i:=1) rfl) zb) zq) BD⟩;exact xR rfl<|y_<|Yw (RZ (za rfl) rfl) (λ_=>ZU w<|all_bools (uj c) r) (λz=>nomatch z)
def IE(dl:Ds.length<=1000)(dl':Ds'.length<=1000)(sl:S.length<=1000)(sl':S'.length<=1000):wZ [(true,zm n m J e Ds S),(true,zm c m' J' e' Ds' S')]=sT (.bl ((m:Int)==m'&&(decide (Ds.map (·.1)=Ds'.map (·.1))&&decide (S.map (·.1)=S'.map (·.1))))):=by
 have n1:=xu (f:=zK) Ds dl λ_ _=>rfl;have n2:=xu (f:=zK) Ds' dl' λ_ _=>rfl;have n3:=xu (f:=ye) S sl λ_ _=>rfl;have n4:=xu (f:=ye) S' sl' λ_ _=>rfl;have mm:∀(l:List (Str×TZ)),(l.map λa=>D.str a.1)=(l.map (·.1)).map D.str:=λl=>(zyB).symm;have ms:∀(l:SS),(l.map λa=>D.str a.1)=(l.map (·.1)).map D.str:=λl=>(zyB).symm;rw[mm]at n1 n2;rw[ms]at n3 n4;have t1:WT (fT<|f2 (f2 zg zH zk) (f2 zi zH zk)<|zt .NotEq) [sT<|zm n m J e Ds S,sT<|zm c m' J' e' Ds' S'] (!((m:Int)==m')):=zJ (Ur (zj (za rfl) zb rfl rfl) (zj (za rfl) zb rfl rfl) rfl) rfl;cases h:((m:Int)==m')with
 |false=>
  rw[h]at t1;have z:xB (fT<|f2 (f2 zg zH zk) (f2 zi zH zk)<|zt .NotEq) (zV<|fC<|.bl false) xQ [sT<|zm n m J e Ds S,sT<|zm c m' J' e' Ds' S']=some (.rt<|.lf true<|.bl false):=wL t1<|y_ zb;exact xR rfl (RF z)
 |true=>
  rw[h]at t1;have a1:=Xh (xm (WD.e<|zE (g:=zk) (za (as:=[sT<|zm n m J e Ds S,sT<|zm c m' J' e' Ds' S']) (i:=0) rfl) (zb (x:=.int 4)) rfl) n1) (xm (WD.e<|zE (g:=zk) (za (i:=1) rfl) (zb (x:=.int 4)) rfl) n2)<|Ml _ _;have a2:=Xh (xm (WD.e<|zE (g:=zk) (za (as:=[sT<|zm n m J e Ds S,sT<|zm c m' J' e' Ds' S']) (i:=0) rfl) (zb (x:=.int 5)) rfl) n3) (xm (WD.e<|zE (g:=zk) (za (i:=1) rfl) (zb (x:=.int 5)) rfl) n4)<|Ml _ _;refine xR rfl (zW (zU t1 rfl)<|y_<|Yw a1 (λq=>?_) λq=>by rw[q];rfl);rw[q,Bool.true_and,Bool.true_and];exact a2
end
abbrev Rb(r:Option Out)(I:AS->Prop)(t:Bool):Prop:=(t=true/\∃as',r=some (.nx as')/\I as')\/(t=false/\r=some (.rt<|.lf true<|.bl false))
theorem sV{α:Type}{g:GF}{f:SF}{it:α->ZV}(I:AS->Prop)(t:α->Bool):∀(l:List α),(∀x ∈ l,∀as,I as->∃as1,g (it x) as=some as1/\Rb (f as1) I (t x))->∀as,I as->Rb (forL g f (l.map it) as) I (l.all t)
 | [],_,as,h=>.inl ⟨rfl,as,rfl,h⟩
 |x::l,H,as,h=>by
  obtain⟨as1,h1,h2⟩:=H x zzF as h;rw[List.all_cons]
  rcases h2 with⟨e,as2,h2,h3⟩|⟨e,h2⟩
  . rw[e,Bool.true_and]
    rcases sV I t l (λy my=>H y<|zzD _ my) as2 h3 with⟨e',as3,k1,k2⟩|⟨e',k1⟩
    . exact .inl ⟨e',as3,xN h1 h2 k1,k2⟩
    . exact .inr ⟨e',xN h1 h2 k1⟩
  . rw[e,Bool.false_and];exact .inr ⟨rfl,N_ h1 h2⟩
def MM{c:TF}{as:AS}{q:Bool}{I:AS->Prop}(ht:WT c as (!q))(hI:I as):Rb (xB c (zV<|fC<|.bl false) xQ as) I q:=by
 cases q with
 |true=>exact .inl ⟨rfl,as,zU ht rfl,hI⟩
 |false=>exact .inr ⟨rfl,wL ht<|y_ zb⟩
theorem Rb.imp{r:Option Out}{I I':AS->Prop}{t:Bool}(h:Rb r I t)(k:∀as,I as->I' as):Rb r I' t:=Or.imp (λ⟨e,a,b,c⟩=>⟨e,a,b,k a c⟩) id h
theorem Rb.rt{f g:SF}{as:AS}{I:AS->Prop}{t t':Bool}(h:Rb (f as) I t)(k:t=true->∀as',I as'->g as'=some (.rt<|.lf true<|.bl t')):zp f g as=some (.rt<|.lf true<|.bl<|t&&t'):=by
 rcases h with⟨e,as',h1,h2⟩|⟨e,h1⟩
 . rw[e,Bool.true_and];exact zW h1<|k e as' h2
 . rw[e,Bool.false_and];exact RF h1
def Kg{a b:TF}{as:AS}{x y:Bool}(ha:WT a as (!x))(hb:x=true->WT b as (!y)):WT (vA a b) as (!(x&&y)):=by
 cases x with
 |true=>exact Vn ha (λ_=>hb rfl) (λz=>nomatch z)
 |false=>exact Vn ha (λz=>nomatch z) (λ_=>rfl)
def RS{a b:EF}{as:AS}{x y:Bool}(ha:WD a as true (.bl x))(hb:WD b as true (.bl y)):WD (YF a b) as true (.bl<|x&&y):=by
 cases x with
 |true=>exact Yw ha (λ_=>hb) (λz=>nomatch z)
 |false=>exact Yw ha (λz=>nomatch z) (λ_=>rfl)
theorem Ft(k:Nat):∀r s:List Int,FM (wN<|k+1) (r.map D.int) (s.map D.int)=some (r==s)
 | [],[]=>rfl
 | [],_::_=>rfl
 |_::_,[]=>rfl
 |a::r,b::s=>by
  show(some _).bind _=_;rw[Ft k r s];rfl
def O_(r s:List Int):wN 60 (zc r) (zc s)=some (r==s):=Ft 58 r s
theorem vD{α β:Type}(f:α->D)(g:β->D):∀(l:List α) (l':List β),v9 true (l.map f) (l'.map g)=(l.zip l').map λq=>(true,D.tup [f q.1,g q.2])
 | [],[]=>rfl
 | [],_::_=>rfl
 |_::_,[]=>rfl
 |a::l,b::l'=>congrArg ((true,D.tup [f a,g b]) :: ·)<|vD f g l l'
theorem Pc{α β:Type}(f:α->D)(g:β->D):∀(l:List α) (l':List β),((l.map f).zip<|l'.map g).map (λq=>(true,D.tup [q.1,q.2]))=(l.zip l').map λq=>(true,D.tup [f q.1,g q.2])
 | [],[]=>rfl
 | [],_::_=>rfl
 |_::_,[]=>rfl
 |a::l,b::l'=>congrArg ((true,D.tup [f a,g b]) :: ·)<|Pc f g l l'
section
variable{n m m' c:Nat}{J J':TZ}{e e':Int}{Ds Ds':DZ}{S S':SS}{r:List Int}
def E3(hl:r.length=n)(hr:∀x ∈ r,zQ c x)(a:Int)(ha:zQ n a):zQ c (zM r a):=by
 have hk:a.toNat<r.length:=by have:=ha.1;have:=ha.2;omega
 have:zM r a=r[a.toNat]:=by unfold zM;rw[zzE hk];rfl
 rw[this];exact hr _<|zxA hk
abbrev K5(P Q:D)(r:List Int)(e3 e4:Option O):AS:=[sT P,sT Q,sT<|zc r,e3,e4]
abbrev jE(J J':TZ)(r:List Int)(a b:Int):Bool:=zM r (yE J a b)==yE J' (zM r a) (zM r b)
abbrev pP(n:Nat)(J J':TZ)(r:List Int):Bool:=(zD n).all λa=>(zD n).all λb=>jE J J' r a b
def SI(A:Alg n m J e Ds)(B:Alg c m' J' e' Ds')(hl:r.length=n)(hr:∀x ∈ r,zQ c x):wD [(true,zm n m J e Ds S),(true,zm c m' J' e' Ds' S'),(true,zc r)]=sT (.bl<|pP n J J' r&&(zM r e==e')):=by
 have n8:=A.n8;have ra:=E3 hl hr;have rn:∀e3 e4,zY (aC (f2 zg zL zk) aN) z_ (K5 (zm n m J e Ds S) (zm c m' J' e' Ds' S') r e3 e4)=some ((zD n).map λx=>(true,D.int x),K5 (zm n m J e Ds S) (zm c m' J' e' Ds' S') r e3 e4):=λe3 e4=>wM (ze (zj (za rfl) (zb) rfl rfl) zq) (by omega);have o:=sV (g:=gN 3) (f:=yK (zY (aC (f2 zg zL zk) aN) z_) wO pE) (it:=λx:Int=>(true,D.int x)) (λas=>∃e3 e4,as=K5 (zm n m J e Ds S) (zm c m' J' e' Ds' S') r e3 e4) (λa=>(zD n).all λb=>jE J J' r a b) (zD n) (λa ma as hI=>by
  obtain⟨e3,e4,rfl⟩:=hI;have ha:=yj ma;refine⟨K5 (zm n m J e Ds S) (zm c m' J' e' Ds' S') r (sI a) e4,rfl, ?_⟩;rw[yF (rn _ _) rfl];refine Rb.imp (sV (λas=>∃e4,as=K5 (zm n m J e Ds S) (zm c m' J' e' Ds' S') r (sI a) e4) (λb=>jE J J' r a b) (zD n) (λb mb as hI=>by
   obtain⟨e4,rfl⟩:=hI;have hb:=yj mb;exact⟨K5 (zm n m J e Ds S) (zm c m' J' e' Ds' S') r (sI a)<|sI b,rfl,MM (QJ (zj (za rfl) (xy A.j ha hb (zE (za rfl) zb rfl) (za rfl)<|za rfl) (y7 hl<|Zg A.j ha hb) rfl)<|xy B.j (ra _ ha) (ra _ hb) (zE (za rfl) zb rfl) (zj (za rfl) (za rfl) (y7 hl ha) rfl)<|zj (za rfl) (za rfl) (y7 hl hb) rfl) ⟨_,rfl⟩⟩) _ ⟨e4,rfl⟩) λas ⟨e4,h⟩=>⟨_,e4,h⟩) _ ⟨none,none,rfl⟩
 rw[<-yF (rn none none) rfl]at o;refine xR rfl<|o.rt λ_ as' h=>?_;obtain⟨e3,e4,rfl⟩:=h;exact y_<|yt (zj (za rfl) (zj (za rfl) zb rfl rfl) (y7 hl ⟨A.e0,A.en⟩) rfl) (zj (za rfl) zb rfl rfl) rfl
abbrev sU(r:List Int)(T T':TZ):Bool:=(T.zip T').all λq=>q.1.map (zM r)==r.map (zM q.2)
def HN{T T':TZ}(n8:n<=8)(hl:r.length=n)(hr:∀x ∈ r,zQ c x)(hT:∀q ∈ T,Row n q)(hT':∀q ∈ T',Row c q):xY [(true,zv T),(true,zv T'),(true,zc r)]=sT (.bl<|sU r T T'):=by
 have hz:Qk (aC zg yW) (K5 (zv T) (zv T') r none none)=some ((T.zip T').map λq=>(true,D.tup [zc q.1,zc q.2]),K5 (zv T) (zv T') r none none):=by
  have:=EN (as:=K5 (zv T) (zv T') r none none) (WD.e<|za (i:=0) rfl)<|WD.e<|za (i:=1) rfl;rw[vD]at this;exact this
 have o:=sV (g:=gT 2<|yd (gN 3)<|yd wO xG) (it:=λq:List Int×List Int=>(true,D.tup [zc q.1,zc q.2])) (λas=>∃e3 e4,as=K5 (zv T) (zv T') r e3 e4) (λq=>q.1.map (zM r)==r.map (zM q.2)) (T.zip T') (λq mq as hI=>by
  obtain⟨e3,e4,rfl⟩:=hI;obtain⟨m1,m2⟩:=List.of_mem_zip mq;have w1:=GS (as:=K5 (zv T) (zv T') r (sT<|zc q.1)<|sT<|zc q.2) (cap:=[none,some 2]) hl (WD.e<|za (i:=3) rfl) rfl (by rw[(hT _ m1).1];omega) (hT _ m1).2;have w2:=GS (as:=K5 (zv T) (zv T') r (sT<|zc q.1)<|sT<|zc q.2) (cap:=[none,some 4]) (hT' _ m2).1 (WD.e<|za (i:=2) rfl) rfl (by omega) hr;exact⟨K5 (zv T) (zv T') r (sT<|zc q.1)<|sT<|zc q.2,rfl,MM (zJ (LU w1 w2<|O_ _ _) rfl) ⟨_,_,rfl⟩⟩) _ ⟨none,none,rfl⟩
 rw[<-yF hz rfl]at o;have z:=o.rt (g:=zV<|fC<|.bl true) (t':=true) λ_ _ _=>y_ zb;rw[Bool.and_true]at z;exact xR rfl z
abbrev rW(r V V':List Int):Bool:=((List.range' 0 r.length).zip r).all λq=>decide ((q.1:Int) ∈ V)==decide (q.2 ∈ V')
def HG{V V':List Int}(hl:r.length<=1000):x9 [(true,zc V),(true,zc V'),(true,zc r)]=sT (.bl<|rW r V V'):=by
 have hi:M9 zu [sT<|zc V,sT<|zc V',sT<|zc r]=some (((List.range' 0 r.length).zip r).map λq=>(true,D.tup [.int (q.1:Int),.int q.2]),[sT<|zc V,sT<|zc V',sT<|zc r]):=by
  rw[<-QH];rfl
 have w:=yx (cap:=[none,none,some 0,some 1]) (gg:=gT 2<|yd zG<|yd (gN 1) xG) ((List.range' 0 r.length).zip r) hi (by rw[List.length_zip,List.length_range'];omega) λq mq=>⟨_,rfl,WD.e<|yt (Ub (za (i:=0) rfl)<|za (i:=2) rfl) (Ub (za (i:=1) rfl)<|za (i:=3) rfl) rfl⟩;exact xR rfl<|y_<|ZU w<|all_bools _ _
abbrev pq(m m':Nat)(Ds Ds':DZ)(S S':SS):Bool:=(m:Int)==m'&&(decide (Ds.map (·.1)=Ds'.map (·.1))&&decide (S.map (·.1)=S'.map (·.1)))
abbrev Gj(n m:Nat)(J:TZ)(e:Int)(Ds:DZ)(S:SS)(c m':Nat)(J':TZ)(e':Int)(Ds':DZ)(S':SS)(r:List Int):Bool:=
 (pq m m' Ds Ds' S S'&&(((r.length:Int)==n)&&r.all (uj c)))&&((pP n J J' r&&(zM r e==e'))&&(((Ds.zip Ds').all λq=>sU r q.1.2 q.2.2)&&(S.zip S').all λq=>rW r q.1.2 q.2.2))
def in_of{r:List Int}(h:r.all (uj c)=true):∀x ∈ r,zQ c x:=λx mx=>by
 have:=List.all_eq_true.mp h x mx;rw[zyC]at this;exact⟨of_decide_eq_true this.1,by have:=of_decide_eq_true this.2;omega⟩
def MX(A:Alg n m J e Ds)(B:Alg c m' J' e' Ds')(sl:S.length<=10)(sl':S'.length<=10)(rl:r.length<=1000):
 yX [(true,zm n m J e Ds S),(true,zm c m' J' e' Ds' S'),(true,zc r)]=sT (.bl<|Gj n m J e Ds S c m' J' e' Ds' S' r):=by
 have n8:=A.n8;have dl:=A.dl;have dl':=B.dl;have k1:=IE (n:=n) (m:=m) (c:=c) (m':=m') (J:=J) (J':=J') (e:=e) (e':=e') (Ds:=Ds) (Ds':=Ds') (S:=S) (S':=S') (by omega) (by omega) (by omega) (by omega);have t1:WT (vA (wU<|fT<|zx (aC zg yW) wZ)<|vA (fT<|f2 (fP xg xx) (f2 zg zL zk)<|zt .NotEq)<|wU<|fT<|zx (aC zu<|aC (f2 zi zL zk) aN) Z1) [sT<|zm n m J e Ds S,sT<|zm c m' J' e' Ds' S',sT<|zc r] (!(pq m m' Ds Ds' S S'&&(((r.length:Int)==n)&&r.all (uj c)))):=by
  refine Kg (ZP<|zJ (yB (ze (za (i:=0) rfl)<|ze (za (i:=1) rfl) zq) k1) rfl) λ_=>Kg ?_ λ_=>ZP<|zJ (yB (ze (za (i:=2) rfl)<|ze (zj (za (i:=1) rfl) (zb) rfl rfl) zq)<|BQ rl) rfl;have:=QJ (xb (g:=xx) (ze (za (as:=[sT<|zm n m J e Ds S,sT<|zm c m' J' e' Ds' S',sT<|zc r]) (i:=2) rfl) zq) rfl rfl)<|zj (g:=zk) (za (i:=0) rfl) (zb (x:=.int 0)) rfl rfl;rw[zzB]at this;exact this
 refine xR rfl<|(MM t1 rfl).rt λg as' h=>?_;subst h;have g2:=Bool.and_eq_true_iff.mp (Bool.and_eq_true_iff.mp g).2;have hl:r.length=n:=by have:=beq_iff_eq.mp g2.1;omega
 have hr:=in_of g2.2;have k2:=SI (S:=S) (S':=S') A B hl hr;have t2:=ZP<|zJ (yB (ze (za (as:=[sT<|zm n m J e Ds S,sT<|zm c m' J' e' Ds' S',sT<|zc r]) (i:=0) rfl)<|ze (za (i:=1) rfl)<|ze (za (i:=2) rfl) zq) k2) rfl;have z1:=V_ (as:=[sT<|zm n m J e Ds S,sT<|zm c m' J' e' Ds' S',sT<|zc r]) (a:=f2 zg yV zk) (b:=f2 zi yV zk) (WD.e<|zE (za (i:=0) rfl) zb rfl) (WD.e<|zE (za (i:=1) rfl) zb rfl) (.l _)<|.l _;rw[Pc zK zK]at z1;have w3:=yx (cap:=[none,none,some 2]) (gg:=gT 2<|yd zG<|yd (gN 1) xG) (fe:=zx (aC (f2 zg zH zk)<|aC (f2 zi zH zk) xg) xY) (Ds.zip Ds') z1 (by rw[List.length_zip];omega) λq mq=>⟨_,rfl,WD.e<|yB (ze (zE (za (i:=0) rfl) (zb) rfl)<|ze (zE (za (i:=1) rfl) (zb) rfl)<|ze (za (i:=2) rfl) zq)<|HN n8 hl hr (A.ds _ (List.of_mem_zip mq).1).2 (B.ds _ (List.of_mem_zip mq).2).2⟩;have t3:=ZP<|zJ (ZU w3<|all_bools _ _) rfl;have z2:=V_ (as:=[sT<|zm n m J e Ds S,sT<|zm c m' J' e' Ds' S',sT<|zc r]) (a:=f2 zg wR zk) (b:=f2 zi wR zk) (WD.e<|zE (za (i:=0) rfl) zb rfl) (WD.e<|zE (za (i:=1) rfl) zb rfl) (.l _)<|.l _;rw[Pc ye ye]at z2;have w4:=yx (cap:=[none,none,some 2]) (gg:=gT 2<|yd zG<|yd (gN 1) xG) (fe:=zx (aC (f2 zg zH zk)<|aC (f2 zi zH zk) xg) x9) (S.zip S') z2 (by rw[List.length_zip];omega) λq mq=>⟨_,rfl,WD.e<|yB (ze (zE (za (i:=0) rfl) (zb) rfl)<|ze (zE (za (i:=1) rfl) (zb (x:=.int 1)) rfl)<|ze (za (i:=2) rfl) zq)<|HG rl⟩;refine(MM t2 rfl).rt λ_ as' h=>?_;subst h;refine(MM t3 rfl).rt λ_ as' h=>?_;subst h;exact y_<|ZU w4<|all_bools _ _
end
theorem tm{α:Type}{g:GF}{f:SF}{it:α->ZV}(M:Bool->AS->Prop)(t:α->Bool):∀(l:List α),(∀x ∈ l,∀b as,M b as->∃as1 as2,g (it x) as=some as1/\f as1=some (.nx as2)/\M (b&&t x) as2)->∀b as,M b as->∃as',forL g f (l.map it) as=some (.nx as')/\M (b&&l.all t) as'
 | [],_,b,as,h=>⟨as,rfl,by rw[List.all_nil,Bool.and_true];exact h⟩
 |x::l,H,b,as,h=>by
  obtain⟨as1,as2,h1,h2,h3⟩:=H x zzF b as h;obtain⟨as3,k1,k2⟩:=tm M t l (λy my=>H y<|zzD _ my) _ as2 h3;rw[Bool.and_assoc,<-List.all_cons]at k2;exact⟨as3,xN h1 h2 k1,k2⟩
def D6{a b c:EF}{as:AS}{i j k:Int}{s t u:Bool}(ha:WD a as s (.int i))(hb:WD b as t (.int j))(hc:WD c as u (.int k)):WD (wa a b c (zt .LtE)<|zt .Lt) as true (.bl<|decide (i<=j)&&decide (j<k)):=by
 by_cases h:i<=j
 . unfold WD at *;unfold wa;rw[ha];simp only[zyL];rw[hb];simp only[zyL];simp only[RV.frz,O.frz,RV.view,O.toD,O.str,zyL,zt,Gh,Sn,T_,Sl,h,decide_true,hc];rfl
 . unfold WD at *;unfold wa;rw[ha];simp only[zyL];rw[hb];simp only[zyL];simp only[RV.frz,O.frz,RV.view,O.toD,O.str,zyL,zt,Gh,Sn,T_,Sl,h,decide_false];rfl
def tX:∀xs:List D,wN 60 (.lst xs) (.lst [])=some xs.isEmpty
 | []=>rfl
 |_::_=>rfl
theorem E_(k:Nat):∀r s:List Bool,FM (wN<|k+1) (r.map D.bl) (s.map D.bl)=some (r==s)
 | [],[]=>rfl
 | [],_::_=>rfl
 |_::_,[]=>rfl
 |a::r,b::s=>by
  show(some _).bind _=_;rw[E_ k r s];rfl
def HZ{α:Type}(f:α->Bool)(l:List α):(l.map f).map D.bl=l.map λa=>D.bl (f a):=zyB
section
variable{n m m' c:Nat}{J J':TZ}{e e':Int}{Ds Ds':DZ}{S S':SS}{r:List Int}
abbrev ou(n m:Nat)(J:TZ)(e:Int)(Ds:DZ)(S:SS)(c m':Nat)(J':TZ)(e':Int)(Ds':DZ)(S':SS)(r:List Int)(e3 e4 e5 e6 e7 e8 e9 e10 e11 e12:Option O):AS:=[sT<|zm n m J e Ds S,sT<|zm c m' J' e' Ds' S',sT<|zc r,e3,e4,e5,e6,e7,e8,e9,e10,e11,e12]
abbrev dE(r:List Int)(q:(Str×TZ)×(Str×TZ)):Bool:=(q.1.1==q.2.1)&&sU r q.1.2 q.2.2
abbrev sE(n:Nat)(r:List Int)(q:(Str×List Int)×(Str×List Int)):Bool:=(q.1.1==q.2.1)&&(((zD n).map λv=>decide (v ∈ q.1.2))==r.map λv=>decide (v ∈ q.2.2))
abbrev A8(n m:Nat)(J:TZ)(e:Int)(Ds:DZ)(S:SS)(c m':Nat)(J':TZ)(e':Int)(Ds':DZ)(S':SS)(r:List Int):Bool:=
 (((r.length:Int)==n)&&((r.filter λx:Int=>!(decide (0<=x)&&decide (x<c))).map D.int).isEmpty)&&((((m:Int)==m')&&(((Ds.length:Int)==Ds'.length)&&((S.length:Int)==S'.length)))&&((((zM r e==e')&&(zD<|n*n).all λk=>jE J J' r (k/n)<|k%n)&&(Ds.zip Ds').all (dE r))&&(S.zip S').all (sE n r)))
def Dn{a:EF}{as:AS}{l:List D}(h:WD a as true (.lst l)):WD (fP (aC a aN) xx) as true (.int (l.length:Nat)):=xb (ze h zq) rfl rfl
def OO(A:Alg n m J e Ds)(B:Alg c m' J' e' Ds')(sl:S.length<=10)(sl':S'.length<=10)(rl:r.length<=1000):
 yY [(true,zm n m J e Ds S),(true,zm c m' J' e' Ds' S'),(true,zc r)]=sT (.bl<|A8 n m J e Ds S c m' J' e' Ds' S' r):=by
 have n1:=A.n1;have n8:=A.n8;have dl:=A.dl;have dl':=B.dl;let ST:=ou n m J e Ds S c m' J' e' Ds' S' r;have w0:WE (zr (yu zu) [none,some 1] zG (wU<|fT<|wa zL zg (f2 zi zL zk) (zt .LtE)<|zt .Lt) zg) (ST none none none none none none none none none none) (.lst<|(r.filter λx:Int=>!(decide (0<=x)&&decide (x<c))).map D.int):=
  E1 (it:=λx:Int=>(true,D.int x)) (gg:=gN 0) (h:=D.int) r (xI (g:=D.int)<|WD.e<|za (i:=2) rfl) (by omega) λx mx=>⟨[sI x,sT<|zm c m' J' e' Ds' S'],rfl,ZP<|zJ (D6 zb (za (i:=0) rfl)<|zj (g:=zk) (z:=.int c) (za (i:=1) rfl) (zb (x:=.int 0)) rfl rfl) rfl,λ_=>WD.e<|za (i:=0) rfl⟩
 have t1:WT (vA (fT<|f2 (fP xg xx) (f2 zg zL zk)<|zt .NotEq)<|fT<|f2 (zr (yu zu) [none,some 1] zG (wU<|fT<|wa zL zg (f2 zi zL zk) (zt .LtE)<|zt .Lt) zg) (yA dN)<|zt .NotEq) (ST none none none none none none none none none none) (!(((r.length:Int)==n)&&((r.filter λx:Int=>!(decide (0<=x)&&decide (x<c))).map D.int).isEmpty)):=by
  refine Kg ?_ λ_=>zJ (LU w0 (xi (x:=.lst []) (os:=[]) zR (wX rfl) rfl rfl)<|tX _) rfl;have:=QJ (Dn (l:=r.map D.int)<|za (as:=ST none none none none none none none none none none) (i:=2) rfl)<|zj (g:=zk) (z:=.int n) (za (i:=0) rfl) (zb (x:=.int 0)) rfl rfl;rw[zzB]at this;exact this
 have ld:∀(x:Nat) (P:D) (l:List D),(ST none none none none none none none none none none)[x]? = some (sT P)->∀k:Int,zk P (.int k)=some (.im<|.lst l)->WD (fP (aC (f2 (fV x) (fC<|.int k) zk) aN) xx) (ST none none none none none none none none none none) true (.int (l.length:Nat)):=λx P l hx k hk=>Dn<|zE (za hx) zb hk;have t2:WT (vA (fT<|f2 (f2 zg zH zk) (f2 zi zH zk)<|zt .NotEq)<|vA (fT<|f2 (fP (aC (f2 zg yV zk) aN) xx) (fP (aC (f2 zi yV zk) aN) xx)<|zt .NotEq)<|fT<|f2 (fP (aC (f2 zg wR zk) aN) xx) (fP (aC (f2 zi wR zk) aN) xx)<|zt .NotEq) (ST none none none none none none none none none none) (!(((m:Int)==m')&&(((Ds.length:Int)==Ds'.length)&&((S.length:Int)==S'.length)))):=by
  refine Kg (QJ (zj (g:=zk) (z:=.int m) (za (i:=0) rfl) (zb (x:=.int 1)) rfl rfl)<|zj (g:=zk) (z:=.int m') (za (i:=1) rfl) (zb (x:=.int 1)) rfl rfl) λ_=>Kg ?_ λ_=>?_
  . have:=QJ (ld 0 _ (Ds.map zK) rfl 4 rfl)<|ld 1 _ (Ds'.map zK) rfl 4 rfl;rw[zzB,zzB]at this;exact this
  . have:=QJ (ld 0 _ (S.map ye) rfl 5 rfl)<|ld 1 _ (S'.map ye) rfl 5 rfl;rw[zzB,zzB]at this;exact this
 refine xR rfl<|(MM t1 rfl).rt λg as' h=>?_;subst h;have hl:r.length=n:=by have:=beq_iff_eq.mp (Bool.and_eq_true_iff.mp g).1;omega
 have hr:∀x ∈ r,zQ c x:=λx mx=>by
  have:=List.isEmpty_iff.mp (Bool.and_eq_true_iff.mp g).2;have:=List.filter_eq_nil_iff.mp (List.map_eq_nil_iff.mp this) x mx;rw[Bool.not_eq_true,Bool.not_eq_false']at this;have:=Bool.and_eq_true_iff.mp this;exact⟨of_decide_eq_true this.1,of_decide_eq_true this.2⟩
 have ra:=E3 hl hr;refine(MM t2 rfl).rt λg2 as' h=>?_;subst h;have s3:zz true 3 (f2 (f2 zu (f2 zg xr zk) zk) (f2 zi xr zk)<|zt .Eq) (ST none none none none none none none none none none)=some (.nx<|ST (sT<|.bl<|zM r e==e') none none none none none none none none none):=yf (i:=3) (yt (zj (za (i:=2) rfl) (zj (z:=.int e) (za (i:=0) rfl) zb rfl rfl) (y7 hl ⟨A.e0,A.en⟩) rfl) (zj (z:=.int e') (za (i:=1) rfl) zb rfl rfl) rfl)<|zo rfl;have hn:n*n<=1000:=zzO (Nat.mul_le_mul n8 n8) (by decide);have rn:zY (aC (f2 (f2 zg zL zk) (f2 zg zL zk) zF) aN) z_ (ST (sT<|.bl<|zM r e==e') none none none none none none none none none)=some ((zD<|n*n).map λx=>(true,D.int x),ST (sT<|.bl<|zM r e==e') none none none none none none none none none):=by
  have w:=y6 (as:=ST (sT<|.bl<|zM r e==e') none none none none none none none none none) (zj (g:=zk) (z:=.int n) (za (i:=0) rfl) (zb (x:=.int 0)) rfl rfl) (zj (g:=zk) (z:=.int n) (za (i:=0) rfl) (zb (x:=.int 0)) rfl rfl) (zP (by omega)<|by omega) (zP (by omega)<|by omega);rw[<-zzV]at w;exact wM (ze w zq) hn
 obtain⟨as1,f1,e4,e5,e6,e7,rfl⟩:=tm (g:=wO) (f:=zp (Zo (fP (aC zZ<|aC (f2 zg zL zk) aN) LC)<|gT 2<|yd (gN 5)<|yd (gN 6) xG)<|zp (zz true 7<|f2 (f2 (f2 zi yq zk) (f2 zu yP zk) zk) (f2 zu y9 zk) zk)<|zz true 3<|YF zC<|f2 (f2 zu (f2 (f2 (f2 zg yq zk) yP zk) y9 zk) zk) yR<|zt .Eq) (it:=λx:Int=>(true,D.int x)) (λb as=>∃e4 e5 e6 e7,as=ST (sT<|.bl b) e4 e5 e6 e7 none none none none none) (λk=>jE J J' r (k/n)<|k%n) (zD<|n*n) (λx mx b as hI=>by
  obtain⟨e4,e5,e6,e7,rfl⟩:=hI;have hx:=yj mx;have ha:zQ n (x/n):=⟨Int.ediv_nonneg hx.1 (by omega),by
   have:=hx.2;rw[zzV]at this;exact Int.ediv_lt_of_lt_mul (by omega) this⟩
  have hb:zQ n (x%n):=⟨zyN _ (by omega),zyH _<|by omega⟩;refine⟨ST (sT<|.bl b) (sI x) e5 e6 e7 none none none none none,_,rfl,zW (TQ (WD.e<|Dp (za (i:=4) rfl) (zj (g:=zk) (z:=.int n) (za (i:=0) rfl) (zb (x:=.int 0)) rfl rfl) (by omega)<|by omega) rfl)<|zW (yf (i:=7) (xy B.j (ra _ ha) (ra _ hb) (zE (z:=zv J') (za (i:=1) rfl) zb rfl) (zj (za (i:=2) rfl) (za (i:=5) rfl) (y7 hl ha) rfl)<|zj (za (i:=2) rfl) (za (i:=6) rfl) (y7 hl hb) rfl)<|zo rfl)<|yf (i:=3) (RS (za (i:=3) rfl)<|yt (zj (za (i:=2) rfl) (xy A.j ha hb (zE (z:=zv J) (za (i:=0) rfl) zb rfl) (za (i:=5) rfl)<|za (i:=6) rfl) (y7 hl<|Zg A.j ha hb) rfl) (za (i:=7) rfl) rfl)<|zo rfl,_,_,_,_,rfl⟩) _ _ ⟨none,none,none,none,rfl⟩
 have z1:Qk (aC (f2 zg yV zk)<|aC (f2 zi yV zk) aN) (ST (sT<|.bl<|(zM r e==e')&&(zD<|n*n).all λk=>jE J J' r (k/n)<|k%n) e4 e5 e6 e7 none none none none none)=some ((Ds.zip Ds').map λq=>(true,D.tup [zK q.1,zK q.2]),ST (sT<|.bl<|(zM r e==e')&&(zD<|n*n).all λk=>jE J J' r (k/n)<|k%n) e4 e5 e6 e7 none none none none none):=by
  have:=EN (as:=ST (sT<|.bl<|(zM r e==e')&&(zD<|n*n).all λk=>jE J J' r (k/n)<|k%n) e4 e5 e6 e7 none none none none none) (WD.e<|zE (g:=zk) (z:=.lst<|Ds.map zK) (za (i:=0) rfl) (zb (x:=.int 4)) rfl)<|WD.e<|zE (g:=zk) (z:=.lst<|Ds'.map zK) (za (i:=1) rfl) (zb (x:=.int 4)) rfl;rw[vD]at this;exact this
 obtain⟨as2,k2,e7,e8,e9,e10,e11,rfl⟩:=tm (g:=gT 2<|yd (gN 8)<|yd (gN 9) xG) (it:=λq:(Str×TZ)×(Str×TZ)=>(true,D.tup [zK q.1,zK q.2])) (λb as=>∃e7 e8 e9 e10 e11,as=ST (sT<|.bl b) e4 e5 e6 e7 e8 e9 e10 e11 none) (dE r) (Ds.zip Ds') (λq mq b as hI=>by
  obtain⟨e7,e8,e9,e10,e11,rfl⟩:=hI;obtain⟨m1,m2⟩:=List.of_mem_zip mq;have hT:=A.ds _ m1;have hT':=B.ds _ m2;have s3:zz true 3 (YF zC<|f2 (f2 (fV 8) zL zk) (f2 (fV 9) zL zk)<|zt .Eq) (ST (sT<|.bl b) e4 e5 e6 e7 (sT<|zK q.1) (sT<|zK q.2) e10 e11 none)=some (.nx<|ST (sT<|.bl<|b&&(q.1.1==q.2.1)) e4 e5 e6 e7 (sT<|zK q.1) (sT<|zK q.2) e10 e11 none):=yf (i:=3) (RS (za (i:=3) rfl)<|yt (zj (z:=.str q.1.1) (za (i:=8) rfl) zb rfl rfl) (zj (z:=.str q.2.1) (za (i:=9) rfl) zb rfl rfl) rfl)<|zo rfl;have z2:Qk (aC (f2 (fV 8) zH zk)<|aC (f2 (fV 9) zH zk) aN) (ST (sT<|.bl<|b&&(q.1.1==q.2.1)) e4 e5 e6 e7 (sT<|zK q.1) (sT<|zK q.2) e10 e11 none)=some ((q.1.2.zip q.2.2).map λu=>(true,D.tup [zc u.1,zc u.2]),ST (sT<|.bl<|b&&(q.1.1==q.2.1)) e4 e5 e6 e7 (sT<|zK q.1) (sT<|zK q.2) e10 e11 none):=by
   have:=EN (as:=ST (sT<|.bl<|b&&(q.1.1==q.2.1)) e4 e5 e6 e7 (sT<|zK q.1) (sT<|zK q.2) e10 e11 none) (WD.e<|zE (g:=zk) (z:=zv q.1.2) (za (i:=8) rfl) (zb (x:=.int 1)) rfl)<|WD.e<|zE (g:=zk) (z:=zv q.2.2) (za (i:=9) rfl) (zb (x:=.int 1)) rfl;rw[vD]at this;exact this
  obtain⟨as3,f3,e7',e10',e11',rfl⟩:=tm (g:=gT 2<|yd (gN 10)<|yd (gN 11) xG) (f:=zp (zz true 7<|zr (yu zu) [none,some 11] zG zN<|f2 zi zg zk)<|zz true 3<|YF zC<|f2 (zr (yu<|fV 10) [none,some 2] zG zN<|f2 zi zg zk) yR<|zt .Eq) (it:=λu:List Int×List Int=>(true,D.tup [zc u.1,zc u.2])) (λb as=>∃e7 e10 e11,as=ST (sT<|.bl b) e4 e5 e6 e7 (sT<|zK q.1) (sT<|zK q.2) e10 e11 none) (λu=>u.1.map (zM r)==r.map (zM u.2)) (q.1.2.zip q.2.2) (λu mu b as hI=>by
   obtain⟨e7,e10,e11,rfl⟩:=hI;obtain⟨u1,u2⟩:=List.of_mem_zip mu;have w2:=GS (as:=ST (sT<|.bl b) e4 e5 e6 e7 (sT<|zK q.1) (sT<|zK q.2) (sT<|zc u.1) (sT<|zc u.2) none) (cap:=[none,some 11]) (hT'.2 _ u2).1 (WD.e<|za (i:=2) rfl) rfl (by omega) hr;have s7:=yQ (p:=7) w2<|zo rfl;have w1:=GS (as:=ST (sT<|.bl b) e4 e5 e6 (sT<|zc<|r.map<|zM u.2) (sT<|zK q.1) (sT<|zK q.2) (sT<|zc u.1) (sT<|zc u.2) none) (cap:=[none,some 2]) hl (WD.e<|za (i:=10) rfl) rfl (by rw[(hT.2 _ u1).1];omega) (hT.2 _ u1).2;exact⟨ST (sT<|.bl b) e4 e5 e6 e7 (sT<|zK q.1) (sT<|zK q.2) (sT<|zc u.1) (sT<|zc u.2) none,_,rfl,zW s7<|yf (i:=3) (RS (za (i:=3) rfl)<|Xh w1 (WD.e<|za (i:=7) rfl)<|O_ _ _)<|zo rfl,_,_,_,rfl⟩) _ _ ⟨e7,e10,e11,rfl⟩
  refine⟨ST (sT<|.bl b) e4 e5 e6 e7 (sT<|zK q.1) (sT<|zK q.2) e10 e11 none,_,rfl,zW s3<|yF z2 f3,e7',sT<|zK q.1,sT<|zK q.2,e10',e11', ?_⟩;rw[Bool.and_assoc]) _ _ ⟨e7,none,none,none,none,rfl⟩
 have z2:=λb=>by
  have:=EN (as:=ST (sT<|.bl b) e4 e5 e6 e7 e8 e9 e10 e11 none) (WD.e<|zE (g:=zk) (z:=.lst<|S.map ye) (za (i:=0) rfl) (zb (x:=.int 5)) rfl)<|WD.e<|zE (g:=zk) (z:=.lst<|S'.map ye) (za (i:=1) rfl) (zb (x:=.int 5)) rfl;rw[vD]at this;exact this
 obtain⟨as3,f3,e8,e9,e12,rfl⟩:=tm (g:=gT 2<|yd (gN 8)<|yd (gN 9) xG) (f:=zp (zz true 3<|YF zC<|f2 (f2 (fV 8) zL zk) (f2 (fV 9) zL zk)<|zt .Eq)<|zp (zz true 12<|zr (yu zu) [none,some 9] zG zN<|f2 zg (f2 zi zH zk)<|zt .In)<|zz true 3<|YF zC<|f2 (zr (zY (aC (f2 zg zL zk) aN) z_) [none,some 8] zG zN<|f2 zg (f2 zi zH zk)<|zt .In) (fV 12)<|zt .Eq) (it:=λq:(Str×List Int)×(Str×List Int)=>(true,D.tup [ye q.1,ye q.2])) (λb as=>∃e8 e9 e12,as=ST (sT<|.bl b) e4 e5 e6 e7 e8 e9 e10 e11 e12) (sE n r) (S.zip S') (λq mq b as hI=>by
  obtain⟨e8,e9,e12,rfl⟩:=hI;have s3:zz true 3 (YF zC<|f2 (f2 (fV 8) zL zk) (f2 (fV 9) zL zk)<|zt .Eq) (ST (sT<|.bl b) e4 e5 e6 e7 (sT<|ye q.1) (sT<|ye q.2) e10 e11 e12)=some (.nx<|ST (sT<|.bl<|b&&(q.1.1==q.2.1)) e4 e5 e6 e7 (sT<|ye q.1) (sT<|ye q.2) e10 e11 e12):=yf (i:=3) (RS (za (i:=3) rfl)<|yt (zj (z:=.str q.1.1) (za (i:=8) rfl) zb rfl rfl) (zj (z:=.str q.2.1) (za (i:=9) rfl) zb rfl rfl) rfl)<|zo rfl;have w12:=yx (as:=ST (sT<|.bl<|b&&(q.1.1==q.2.1)) e4 e5 e6 e7 (sT<|ye q.1) (sT<|ye q.2) e10 e11 e12) (it:=λx:Int=>(true,D.int x)) (cap:=[none,some 9]) (gg:=gN 0) (fe:=f2 zg (f2 zi zH zk)<|zt .In) (fi:=yu zu) r (xI (g:=D.int)<|WD.e<|za (i:=2) rfl) (by omega) λx mx=>⟨[sI x,sT<|ye q.2],rfl,WD.e<|Ub (za (i:=0) rfl)<|zE (g:=zk) (z:=zc q.2.2) (za (i:=1) rfl) (zb (x:=.int 1)) rfl⟩;have s12:=yQ (p:=12) w12<|zo rfl;have w1:=yx (as:=ST (sT<|.bl<|b&&(q.1.1==q.2.1)) e4 e5 e6 e7 (sT<|ye q.1) (sT<|ye q.2) e10 e11<|sT<|.lst (r.map λv:Int=>D.bl<|decide (v ∈ q.2.2))) (it:=λx:Int=>(true,D.int x)) (cap:=[none,some 8]) (gg:=gN 0) (fe:=f2 zg (f2 zi zH zk)<|zt .In) (fi:=zY (aC (f2 zg zL zk) aN) z_) (zD n) (wM (ze (zj (g:=zk) (z:=.int n) (za (i:=0) rfl) (zb (x:=.int 0)) rfl rfl) zq)<|by omega) (by rw[zzB,zyU];omega) λx mx=>⟨[sI x,sT<|ye q.1],rfl,WD.e<|Ub (za (i:=0) rfl)<|zE (g:=zk) (z:=zc q.1.2) (za (i:=1) rfl) (zb (x:=.int 1)) rfl⟩;have eb:wN 60 (.lst ((zD n).map λv:Int=>D.bl<|decide (v ∈ q.1.2))) (.lst (r.map λv:Int=>D.bl<|decide (v ∈ q.2.2)))=some (((zD n).map λv=>decide (v ∈ q.1.2))==r.map λv=>decide (v ∈ q.2.2)):=by
   have:=E_ 58 ((zD n).map λv=>decide (v ∈ q.1.2))<|r.map λv=>decide (v ∈ q.2.2);rw[HZ,HZ]at this;exact this
  refine⟨ST (sT<|.bl b) e4 e5 e6 e7 (sT<|ye q.1) (sT<|ye q.2) e10 e11 e12,_,rfl,zW s3<|zW s12<|yf (i:=3) (RS (za (i:=3) rfl)<|Xh w1 (WD.e<|za (i:=12) rfl) eb)<|zo rfl,sT<|ye q.1,sT<|ye q.2,sT<|.lst (r.map λv:Int=>D.bl<|decide (v ∈ q.2.2)), ?_⟩;rw[Bool.and_assoc];rfl) _ _ ⟨e8,e9,none,rfl⟩
 exact zW s3<|zW (yF rn f1)<|zW (yF z1 k2)<|zW (yF (z2 _) f3)<|y_<|za (i:=3) rfl
end
theorem QQ{α β:Type}:∀(l:List (Str×α)) (l':List (Str×β)),l.map (·.1)=l'.map (·.1) ↔ l.length=l'.length/\∀q ∈ l.zip l',q.1.1=q.2.1
 | [],[]=>by simp
 | [],_::_=>by simp
 |_::_,[]=>by simp
 |a::l,b::l'=>by
  rw[zyS,zyS,List.cons_eq_cons,QQ l l',List.zip_cons_cons,zzT,zzT,List.forall_mem_cons,Nat.add_right_cancel_iff];exact⟨λ⟨a,b,c⟩=>⟨b,a,c⟩,λ⟨b,a,c⟩=>⟨a,b,c⟩⟩
def Bf{α:Type}(f g:α->Bool)(l:List α):l.all (λx=>f x&&g x)=true ↔ (∀x ∈ l,f x=true)/\∀x ∈ l,g x=true:=by
 rw[List.all_eq_true];exact⟨λh=>⟨λx m=>(Bool.and_eq_true_iff.mp<|h x m).1,λx m=>(Bool.and_eq_true_iff.mp<|h x m).2⟩,λh x m=>Bool.and_eq_true_iff.mpr ⟨h.1 x m,h.2 x m⟩⟩
section
variable{n m m' c:Nat}{J J':TZ}{e e':Int}{Ds Ds':DZ}{S S':SS}{r:List Int}
def By{t:Int->Int->Bool}(n1:1<=n):(zD<|n*n).all (λk=>t (k/n)<|k%n)=(zD n).all λa=>(zD n).all λb=>t a b:=by
 rw[Bool.eq_iff_iff,List.all_eq_true,List.all_eq_true];constructor
 . intro h a ma;rw[List.all_eq_true];intro b mb;have ha:=yj ma;have hb:=yj mb;have hk:zQ (n*n) (a*n+b):=by
    have h0:0<=a*n:=Int.mul_nonneg ha.1 (by omega);have h1:(a+1)*n<=n*n:=Int.mul_le_mul_of_nonneg_right (by have:=ha.2;omega) (by omega);rw[Int.add_mul,Int.one_mul]at h1;exact⟨by have:=hb.1;omega,by rw[zzV];have:=hb.2;omega⟩
   have:=h _<|wy hk;rw[Int.add_comm<|a*n,Int.add_mul_ediv_right _ _ (by omega),Int.add_mul_emod_self_right,Int.ediv_eq_zero_of_lt hb.1 hb.2,Int.emod_eq_of_lt hb.1 hb.2,Int.zero_add]at this;exact this
 . intro h x mx;have hx:=yj mx;refine List.all_eq_true.mp (h (x/n)<|wy ⟨Int.ediv_nonneg hx.1 (by omega), ?_⟩) (x%n)<|wy ⟨zyN _ (by omega),zyH _<|by omega⟩;have:=hx.2;rw[zzV]at this;exact Int.ediv_lt_of_lt_mul (by omega) this
def HY:((r.filter λx:Int=>!(decide (0<=x)&&decide (x<c))).map D.int).isEmpty=r.all (uj c):=by
 rw[Bool.eq_iff_iff,List.isEmpty_iff,List.map_eq_nil_iff,List.filter_eq_nil_iff,List.all_eq_true];refine forall_congr' λx=>forall_congr' λmx=>?_;rw[Bool.not_eq_true,Bool.not_eq_false',Bool.and_eq_true_iff,Bool.and_eq_true_iff,decide_eq_true_iff,decide_eq_true_iff,decide_eq_true_iff];exact and_congr_right λ_=>⟨λh=>by omega,λh=>by omega⟩
def FG{V V':List Int}(hl:r.length=n):(((zD n).map λv=>decide (v ∈ V))==r.map λv=>decide (v ∈ V'))=rW r V V':=by
 rw[Bool.eq_iff_iff,beq_iff_eq,List.all_eq_true];have rg:∀i:Nat,(zD n)[i]? = if i<n then some i else none:=λi=>by
  rw[zzI]
  by_cases h:i<n
  . rw[if_pos h,List.getElem?_range h];rfl
  . rw[if_neg h,List.getElem?_eq_none<|by rw[zyU];omega];rfl
 constructor
 . intro h q mq;obtain⟨j,hj⟩:=List.mem_iff_getElem?.mp mq;obtain⟨h1,h2⟩:=List.getElem?_zip_eq_some.mp hj;obtain⟨h3,h4⟩:=zzG.mp h1;rw[List.getElem_range']at h4;have hk:j<n:=by rw[<-hl];exact(zzG.mp h2).1
   have this:((zD n).map λv=>decide (v ∈ V))[j]? = (r.map λv=>decide (v ∈ V'))[j]? := by rw[h]
   rw[zzI,zzI (l:=r),rg,if_pos hk,h2]at this;have h5:q.1=j:=by omega
   rw[h5];exact beq_iff_eq.mpr<|zzZ this
 . intro h;refine List.ext_getElem? λi=>?_;rw[zzI,zzI (l:=r),rg]
   by_cases hk:i<n
   . have h2:i<r.length:=by omega
     rw[if_pos hk,zzE h2];have hm:(i,r[i]) ∈ (List.range' 0 r.length).zip r:=by
      refine List.mem_iff_getElem?.mpr ⟨i,List.getElem?_zip_eq_some.mpr ⟨?_,zzE h2⟩⟩;rw[List.getElem?_range'<|by omega];congr 1;omega
     exact congrArg some<|beq_iff_eq.mp<|h _ hm
   . rw[if_neg hk,List.getElem?_eq_none<|by omega];rfl
def Im(n1:1<=n):A8 n m J e Ds S c m' J' e' Ds' S' r=Gj n m J e Ds S c m' J' e' Ds' S' r:=by
 unfold A8 Gj;rw[HY,By n1];rw[Bool.eq_iff_iff];simp only[Bool.and_eq_true_iff];have a1:(Ds.zip Ds').all (dE r)=true ↔ _:=Bf (λq:(Str×TZ)×(Str×TZ)=>q.1.1==q.2.1) (λq=>sU r q.1.2 q.2.2) _;have a2:(S.zip S').all (sE n r)=true ↔ _:=Bf (λq:(Str×List Int)×(Str×List Int)=>q.1.1==q.2.1) (λq=>(((zD n).map λv=>decide (v ∈ q.1.2))==r.map λv=>decide (v ∈ q.2.2))) _;rw[a1,a2,decide_eq_true_iff,decide_eq_true_iff,QQ Ds Ds',QQ S S',List.all_eq_true (l:=Ds.zip Ds'),List.all_eq_true (l:=S.zip S')];have e1:((Ds.length:Int)==Ds'.length)=true ↔ Ds.length=Ds'.length:=by rw[beq_iff_eq];omega
 have e2:((S.length:Int)==S'.length)=true ↔ S.length=S'.length:=by rw[beq_iff_eq];omega
 have e3:∀{α:Type}{l:List ((Str×α)×(Str×α))},(∀x ∈ l,(x.1.1==x.2.1)=true) ↔ ∀x ∈ l,x.1.1=x.2.1:=λ{α l}=>forall_congr' λx=>forall_congr' λ_=>beq_iff_eq;rw[e1,e2,e3,e3];constructor
 . rintro⟨⟨g1,g2⟩,⟨g3,g4,g5⟩,⟨⟨g6,g7⟩,g8,g9⟩,g10,g11⟩
   have hl:r.length=n:=by have:=beq_iff_eq.mp g1;omega
   exact⟨⟨⟨g3,⟨g4,g8⟩,g5,g10⟩,g1,g2⟩,⟨g7,g6⟩,g9,λx mx=>by rw[<-FG hl];exact g11 x mx⟩
 . rintro⟨⟨⟨g3,⟨g4,g8⟩,g5,g10⟩,g1,g2⟩,⟨g7,g6⟩,g9,g11⟩
   have hl:r.length=n:=by have:=beq_iff_eq.mp g1;omega
   exact⟨⟨g1,g2⟩,⟨g3,g4,g5⟩,⟨⟨g6,g7⟩,g8,g9⟩,g10,λx mx=>by rw[FG hl];exact g11 x mx⟩
def Cw(A:Alg n m J e Ds)(B:Alg c m' J' e' Ds')(sl:S.length<=10)(sl':S'.length<=10)(rl:r.length<=1000):
 yY [(true,zm n m J e Ds S),(true,zm c m' J' e' Ds' S'),(true,zc r)]=sT (.bl<|Gj n m J e Ds S c m' J' e' Ds' S' r):=by
 rw[<-Im A.n1];exact OO A B sl sl' rl
end
abbrev WX(fr:DF)(as:AS)(ds:List D):Prop:=∃os,WO fr as os/\O.strs os=true/\O.toDs os=ds/\os.length=ds.length
def w_{as:AS}:WX dN as []:=⟨[],zR,rfl,rfl,rfl⟩
def yc{a:EF}{fr:DF}{as:AS}{x:D}{ds:List D}(h:WE a as x)(hr:WX fr as ds):WX (dC a fr) as (x::ds):=by
 obtain⟨o,h1,h2,h3⟩:=h;obtain⟨os,k1,k2,k3,k4⟩:=hr;exact⟨o::os,Zp h1 k1,by show(o.str&&O.strs os)=true;rw[h2,k2];rfl,by show o.toD::O.toDs os=_;rw[h3,k3],by rw[zzT,zzT,k4]⟩
def QF{fr:DF}{as:AS}{ds:List D}(h:WX fr as ds)(hl:ds.length<=1000):WE (yA fr) as (.lst ds):=by
 obtain⟨os,k1,k2,k3,k4⟩:=h;exact xi k1 (Gk<|by omega) k2 (by rw[k3])
def QI{fr:DF}{as:AS}{ds:List D}(h:WX fr as ds)(hl:ds.length<=1000):WE (yh fr) as (.tup ds):=by
 obtain⟨os,k1,k2,k3,k4⟩:=h;exact Vf k1 (Gk<|by omega) k2 (by rw[k3])
section
variable{n m:Nat}{J:TZ}{e x:Int}{Ds:DZ}{S:SS}
def six{as:AS}{a1 a2 a3 a4 a5 a6:EF}{m':Nat}{Ds':DZ}{S':SS}(h1:WE a1 as (.int n))(h2:WE a2 as (.int m'))(h3:WE a3 as (zv J))(h4:WE a4 as (.int e))(h5:WE a5 as (.lst<|Ds'.map zK))(h6:WE a6 as (.lst<|S'.map ye)):WE (yh<|dC a1<|dC a2<|dC a3<|dC a4<|dC a5<|dC a6 dN) as (zm n m' J e Ds' S'):=
 QI (yc h1<|yc h2<|yc h3<|yc h4<|yc h5<|yc h6 w_) (by decide:6<=1000)
def AZ{α:Type}{f:α->D}{l:List α}{a:EF}{as:AS}(h:WE a as (.lst<|l.map f)):WE (ZW a oN (oS<|f1 zH Rm) J5) as (.lst<|l.reverse.map f):=by
 have:=Yx (g:=J5) (hi:=some (-1)) (fl:=oN) h rfl (vL<|Lb zb) rfl;rw[List.map_reverse];exact this
def Alg.of{Ds':DZ}(A:Alg n m J e Ds)(hl:Ds'.length<=6)(hm:∀p ∈ Ds',p ∈ Ds)(nd:(Ds'.map (·.1)).Nodup):Alg n m J e Ds':=⟨A.n1,A.n8,A.m1,A.m6,A.j,A.e0,A.en,hl,λp mp=>A.ds p<|hm p mp,nd⟩
abbrev O9(n m:Nat)(J:TZ)(e:Int)(Ds:DZ)(S:SS)(x:Int)(e8:Option O):AS:=[sT<|zm n m J e Ds S,sI x,sI n,sI m,sT<|zv J,sI e,sT<|.lst<|Ds.map zK,sT<|.lst<|S.map ye,e8]
def Cd(A:Alg n m J e Ds)(sl:S.length<=10):∃m' J' e' Ds' S',Alg n m' J' e' Ds'/\S'.length<=10/\RE (ZG [(true,zm n m J e Ds S),(true,.int x)]) (zm n m' J' e' Ds' S'):=by
 have n8:=A.n8;have s0:Zo zg (gT 6<|yd (gN 2)<|yd (gN 3)<|yd wO<|yd (gN 5)<|yd (gN 6)<|yd (gN 7) xG) [sT<|zm n m J e Ds S,sI x,none,none,none,none,none,none,none]=some (.nx<|O9 n m J e Ds S x none):=TQ (WD.e<|za rfl) rfl;have T:∀k:Int,WT (fT<|f2 (f2 zi (fC<|.int 9) zy) (fC<|.int k)<|zt .Eq) (O9 n m J e Ds S x none) (x%9==k):=λk=>zJ (yt (yb (za rfl) zb<|by decide) zb rfl) rfl;have v:∀{i:Nat}{d:D}{e8:Option O},(O9 n m J e Ds S x e8)[i]? = some (sT d)->WE (fV i) (O9 n m J e Ds S x e8) d:=λh=>WD.e<|za h;have F:∀{k:Int}{f:SF},¬((x%9==k)=true)->xB (fT<|f2 (f2 zi (fC<|.int 9) zy) (fC<|.int k)<|zt .Eq) f xQ (O9 n m J e Ds S x none)=some (.nx<|O9 n m J e Ds S x none):=λ{k f} h=>zU (by have t:=T k;rw[show(x%9==k)=false by simpa using h]at t;exact t) rfl;have G:∀{k:Int}{f g:SF}{d:D},(x%9==k)=true->Rt (f<|O9 n m J e Ds S x none) d->Rt (zp (xB (fT<|f2 (f2 zi (fC<|.int 9) zy) (fC<|.int k)<|zt .Eq) f xQ) g<|O9 n m J e Ds S x none) d:=λ{k f g d} h r=>xa<|xT (by rw[<-h];exact T k) r
 by_cases c1:(x%9==1)=true
 . obtain⟨J',e',Ds',B,h⟩:=Fh A;exact⟨m,J',e',Ds',S,B,sl,yk rfl<|zd s0<|G c1<|yg<|wY (v rfl) (v (i:=1) rfl) h⟩
 by_cases c2:(x%9==2)=true
 . exact⟨m,J,e,Ds.reverse,S,A.of (by rw[List.length_reverse];exact A.dl) (λp mp=>List.mem_reverse.mp mp) (by rw[List.map_reverse];exact(List.reverse_perm _).nodup_iff.mpr A.nd),sl,yk rfl<|zd s0<|zd (F c1)<|G c2<|yg<|six (v (i:=2) rfl) (v (i:=3) rfl) (v (i:=4) rfl) (v (i:=5) rfl) (AZ<|v (i:=6) rfl)<|v (i:=7) rfl⟩
 by_cases c3:(x%9==3)=true
 . exact⟨m,J,e,Ds,S.reverse,A,by rw[List.length_reverse];exact sl,yk rfl<|zd s0<|zd (F c1)<|zd (F c2)<|G c3<|yg<|six (v (i:=2) rfl) (v (i:=3) rfl) (v (i:=4) rfl) (v (i:=5) rfl) (v (i:=6) rfl)<|AZ<|v (i:=7) rfl⟩
 by_cases c4:(x%9==4)=true
 . have w:WE (zr (yu yR) [none,none,some 2] (gT 2<|yd zG<|yd (gN 1) xG) zN<|yh<|dC zg<|dC (zr (zY xg z_) [none,some 1] zG (fT<|f2 zg zi<|zt .NotIn) zg) dN) (O9 n m J e Ds S x none) (.lst<|(S.map λp=>(p.1,(zD n).filter λv=>!decide (v ∈ p.2))).map ye):=by
    rw[zyB];refine yx S (xI<|v (i:=7) rfl) (by omega) λp mp=>⟨_,rfl, ?_⟩;refine QI (yc (WD.e<|za (i:=0) rfl)<|yc ?_ w_) (by decide:2<=1000);exact E1 (zD n) (wM (ze (za (i:=2) rfl) zq)<|by omega) (by rw[zzB,zyU];omega) λy my=>⟨_,rfl,zJ (zj (za (i:=0) rfl) (za (i:=1) rfl) (by show(Am (.int y)<|zc p.2).bind _=_;rw[MW];rfl) rfl) rfl,λ_=>WD.e<|za (i:=0) rfl⟩
   exact⟨m,J,e,Ds,S.map λp=>(p.1,(zD n).filter λv=>!decide (v ∈ p.2)),A,by rw[zzB];exact sl,yk rfl<|zd s0<|zd (F c1)<|zd (F c2)<|zd (F c3)<|G c4<|zd (yQ (p:=8) w<|zo rfl)<|yg<|six (v (i:=2) rfl) (v (i:=3) rfl) (v (i:=4) rfl) (v (i:=5) rfl) (v (i:=6) rfl)<|v (i:=8) rfl⟩
 by_cases c5:(x%9==5)=true
 . obtain⟨Ds',hs,ck⟩:=LS zK Ds (some 1) none;have w:WE (ZW y9 (oS zH) oN Qa) (O9 n m J e Ds S x none) (.lst<|Ds'.map zK):=Yx (v (i:=6) rfl) (vL zb) rfl (by show some (R0.fl<|PF.cutD (Ds.map zK) (some 1) none)=_;rw[ck]);exact⟨m,J,e,Ds',S,A.of (zzO hs.length_le A.dl) (λp mp=>hs.subset mp)<|A.nd.sublist<|hs.map _,sl,yk rfl<|zd s0<|zd (F c1)<|zd (F c2)<|zd (F c3)<|zd (F c4)<|G c5<|yg<|six (v (i:=2) rfl) (v (i:=3) rfl) (v (i:=4) rfl) (v (i:=5) rfl) w<|v (i:=7) rfl⟩
 have t2:WT (fT<|f2 y9 (yA dN)<|zt .Eq) (O9 n m J e Ds S x none) Ds.isEmpty:=zJ (Xh (v (i:=6) rfl) (xi zR (wX rfl) rfl rfl)<|by cases Ds<;>rfl) rfl;have t3:WT (YW (fT<|f2 (f2 zi (fC<|.int 9) zy) Xf<|zt .Eq)<|fT<|f2 y9 (yA dN)<|zt .Eq) (O9 n m J e Ds S x none) ((x%9==6)&&Ds.isEmpty):=by
  cases h:(x%9==6)with
  |false=>exact Zl (k:=false) (by rw[<-h];exact T 6) (λz=>nomatch z) (λ_=>rfl)
  |true=>exact Zl (k:=true) (by rw[<-h];exact T 6) (λ_=>t2) (λz=>nomatch z)
 cases h:((x%9==6)&&Ds.isEmpty)with
 |true=>
  rw[h]at t3;have hd:=List.isEmpty_iff.mp (Bool.and_eq_true_iff.mp h).2;subst hd;refine⟨m%6+1,J,e,[],S,⟨A.n1,n8,by omega,by omega,A.j,A.e0,A.en,by decide,λp mp=>(nomatch mp),zyJ⟩,sl,yk rfl<|zd s0<|zd (F c1)<|zd (F c2)<|zd (F c3)<|zd (F c4)<|zd (F c5)<|xa<|xT t3<|yg<|six (v (i:=2) rfl) (WD.e ?_) (v (i:=4) rfl) (v (i:=5) rfl) (v (i:=6) rfl)<|v (i:=7) rfl⟩;have:=yD (yb (za (as:=O9 n m J e [] S x none) (i:=3) rfl) (zb (x:=.int 6))<|by decide)<|zb (x:=.int 1);exact this
 |false=>
  rw[h]at t3;exact⟨m,J,e,Ds,S,A,sl,yk rfl<|zd s0<|zd (F c1)<|zd (F c2)<|zd (F c3)<|zd (F c4)<|zd (F c5)<|zd (zU t3 rfl)<|yg<|v (i:=0) rfl⟩
end
section
variable{n:Nat}{x:Int}{r:List Int}
def CG{a:EF}{as:AS}{fl fh:OF}{lo hi:Option Int}(h:WE a as (zc r))(hl:fl as=some (lo,as))(hh:fh as=some (hi,as)):∃l:List Int,l.length<=r.length/\WE (ZW a fl fh Qa) as (zc l):=by
 obtain⟨l,hs,ck⟩:=LS D.int r lo hi;exact⟨l,hs.length_le,Yx h hl hh (by show some (R0.fl<|PF.cutD (r.map D.int) lo hi)=_;rw[ck])⟩
def addW{a b:EF}{as:AS}{l s:List Int}(ha:WE a as (zc l))(hb:WE b as (zc s))(hl:l.length<=500)(hs:s.length<=500):WE (f2 a b zA) as (zc<|l++s):=by
 have w:=OG ha hb (add_lists<|Gk<|by rw[zzB,zzB];omega);rw[<-zyM]at w;exact w
abbrev N6(r:List Int)(n:Nat)(x:Int)(e3 e4 e5:Option O):AS:=[sT<|zc r,sI n,sI x,e3,e4,e5]
def MJ(n1:1<=n)(n8:n<=8)(r1:1<=r.length)(r8:r.length<=8):∃l:List Int,l.length<=100/\RE (vh [(true,zc r),(true,.int n),(true,.int x)]) (zc l):=by
 have v:∀{i:Nat}{d:D}{e3 e4 e5:Option O},(N6 r n x e3 e4 e5)[i]? = some (sT d)->WD (fV i) (N6 r n x e3 e4 e5) true d:=λh=>za h;have ln:=λ{e3 e4 e5}=>by
  have:=Dn<|v (i:=0) (e3:=e3) (e4:=e4) (e5:=e5) rfl;rw[zzB]at this;exact this
 have d8:∀{e3 e4 e5:Option O},WD (f2 zu vd zB) (N6 r n x e3 e4 e5) true (.int<|x/8):=λ{e3 e4 e5}=>wd (v rfl) zb (by decide) (zP (by decide)<|by decide);have s3:zz true 3 (f2 (f2 zu vd zB) (fP xq xx) zy) (N6 r n x none none none)=some (.nx<|N6 r n x (sI<|x/8%r.length) none none):=yf (yb d8 ln<|by omega)<|zo rfl;have w4:WE (yA<|dC (f2 (f2 zu (fC<|.int 64) zB) zi zy)<|dC zi<|dC (f1 zH Rm)<|dC (f2 zi zu zA)<|dC (f2 (f1 zH Rm) zu ZT) dN) (N6 r n x (sI<|x/8%r.length) none none) (zc [x/64%n,n, -1,n+x, -1-x]):=
  QF (yc (WD.e<|yb (wd (v rfl) zb (by decide)<|zP (by decide)<|by decide) (v rfl)<|by omega)<|yc (WD.e<|v rfl)<|yc (WD.e<|Lb zb)<|yc (WD.e<|yD (v rfl)<|v rfl)<|yc (WD.e<|QT (Lb zb)<|v rfl) w_) (by decide:5<=1000)
 obtain⟨y,hy,_⟩:=QL (r:=[x/64%n,n, -1,n+x, -1-x]) (k:=x/8%5) (zyN _<|by decide) (zyH _<|by decide) λ_ _=>trivial;have s4:=yQ (p:=4) (H_ w4 (WD.e<|yb d8 (zb)<|by decide) hy)<|zo rfl;have one:WE (yA<|dC zZ dN) (N6 r n x (sI<|x/8%r.length) (sI y) none) (zc [y]):=QF (yc (WD.e<|v rfl) w_) (by decide:1<=1000);have w0:WE zg (N6 r n x (sI<|x/8%r.length) (sI y) none) (zc r):=WD.e<|v rfl;obtain⟨l1,k1,c1⟩:=CG (fl:=oN) w0 rfl<|vL<|v (i:=3) rfl;obtain⟨l2,k2,c2⟩:=CG (fh:=oN) w0 (vL<|yD (v (i:=3) rfl) zb) rfl;obtain⟨l3,k3,c3⟩:=CG (fl:=oN) w0 rfl<|vL<|Lb zb;have a1:=addW (addW c1 one (by omega) (by decide:1<=500)) c2 (by rw[zzJ];show l1.length+1<=500;omega) (by omega);have a2:=addW w0 one (by omega) (by decide:1<=500);have nl:WE (yA dN) (N6 r n x (sI<|x/8%r.length) (sI y) none) (zc []):=QF w_ (by decide:0<=1000);have w5:=QF (yc w0<|yc w0<|yc a1<|yc a2<|yc c3<|yc nl w_) (by decide:6<=1000);have s5:=yQ (p:=5) w5<|zo rfl;obtain⟨ds,dl,_,hd⟩:=G7 (k:=r.length) (by omega) n8 (by omega);have w6:WE (yA<|dC (ZW zg oN (oS<|f1 zH Rm) J5)<|dC (zx (aC (f2 zu vd zB)<|aC zi<|aC (fP xq xx) aN) wF) dN) (N6 r n x (sI<|x/8%r.length) (sI y)<|sT<|zv [r,r,l1++[y]++l2,r++[y],l3,[]]) (zv [r.reverse,ds]):=QF (yc (AZ<|WD.e<|v rfl)<|yc (vI (WD.e d8) (WD.e<|v rfl) (WD.e ln) hd) w_) (by decide:2<=1000);have w7:=OG (WD.e<|v (i:=5) rfl) w6<|add_lists<|wX rfl;obtain⟨l,hl,lb⟩:=DG zc (T:=[r,r,l1++[y]++l2,r++[y],l3,[],r.reverse,ds]) (P:=λl=>l.length<=100) (k:=x%8) (zyN _<|by decide) (zyH _<|by decide) (by
  simp only[List.forall_mem_cons,zzJ,List.length_reverse,zzT,List.length_nil];exact⟨by omega,by omega,by omega,by omega,by omega,by omega,by omega,by omega,λ_ h=>nomatch h⟩)
 exact⟨l,lb,yk rfl<|zd s3<|zd s4<|zd s5<|yg<|H_ w7 (WD.e<|yb (v rfl) (zb)<|by decide) hl⟩
end
def pS{a b:EF}{as:AS}{x y:D}{q:Bool}(ha:WE a as x)(hb:WE b as y)(h:wN 60 x y=some q):WT (fT<|f2 a b<|zt .NotEq) as (!q):=zJ (LU ha hb h) rfl
def oi{a:EF}{as:AS}{n:Nat}(hn:n<=1000)(h:WE a as (.int n)):WE (fP (aC a aN) Ce) as (zc<|zD n):=by
 have k:=W7 (g:=Ce) (zs:=(zD n).map D.int) h (by
  show(if(0:Int)<=n/\_<=100000 then _ else _)=_;rw[if_pos ⟨by omega,by omega⟩,zyB];rfl)
 rw[X9]at k;exact⟨_,k,(vO _).1,(vO _).2⟩
def oW{a:EF}{as:AS}{l:List Int}(h:WE a as (zc l)):WE (fP (aC a aN) lstP) as (zc l):=by
 have k:=W7 (g:=lstP) h rfl;rw[X9]at k;exact⟨_,k,(vO _).1,(vO _).2⟩
abbrev Tr(d:D):Prop:=∃n m J e Ds S c m' J' e' Ds' S' r,d = .tup [zm n m J e Ds S,zm c m' J' e' Ds' S',zc r]/\Alg n m J e Ds/\Alg c m' J' e' Ds'/\S.length<=10/\S'.length<=10/\1<=r.length/\r.length<=8
section
variable{ns:List Int}{a1 a2 a3 a4 a5 a6:Option O}
abbrev Uq(ns:List Int)(a1 a2 a3 a4 a5 a6 e7 e8 e9 e10 e11 e12 e13 e14 e15:Option O):AS:=[sT<|.lst<|ns.map .int,a1,a2,a3,a4,a5,a6,e7,e8,e9,e10,e11,e12,e13,e14,e15]
abbrev pO:SF:=(zp (zz true 11<|f2 (f2 (zx (aC (fV 10)<|aC zH aN) yo) zL zk) (fP (aC (f2 (fV 10) zL<|zt .NotEq) aN) V0) zF)
 (zp (zz true 12<|zx (aC (fV 8)<|aC (f2 yO vd zB) aN) ZG)
 (zp (zz true 13<|zx (aC (fV 9)<|aC (f2 (fV 12) zL zk)<|aC yO aN) vh)
 (zp (zz true 14<|fP (aC (fV 13) aN) lstP)
 (zp (zz true 15<|zx (aC yR<|aC (fV 12)<|aC (fV 13) aN) yX)
 (zp (xB (vA (wU<|fT<|GH (fV 15) "bool")<|fT<|f2 (fV 13) (fV 14)<|zt .NotEq) (zV<|fC<|.bl false) xQ)
 (xB (fT<|f2 (fV 15) (zx (aC yR<|aC (fV 12)<|aC (fV 14) aN) yY)<|zt .NotEq) (zV<|fC<|.bl false) xQ)))))))
theorem Jw{n m:Nat}{J:TZ}{e:Int}{Ds:DZ}{S:SS}{c m':Nat}{J':TZ}{e':Int}{Ds':DZ}{S':SS}{r:List Int}(A:Alg n m J e Ds)(B:Alg c m' J' e' Ds')(sl:S.length<=10)(sl':S'.length<=10)(r1:1<=r.length)(r8:r.length<=8):∀(t:List Int) (e10 e11 e12 e13 e14 e15:Option O),∃f10 f11 f12 f13 f14 f15,forL (gN 10) pO ((t.map D.int).map λd=>(true,d)) (Uq ns a1 a2 a3 a4 a5 a6 (sT<|zm n m J e Ds S) (sT<|zm c m' J' e' Ds' S') (sT<|zc r) e10 e11 e12 e13 e14 e15)=some (.nx<|Uq ns a1 a2 a3 a4 a5 a6 (sT<|zm n m J e Ds S) (sT<|zm c m' J' e' Ds' S') (sT<|zc r) f10 f11 f12 f13 f14 f15)
 | [],e10,e11,e12,e13,e14,e15=>⟨e10,e11,e12,e13,e14,e15,rfl⟩
 |z::t,e10,e11,e12,e13,e14,e15=>by
  obtain⟨ys,yl,hy,ws⟩:=IV (as:=Uq ns a1 a2 a3 a4 a5 a6 (sT<|zm n m J e Ds S) (sT<|zm c m' J' e' Ds' S') (sT<|zc r) (sI z) e11 e12 e13 e14 e15) (m:=1) (by omega) (WD.e<|za (i:=10) rfl)<|WD.e zb;obtain⟨y,q0,y0,y1⟩:=at2 hy (k:=0) (by omega) (by omega);have wi:WD (fP (aC (f2 (fV 10) zL<|zt .NotEq) aN) V0) (Uq ns a1 a2 a3 a4 a5 a6 (sT<|zm n m J e Ds S) (sT<|zm c m' J' e' Ds' S') (sT<|zc r) (sI z) e11 e12 e13 e14 e15) true (.int<|if(!(z==0))=true then 1 else 0):=ZU (WD.e<|Ur (za rfl) zb rfl) (by cases z==0<;>rfl);obtain⟨x,s11⟩:∃x:Int,zz true 11 (f2 (f2 (zx (aC (fV 10)<|aC zH aN) yo) zL zk) (fP (aC (f2 (fV 10) zL<|zt .NotEq) aN) V0) zF) (Uq ns a1 a2 a3 a4 a5 a6 (sT<|zm n m J e Ds S) (sT<|zm c m' J' e' Ds' S') (sT<|zc r) (sI z) e11 e12 e13 e14 e15)=some (.nx<|Uq ns a1 a2 a3 a4 a5 a6 (sT<|zm n m J e Ds S) (sT<|zm c m' J' e' Ds' S') (sT<|zc r) (sI z) (sI x) e12 e13 e14 e15):=
   ⟨_,yf (y6 (Sf ws (WD.e<|zb) q0) wi (zP (by omega)<|by omega)<|by cases z==0<;>exact zP (by decide) (by decide))<|zo rfl⟩
  obtain⟨m2,J2,e2,D2,S2,B2,l2,ho⟩:=Cd (x:=x/8) B sl';have s12:=yQ (p:=12) (as:=Uq ns a1 a2 a3 a4 a5 a6 (sT<|zm n m J e Ds S) (sT<|zm c m' J' e' Ds' S') (sT<|zc r) (sI z) (sI x) e12 e13 e14 e15) (wY (WD.e<|za (i:=8) rfl) (WD.e<|wd (za (i:=11) rfl) zb (by decide)<|zP (by decide)<|by decide) ho)<|zo rfl;obtain⟨l,ll,hn⟩:=MJ B2.n1 B2.n8 r1 r8;have s13:=yQ (p:=13) (as:=Uq ns a1 a2 a3 a4 a5 a6 (sT<|zm n m J e Ds S) (sT<|zm c m' J' e' Ds' S') (sT<|zc r) (sI z) (sI x) (sT<|zm c m2 J2 e2 D2 S2) e13 e14 e15) (vI (WD.e<|za (i:=9) rfl) (WD.e<|zj (g:=zk) (za (i:=12) rfl) (zb (x:=.int 0)) rfl rfl) (WD.e<|za (i:=11) rfl) hn)<|zo rfl;have s14:=yQ (p:=14) (as:=Uq ns a1 a2 a3 a4 a5 a6 (sT<|zm n m J e Ds S) (sT<|zm c m' J' e' Ds' S') (sT<|zc r) (sI z) (sI x) (sT<|zm c m2 J2 e2 D2 S2) (sT<|zc l) e14 e15) (oW<|WD.e<|za (i:=13) rfl)<|zo rfl;have s15:zz true 15 (zx (aC yR<|aC (fV 12)<|aC (fV 13) aN) yX) (Uq ns a1 a2 a3 a4 a5 a6 (sT<|zm n m J e Ds S) (sT<|zm c m' J' e' Ds' S') (sT<|zc r) (sI z) (sI x) (sT<|zm c m2 J2 e2 D2 S2) (sT<|zc l) (sT<|zc l) e15)=some (.nx<|Uq ns a1 a2 a3 a4 a5 a6 (sT<|zm n m J e Ds S) (sT<|zm c m' J' e' Ds' S') (sT<|zc r) (sI z) (sI x) (sT<|zm c m2 J2 e2 D2 S2) (sT<|zc l) (sT<|zc l)<|sT<|.bl<|Gj n m J e Ds S c m2 J2 e2 D2 S2 l):=yf (yB (ze (za rfl)<|ze (za rfl)<|ze (za rfl) zq)<|MX A B2 sl l2<|by omega)<|zo rfl;have t1:WT (vA (wU<|fT<|GH (fV 15) "bool")<|fT<|f2 (fV 13) (fV 14)<|zt .NotEq) (Uq ns a1 a2 a3 a4 a5 a6 (sT<|zm n m J e Ds S) (sT<|zm c m' J' e' Ds' S') (sT<|zc r) (sI z) (sI x) (sT<|zm c m2 J2 e2 D2 S2) (sT<|zc l) (sT<|zc l)<|sT<|.bl<|Gj n m J e Ds S c m2 J2 e2 D2 S2 l) false:=Kg (ZP (k:=true)<|zJ (RZ (za rfl) rfl) rfl) λ_=>pS (WD.e<|za rfl) (WD.e<|za rfl) OD;have t2:WT (fT<|f2 (fV 15) (zx (aC yR<|aC (fV 12)<|aC (fV 14) aN) yY)<|zt .NotEq) (Uq ns a1 a2 a3 a4 a5 a6 (sT<|zm n m J e Ds S) (sT<|zm c m' J' e' Ds' S') (sT<|zc r) (sI z) (sI x) (sT<|zm c m2 J2 e2 D2 S2) (sT<|zc l) (sT<|zc l)<|sT<|.bl<|Gj n m J e Ds S c m2 J2 e2 D2 S2 l) false:=pS (q:=true) (WD.e<|za rfl) (WD.e<|yB (ze (za rfl)<|ze (za rfl)<|ze (za rfl) zq)<|Cw A B2 sl l2<|by omega) (by show some (Gj n m J e Ds S c m2 J2 e2 D2 S2 l==Gj n m J e Ds S c m2 J2 e2 D2 S2 l)=_;rw[beq_self_eq_true]);obtain⟨f10,f11,f12,f13,f14,f15,hf⟩:=Jw A B sl sl' r1 r8 t (sI z) (sI x) (sT<|zm c m2 J2 e2 D2 S2) (sT<|zc l) (sT<|zc l)<|sT<|.bl<|Gj n m J e Ds S c m2 J2 e2 D2 S2 l;exact⟨f10,f11,f12,f13,f14,f15,xN rfl (zW s11<|zW s12<|zW s13<|zW s14<|zW s15<|zW (zU t1 rfl)<|zU t2 rfl) hf⟩
abbrev oG:SF:=yK (Wa<|f2 (yA<|dC zL dN) (ZW zg (oS yV) (oS<|fC<|.int 12) Qa) zA) (gN 10) pO
theorem Jz(hns:ns.length<=63):∀(t:List D) (e7 e8 e9 e10 e11 e12 e13 e14 e15:Option O),(∀d ∈ t,Tr d)->∃f7 f8 f9 f10 f11 f12 f13 f14 f15,forL (gT 3<|yd (gN 7)<|yd (gN 8)<|yd (gN 9) xG) oG (t.map λd=>(true,d)) (Uq ns a1 a2 a3 a4 a5 a6 e7 e8 e9 e10 e11 e12 e13 e14 e15)=some (.nx<|Uq ns a1 a2 a3 a4 a5 a6 f7 f8 f9 f10 f11 f12 f13 f14 f15)
 | [],e7,e8,e9,e10,e11,e12,e13,e14,e15,_=>⟨e7,e8,e9,e10,e11,e12,e13,e14,e15,rfl⟩
 |d::t,e7,e8,e9,e10,e11,e12,e13,e14,e15,H=>by
  obtain⟨n,m,J,e,Ds,S,c,m',J',e',Ds',S',r,rfl,A,B,sl,sl',r1,r8⟩:=H d zzF;obtain⟨l,ll,wl⟩:=CG (as:=Uq ns a1 a2 a3 a4 a5 a6 (sT<|zm n m J e Ds S) (sT<|zm c m' J' e' Ds' S') (sT<|zc r) e10 e11 e12 e13 e14 e15) (WD.e<|za (i:=0) rfl) (vL zb)<|vL zb;have w:=addW (l:=[0]) (QF (yc (WD.e<|zb) w_) (by decide:1<=1000)) wl (by decide:1<=500) (by omega);obtain⟨g10,g11,g12,g13,g14,g15,hg⟩:=Jw A B sl sl' r1 r8 ([0]++l) e10 e11 e12 e13 e14 e15;obtain⟨f7,f8,f9,f10,f11,f12,f13,f14,f15,hf⟩:=Jz hns t (sT<|zm n m J e Ds S) (sT<|zm c m' J' e' Ds' S') (sT<|zc r) g10 g11 g12 g13 g14 g15 λd md=>H d<|zzD _ md;exact⟨f7,f8,f9,f10,f11,f12,f13,f14,f15,xN rfl (yF (Sy w) hg) hf⟩
end
def C6{as:AS}{i:Nat}{os:List O}{ds:List D}(h:as[i]? = some (sN os))(hs:O.strs os=true)(hd:O.toDs os=ds):Wa (fV i) as=some (ds.map λd=>(true,d),as.set i<|sT<|.lst ds):=by
 have e1:=UL h;unfold Wa;rw[e1];show((HL as<|.bo i).bind _).bind _=_;rw[MS h];show some (kids (O.strs os) _,as.set i<|some<|.lf (O.strs os)<|.lst _)=_;rw[hs,hd,Py]
def OJ:∀ns:List Int,ns.length<=63->Kb [(true,.lst<|ns.map .int)]=sT (.bl true):=λns hns=>by
 obtain⟨n,m,J,e,Ds,S0,A,L,hS0,hA⟩:=CP (ns:=ns);obtain⟨c4,h4⟩:=ZJ (ns:=ns) (k:=4) (by omega);obtain⟨S,hS,hF⟩:=AU (k:=c4) A hS0;obtain⟨c,r,Rs,k,K,C,hL⟩:=Ol A L hS;obtain⟨c3,h3⟩:=ZJ (ns:=ns) (k:=3) (s:=true) (t:=true) (by omega);obtain⟨F,pF,hO⟩:=Mw (c:=c3) A.n1 A.n8;have hR:=Ed (s:=true) A hS pF;have KF:=Bb (S:=S) A pF;obtain⟨n',m',J',e',Ds',S',A',hS',hY⟩:=Hj (ns:=ns);have n1:=A.n1;have n8:=A.n8;have fl:=Zh pF;have sl:=hS.1;have s1:=yQ (p:=1) (as:=Uq ns none none none none none none none none none none none none none none none) (wY (xm (WD.e<|za (i:=0) rfl) hA) (WD.e<|yB (ze (za (i:=0) rfl)<|ze (zb (x:=.int 4)) zq) h4) hF)<|zo rfl;have s2:Zo (zx yW xM) (gT 2<|yd (gN 2)<|yd (gN 3) xG) (Uq ns (sT<|zm n m J e Ds S) none none none none none none none none none none none none none none)=some (.nx<|Uq ns (sT<|zm n m J e Ds S) (sT<|zm c m (lJ J r c) (zM r e) (lD Ds r c)<|lS S r c) (sT<|zc r) none none none none none none none none none none none none):=TQ (xm (WD.e<|za (i:=1) rfl) hL) rfl;have s4:=yQ (p:=4) (as:=Uq ns (sT<|zm n m J e Ds S) (sT<|zm c m (lJ J r c) (zM r e) (lD Ds r c)<|lS S r c) (sT<|zc r) none none none none none none none none none none none none) (wY (WD.e<|yB (ze (za (i:=0) rfl)<|ze (zb (x:=.int 3)) zq) h3) (WD.e<|zj (g:=zk) (za (i:=1) rfl) (zb (x:=.int 0)) rfl rfl) hO)<|zo rfl;have s5:=yQ (p:=5) (as:=Uq ns (sT<|zm n m J e Ds S) (sT<|zm c m (lJ J r c) (zM r e) (lD Ds r c)<|lS S r c) (sT<|zc r) (sT<|zc F) none none none none none none none none none none none) (wY (WD.e<|za (i:=1) rfl) (WD.e<|za (i:=4) rfl) hR)<|zo rfl;have v:∀{i:Nat}{d:D}{e6:Option O},(Uq ns (sT<|zm n m J e Ds S) (sT<|zm c m (lJ J r c) (zM r e) (lD Ds r c)<|lS S r c) (sT<|zc r) (sT<|zc F) (sT<|zm n m (lJ J F n) (zM F e) (lD Ds F n)<|lS S F n) e6 none none none none none none none none none)[i]? = some (sT d)->WE (fV i) (Uq ns (sT<|zm n m J e Ds S) (sT<|zm c m (lJ J r c) (zM r e) (lD Ds r c)<|lS S r c) (sT<|zc r) (sT<|zc F) (sT<|zm n m (lJ J F n) (zM F e) (lD Ds F n)<|lS S F n) e6 none none none none none none none none none) d:=λh=>WD.e<|za h;obtain⟨os,k1,k2,k3,k4⟩:=yc (QI (yc (v (i:=1) rfl)<|yc (v (i:=2) rfl)<|yc (v (i:=3) rfl) w_) (by decide:3<=1000))<|yc (QI (yc (v (i:=1) rfl)<|yc (v (i:=5) rfl)<|yc (v (i:=4) rfl) w_) (by decide:3<=1000))<|yc (QI (yc (v (i:=1) rfl)<|yc (v (i:=1) rfl)<|yc (v (i:=4) rfl) w_) (by decide:3<=1000)) w_;have ol:os.length<=1000:=by rw[k4];show 3<=1000;decide
 have s6:zz false 6 (yA<|dC (yh<|dC zi<|dC zu<|dC zC dN)<|dC (yh<|dC zi<|dC yP<|dC zZ dN)<|dC (yh<|dC zi<|dC zi<|dC zZ dN) dN) (Uq ns (sT<|zm n m J e Ds S) (sT<|zm c m (lJ J r c) (zM r e) (lD Ds r c)<|lS S r c) (sT<|zc r) (sT<|zc F) (sT<|zm n m (lJ J F n) (zM F e) (lD Ds F n)<|lS S F n) none none none none none none none none none none)=some (.nx<|Uq ns (sT<|zm n m J e Ds S) (sT<|zm c m (lJ J r c) (zM r e) (lD Ds r c)<|lS S r c) (sT<|zc r) (sT<|zc F) (sT<|zm n m (lJ J F n) (zM F e) (lD Ds F n)<|lS S F n) (sN os) none none none none none none none none none):=by
  unfold zz;rw[xS k1<|Gk<|by omega];rfl
 obtain⟨o4,p1,p2,p3⟩:=QI (yc (xm (v (i:=0) rfl) hY)<|yc (v (i:=1) rfl)<|yc (oi (by omega)<|WD.e<|zj (g:=zk) (za (i:=1) rfl) (zb (x:=.int 0)) rfl rfl) w_) (by decide:3<=1000);have s7:=RJ (i:=6) (os0:=os) (os:=os) rfl p1 rfl (xZ<|by omega);have iq:=C6 (as:=Uq ns (sT<|zm n m J e Ds S) (sT<|zm c m (lJ J r c) (zM r e) (lD Ds r c)<|lS S r c) (sT<|zc r) (sT<|zc F) (sT<|zm n m (lJ J F n) (zM F e) (lD Ds F n)<|lS S F n) (sN<|os++[o4]) none none none none none none none none none) (i:=6) rfl (strs_snoc _ _ k2 p2) (by rw[X4,k3,p3]);obtain⟨f7,f8,f9,f10,f11,f12,f13,f14,f15,hf⟩:=Jz (ns:=ns) hns ([.tup [zm n m J e Ds S,zm c m (lJ J r c) (zM r e) (lD Ds r c)<|lS S r c,zc r],.tup [zm n m J e Ds S,zm n m (lJ J F n) (zM F e) (lD Ds F n)<|lS S F n,zc F],.tup [zm n m J e Ds S,zm n m J e Ds S,zc F]]++[.tup [zm n' m' J' e' Ds' S',zm n m J e Ds S,zc<|zD n]]) none none none none none none none none none (by
  have sx:∀{F:List Int}{c:Nat},(lS S F c).length<=10:=λ{F c}=>by rw[zzB];exact sl
  have rl:(zD n).length=n:=by rw[zzB,zyU]
  intro d md
  rcases zzC.mp md with rfl|md
  . exact⟨_,_,_,_,_,_,_,_,_,_,_,_,_,rfl,A,K.al,sl,sx,by rw[K.ln];exact n1,by rw[K.ln];exact n8⟩
  rcases zzC.mp md with rfl|md
  . exact⟨_,_,_,_,_,_,_,_,_,_,_,_,_,rfl,A,KF.al,sl,sx,by rw[fl];exact n1,by rw[fl];exact n8⟩
  rcases zzC.mp md with rfl|md
  . exact⟨_,_,_,_,_,_,_,_,_,_,_,_,_,rfl,A,A,sl,sl,by rw[fl];exact n1,by rw[fl];exact n8⟩
  rcases zzC.mp (md)with rfl|md
  . exact⟨_,_,_,_,_,_,_,_,_,_,_,_,_,rfl,A',A,hS'.1,sl,by rw[rl];exact n1,by rw[rl];exact n8⟩
  . exact(zxC md).elim)
 refine xR rfl<|zW s1<|zW s2<|zW s4<|zW s5<|zW s6<|zW s7<|zW (yF iq hf)<|zW (zU (zJ (zj (yB (ze (za (i:=1) rfl)<|ze (za (i:=2) rfl)<|ze (za (i:=3) rfl) zq)<|G6 A K sl) zb rfl rfl) rfl) rfl)<|y_<|zj (yB (ze (za (i:=1) rfl)<|ze (za (i:=5) rfl)<|ze (za (i:=4) rfl) zq)<|G6 A KF sl) zb rfl rfl
end G55
end
end
open PySem PySem.W PyProof.Rows
set_option maxRecDepth 100000 in
set_option maxHeartbeats 0 in
theorem PySem.Challenge.cw_stretchdeeds_k55_pictures_holds : PySem.Challenge.rw_stretchdeeds_k55_pictures.Holds := by
 w_on;refine holds_law G55.ws λsaid=>?_
 refine holds_open (q:=G55.qv) (loose:=[]) (Xt:=G55.Xt) (XP:=XL G55.qv []) (Yf:=Hook.obs<|kHook G55.K G55.kA G55.kAe) (Ya:=Hook.val<|kHook G55.K G55.kA G55.kAe) (YP:=Hook.says<|kHook G55.K G55.kA G55.kAe) (N:=6000) G55.hl (Hook.of<|kHook G55.K G55.kA G55.kAe) (Hook.keeps<|kHook G55.K G55.kA G55.kAe) (λs e=>xl_of s (Bool.and_eq_true_iff.mp e).1) XL.keeps (by rfl) (by rfl) (by rfl) (λs e=>recFacts_of (Bool.and_eq_true_iff.mp e).2) (by rfl) (by first|assumption|decide +kernel) (by decide +kernel) ⟨rfl,rfl,rfl,rfl,rfl,by decide +kernel⟩ ?hw ?hc
 (case hw=>w_witness2)
 k_fill
 refine G55.walk (l:=PySem.Challenge.rw_stretchdeeds_k55_pictures) rfl rfl (λw h Y=>W.kIn_of Y) G55.OJ ?F
 case F=>
  intro w mg fa h KX G hmg;refine' G55.Dv KX G hmg ?_ ?_ ?_ ?_ ?_ ?_ ?_ ?_ ?_ ?_ ?_ ?_ ?_ ?_ ?_ ?_ ?_ ?_ ?_ ?_ ?_ ?_ ?_ ?_ ?_ ?_ ?_ ?_ ?_ ?_ ?_ ?_ ?_ ?_ ?_ ?_ ?_ ?_ ?_ ?_ ?_ ?_ ?_ ?_ ?_ ?_ ?_ ?_ ?_ ?_ ?_ ?_ ?_ ?_ ?_ ?_ ?_ ?_ ?_ ?_ ?_ ?_ ?_ ?_
  all_goals try first|k_is|(change _=_;k_is)|exact⟨_,⟨_,_,_,_,_,_,_,_,_,rfl,by k_is,by k_is⟩,by k_is⟩|(refine⟨?_, ?_⟩;(change _=_;k_is);exact⟨_,⟨_,_,_,_,_,_,_,_,_,rfl,by k_is,by k_is⟩,by k_is⟩)|rfl
#print axioms PySem.Challenge.cw_stretchdeeds_k55_pictures_holds
