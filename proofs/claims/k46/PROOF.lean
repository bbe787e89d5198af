import PyProof.Rows.All
import Wide.All
import OpenK.AllK
import PySem.Challenge.RW_stretchdeeds_k46_walks_of_makes
set_option Elab.async false
set_option linter.all false
set_option maxRecDepth 100000
set_option genSizeOf false
set_option compiler.extract_closed false
set_option bootstrap.genMatcherCode false
local macro_rules |`(⋯)=>`(by first|with_reducible rfl|assumption|omega|rfl|simp)
def zqa(x:String):Lean.MacroM (Lean.TSyntax `term):=match x with|"?"=>`(?_)|"_"=>`(_)|"a"=>`(by assumption)|"d"=>`(by decide)|"="=>`(rfl)|x=>return Lean.mkIdent x.toName
def zqb(s:String):Lean.MacroM (Lean.TSyntax `tactic):=do
 (s.splitOn ";").foldrM (fun z b=>do let w:=z.splitOn " ";let a<-(w.drop 1).toArray.mapM zqa;`(tactic| first|exact $(Lean.mkIdent (w.headD "").toName) $a*|$b:tactic)) (<-`(tactic| fail))
def zqc(s:String):Lean.MacroM (Lean.TSyntax `tactic):=do
 (s.splitOn ";").foldrM (fun z b=>do let w:=z.splitOn " ";let a<-(w.drop 1).toArray.mapM zqa;`(tactic| first|(with_reducible refine $(Lean.mkIdent (w.headD "").toName) $a*<;>exact ⋯)|$b:tactic)) (<-`(tactic| fail))
noncomputable section
def q0a{a:Nat}:(0:Int)<=(a:Int):=by omega
def q0b{a:Nat}(h:a<=900):a<=1000:=by omega
def q0c{a b:Nat}:a+(b+1)=a+1+b:=by omega
def q0d{a b:Nat}(h:a+100<b):a+1+50<b:=by omega
def q0e{a b:Nat}(h:a<b):(a:Int)<(b:Int):=by omega
def q0f{a b c:Nat}(h:a=b)(k:a<=c):b<=c:=by omega
def q0g{a:Nat}:a<a+5\/a+5<a:=by omega
def q0h{a b:Nat}(h:a<b):a<=b:=by omega
def q0i{a b:Nat}(h:a<b\/b+5<a):a<b+5\/b+5<a:=by omega
def q0j{a:Nat}(h:a<=300):a<=900:=by omega
def q0k{a b:Nat}:a+1+b=a+(b+1):=by omega
def q0l{a b:Nat}(h:a<b+1):a<=b:=by omega
def q0m{a b:Nat}(h:a<b):a<b+5\/b+5<a:=by omega
def q0n{a:Nat}(h:a<=8):a<=1000:=by omega
def q0o{a:Nat}(h:a<=8):a<=900:=by omega
def q0p{a:Nat}(h:2<=a)(k:a<=7):(0:Int)<(a:Int):=by omega
def q0q{a b c:Nat}(h:a<=900)(k:b<=a):min b a-c<=900:=by omega
def q0r{a b:Nat}(h:a<=900):min b a<=900:=by omega
def q0s{a:Nat}:a+2<a+5\/a+5<a+2:=by omega
def q0t{a:Nat}:a+3<a+5\/a+5<a+3:=by omega
def q0u{a:Nat}:a+1<a+5\/a+5<a+1:=by omega
def q0v{a:Nat}:a+4<a+5\/a+5<a+4:=by omega
def q0w{a:Nat}:a<a+4\/a+4<a:=by omega
def q0x{a:Nat}:a+1<a+4\/a+4<a+1:=by omega
def q0y{a:Nat}:a+5<a+4\/a+4<a+5:=by omega
def q0z{a:Nat}(h:a<=100):(0:Int)<=(a:Int):=by omega
def q0A{a b:Nat}(h:a<b\/b<a):a≠b:=by omega
def q0B{a b:Nat}(h:a<=900)(k:b<=a):a-b<=900:=by omega
def q0C{a:Nat}(h:2<=a):0<a:=by omega
def q0D{a:Nat}(h:1<=a):(0:Int)<(a:Int):=by omega
def q0E{a:Nat}(h:1<=a)(k:a<=8):a<=1000:=by omega
def q0F{a:Nat}(h:a<=6):a<=900:=by omega
def q0G{a b:Nat}(h:¬(a<b)):b<=a:=by omega
def q0H{a b:Nat}(h:a+b<=1000):a<=1000:=by omega
def q0I{a:Nat}(h:a<=300):a<=300:=by omega
def q0J{a:Nat}(h:a<=6):a<=1000:=by omega
def q0K{a:Nat}(h:1<=a):1<=1+a/8:=by omega
def q0L{a b c:Nat}(h:a=16777216)(k:b=c)(h1:b<=a):(c:Int)<2^63:=by omega
def q0M{a b c:Nat}(h:a<=300)(k:b<=a)(h1:c<=b):min c a+(min b a-c)+(a-b)<=1000:=by omega
def q0N{a b c:Nat}(h:a<=900)(k:b<=a)(h1:c<=b):min c a+(min b a-c)+(a-b)<=900:=by omega
def q0O{a b c:Nat}(h:a<=900)(k:b<=a)(h1:c<=b):min c a+(min b a-c)+(a-b)<=1000:=by omega
def q0P{a b c:Nat}(h:a<b)(k:a=c):c<=b:=by omega
def q0Q{a b:Nat}(h:a<b)(k:b<=10):a<10:=by omega
def q0R{a b c:Nat}(h:a<=300)(k:b<=a)(h1:c<=b):min c a+(min b a-c)<=1000:=by omega
def q0S{a b c:Nat}(h:a+b=c)(k:b<c):a-1+(b+1)=c:=by omega
def q0T{a b:Nat}(h:a=b):(0:Int)<(b:Int)+(1:Int):=by omega
def q0U{a:Nat}(h:1<=a)(k:a<=8):-10^200<(a:Int):=by omega
def q0V{a:Nat}(h:0<a):(0:Int)<(a:Int):=by omega
def q0W{a b c:Nat}(h:a<b)(k:b<=c):c≠a:=by omega
def q0X{a:Nat}(h:a<=1000):(0:Int)<(a:Int)+(1:Int):=by omega
def q0Y{a b:Nat}(h:a<=b):(a:Int)<=(b:Int):=by omega
def q0Z{a:Nat}:a<=a+1:=by omega
def q1a{a:Nat}(h:1<=a)(k:a<=8):(a:Int)<10^200:=by omega
def q1b{a b:Nat}(h:0<a)(k:b<=a-1):b<a:=by omega
def q1c{a b c:Nat}(h:a+b=c)(k:b<c):a-1<a:=by omega
def q1d{a:Int}(h:¬((0:Int)<=a)):a<(0:Int):=by omega
def q1e{a b c:Nat}(h:a+3*(b+1)+5<c):a+1+3*b+5<c:=by omega
def q1f{a b:Nat}(h:a<b):a+1<=b:=by omega
def q1g{a b:Nat}(h:a<b\/b+5<a):a<b\/b<a:=by omega
def q1h{a b:Nat}(h:¬(a<=b/\b<=a+5)):b<a\/a+5<b:=by omega
def q1i{a b c d:Nat}(h:a<b)(k:b=min c d):a<c:=by omega
def q1j{a b:Nat}(h:a<=b):a<=b:=by omega
def q1k{a:Int}(h:(0:Int)<=a):a=(Int.toNat a:Int):=by omega
def q1l{a b c d:Nat}(h:a<b)(k:b=min c d):a<d:=by omega
def q1m{a:Nat}(h:a<900):a<1000:=by omega
def q1n{a:Nat}:a+2<a+4\/a+4<a+2:=by omega
def q1o{a b:Nat}(h:a+100<b):a+60<b:=by omega
def q1p{a:Nat}:a+5<a\/a<a+5:=by omega
def q1q{a b:Nat}(h:a+1<b):b≠0:=by omega
def q1r{a:Int}(h:(1:Int)<=a)(k:a<(1000000:Int)):(0:Int)<a:=by omega
def q1s{a:Nat}:-10^200<(a:Int):=by omega
def q1t{a b:Nat}(h:a+b<=1000):b<=1000:=by omega
def q1u{a b:Nat}(h:a<b):a<b+4\/b+4<a:=by omega
def q1v{a b:Nat}(h:a+(b+1)<=900):a+1+b<=900:=by omega
def q1w{a:Nat}(h:2<=a)(k:a<=7):1<=a:=by omega
def q1x{a b:Nat}(h:a*b<=8*6):a*b<=900:=by omega
def q1y{a b:Int}(h:a<=b)(k:b<=a):a=b:=by omega
def q1z{a:Nat}(h:a<=59):a<=900:=by omega
def q1A{a b:Nat}(h:a<7)(k:b=7):a<b:=by omega
def q1B{a b:Nat}(h:a=b+2):a≠0:=by omega
abbrev zzA:=PySem.W.Frag
abbrev zzB:=@List.length_map
abbrev zzC:=@List.mem_cons
abbrev zzD:=@List.mem_cons_of_mem
abbrev zzE:=@List.getElem?_eq_getElem
abbrev zzF:=@List.mem_cons_self
abbrev zzG:=@List.getElem?_eq_some_iff
abbrev zzH:=@List.size_toArray
abbrev zzI:=@List.getElem?_map
abbrev zzJ:=@List.length_append
abbrev zzK:=@Nat.lt_of_lt_of_le
abbrev zzL:=@List.mem_append_right
abbrev zzM:=@List.mem_append
abbrev zzN:=@Nat.le_refl
abbrev zzO:=@Nat.le_trans
abbrev zzP:=@List.mem_append_left
abbrev zzQ:=@Nat.ne_of_lt
abbrev zzR:=@List.mem_singleton
abbrev zzS:=@List.length_take
abbrev zzT:=@List.length_cons
abbrev zzU:=@List.length_set
abbrev zzV:=@Int.natCast_mul
abbrev zzW:=@List.nodup_cons
abbrev zzX:=@Option.map_eq_some_iff
abbrev zzY:=@List.getElem?_set_ne
abbrev zzZ:=@Option.some.inj
abbrev zyA:=@List.mem_of_getElem?
abbrev zyB:=@List.map_map
abbrev zyC:=@Bool.and_eq_true
abbrev zyD:=@Bool.or_true
abbrev zyE:=@List.append_nil
abbrev zyF:=@List.getD_eq_getElem?_getD
abbrev zyG:=@decide_eq_false
abbrev zyH:=@Int.emod_lt_of_pos
abbrev zyI:=@Int.toNat_natCast
abbrev zyJ:=@List.nodup_nil
abbrev zyK:=@List.getElem?_set_self
abbrev zyL:=@Option.bind_some
abbrev zyM:=@List.map_append
abbrev zyN:=@Int.emod_nonneg
abbrev zyO:=@decide_eq_true
abbrev zyP:=@List.getElem?_append_left
abbrev zyQ:=@List.drop_eq_getElem_cons
abbrev zyR:=@List.getElem?_append_right
abbrev zyS:=@List.map_cons
abbrev zyT:=@Array.length_toList
abbrev zyU:=@List.length_range
abbrev zyV:=@Bool.false_ne_true
abbrev zyW:=@Nat.le_succ
abbrev zyX:=@Nat.zero_add
abbrev zyY:=@Int.toNat_of_nonneg
abbrev zyZ:=@Nat.lt_succ_of_lt
abbrev zxA:=@List.append_assoc
abbrev zxB:=@List.mem_map
abbrev zxC:=@List.nodup_append
abbrev zxD:=@PySem.wpAny_bind
abbrev zxE:=@PySem.wpAny_pure
abbrev zxF:=@PySem.Heap.get?_push_of_some
abbrev zxG:=@PySem.Heap.lt_size
abbrev zxH:=@PySem.Heap.get?_push_size
abbrev zxI:=@PySem.wpAny_holding
abbrev zxJ:=@PySem.Heap.size_push
abbrev zxK:=@PySem.wpAny_mono
abbrev zxL:=@PySem.wpAny_call_entry
section
namespace L2
open PySem PySem.Spec PyProof.Rows
abbrev Key:=Sum Int Str
noncomputable def Km:Key->Value->Bool
 | .inl k,v=>Value.isInt k v
 | .inr x,v=>Value.isStrOf x v
noncomputable def kO(w:World):Key->Int
 | .inl k=>hashInt k
 | .inr x=>hashStr w x
def y_:∀{k:Key}{v:Value},Km k v=true->(∃i t,k=Sum.inl i/\v=Value.int i t)\/(∃x t,k=Sum.inr x/\v=Value.str x t)
 | .inl i,v,h=>by
  obtain⟨t,e⟩:=Value.isInt_shape h;exact .inl ⟨i,t,rfl,e⟩
 | .inr x,v,h=>by
  obtain⟨t,e⟩:=Value.isStrOf_shape h;exact .inr ⟨x,t,rfl,e⟩
def SE(i)(t):Km (.inl i) (.int i t)=true:=by simp[Km,Value.isInt]
def B1(x)(t):Km (.inr x) (.str x t)=true:=by simp[Km,Value.isStrOf]
def tj(a b):decide ((Sum.inl a:Key)=Sum.inl b)=(a==b):=by
 by_cases e:a=b
 . subst e;simp
 . have h:¬(Sum.inl a:Key)=Sum.inl b:=λq=>e<|Sum.inl.inj q;rw[zyG h];exact(beq_eq_false_iff_ne.mpr e).symm
def sG(a b):decide ((Sum.inr a:Key)=Sum.inr b)=decide (a=b):=⋯
def tP(a)(b):decide ((Sum.inl a:Key)=Sum.inr b)=false:=⋯
def rk(a)(b):decide ((Sum.inr a:Key)=Sum.inl b)=false:=⋯
def wI(prog:Program)(w:World):PySem.KeyKind prog w Key where
 is:=Km
 hash:=kO w
 inj:=λv a b ha hb=>by
  rcases y_ ha with⟨i,t,rfl,rfl⟩|⟨x,t,rfl,rfl⟩
  . rcases y_ hb with⟨j,u,rfl,e⟩|⟨y,u,rfl,e⟩
    . injection e with e1 _;rw[e1]
    . exact nomatch e
  . rcases y_ hb with⟨j,u,rfl,e⟩|⟨y,u,rfl,e⟩
    . exact nomatch e
    . injection e with e1 _;rw[e1]
 byValue:=λk v h=>by
  rcases y_ h with⟨i,t,rfl,rfl⟩|⟨x,t,rfl,rfl⟩<;>rfl
 pyHash:=λhv h=>by
  rcases y_ hv with⟨i,t,rfl,rfl⟩|⟨x,t,rfl,rfl⟩
  . exact wpAny_pyHash_int h
  . exact wpAny_pyHash_str h
 eqBool:=λhu hv h=>by
  rcases y_ hu with⟨i,t,rfl,rfl⟩|⟨x,t,rfl,rfl⟩
  . rcases y_ hv with⟨j,u,rfl,rfl⟩|⟨y,u,rfl,rfl⟩
    . rw[tj]at h;exact wpAny_eqBool_int h
    . rw[tP]at h;exact SeqAt.EqAt.int_str i t y u _ _ _ _ h
  . rcases y_ hv with⟨j,u,rfl,rfl⟩|⟨y,u,rfl,rfl⟩
    . rw[rk]at h;exact SeqAt.EqAt.str_int x t j u _ _ _ _ h
    . rw[sG]at h;exact wpAny_eqBool_str h
 «strs» := λk x t v h=>by
  rcases y_ h with⟨i,u,rfl,e⟩|⟨y,u,rfl,e⟩
  . exact nomatch e
  . injection e with e1 _
    subst e1;cases v<;>rfl
def MF(prog)(w)(i)(t):(wI prog w).is (.inl i) (.int i t)=true:=SE i t
def WN(prog)(w)(x)(t):(wI prog w).is (.inr x) (.str x t)=true:=B1 x t
end L2
namespace L2
open PySem PySem.Spec PyProof.Rows
inductive V where
 |non|bl (b:Bool)|int (i:Int)|str (x:Str)|byt (b:Array UInt8)|flt (b:UInt64)|ref (a:Addr)|ty (n:String)
 deriving DecidableEq
def RelV:V->Value->Prop
 | .non,u=>u=Value.none
 | .bl b,u=>u=Value.bool b
 | .int i,u=>∃t,u=Value.int i t
 | .str x,u=>∃t,u=Value.str x t
 | .byt b,u=>∃t,u=Value.bytes b t
 | .flt b,u=>∃t,u=Value.float b t
 | .ref a,u=>u=Value.ref a
 | .ty n,u=>u=Value.type n
abbrev zU:List V->List Value->Prop:=Paired RelV
theorem zU.length(r:zU xs us):xs.length=us.length:=Paired.length r
theorem zU.get:∀{xs:List V}{us:List Value}{i:Nat}{x:V},zU xs us->xs[i]? = some x->∃u,us[i]? = some u/\RelV x u
 |_,_,_,_,.nil,e=>by simp at e
 |_,_,0,_,.cons r _,e=>by simp at e;subst e;exact⟨_,rfl,r⟩
 |_,_,i+1,x,.cons _ t,e=>by
  obtain⟨u,h1,h2⟩:=zU.get t (by simpa using e);exact⟨u,by simpa using h1,h2⟩
theorem zU.append:∀{xs ys:List V}{us ws:List Value},zU xs us->zU ys ws->zU (xs++ys) (us++ws)
 |_,_,_,_,.nil,s=>s
 |_,_,_,_,.cons r t,s=>.cons r<|zU.append t s
theorem zU.take:∀{xs:List V}{us:List Value}(n:Nat),zU xs us->zU (xs.take n) (us.take n)
 |_,_,0,_=>.nil
 |_,_,_+1,.nil=>.nil
 |_,_,n+1,.cons r t=>.cons r<|zU.take n t
theorem zU.drop:∀{xs:List V}{us:List Value}(n:Nat),zU xs us->zU (xs.drop n) (us.drop n)
 |_,_,0,r=>r
 |_,_,_+1,.nil=>.nil
 |_,_,n+1,.cons _ t=>zU.drop n t
def Qg:Option V->Option Value->Prop
 |some v,some u=>RelV v u
 |none,none=>True
 |_,_=>False
def KV{κ:Type}:List (κ×V)->List (κ×Value)->Prop:=Paired λ(p:κ×V) (q:κ×Value)=>p.1=q.1/\RelV p.2 q.2
noncomputable def kV:Key->V
 | .inl i=>.int i
 | .inr x=>.str x
inductive HO where
 |lst (xs:List V)
 |tup (xs:List V)
 |dK (kvs:List (Key×V))|dT (kvs:List (List Key×V))
 |set (S:Int->Bool) (n:Nat)
 |ins (C dx:Addr) (fs:List (Str×V))
 |own (x:Addr)
 |xd (fs:List (Str×V))
 |met (f x:Addr)
 |rng (lo hi:Int)
 |frz (o:Obj) (u:HO)
 |tbl (ps:Array Value)
 |ext (φ:Heap->Prop)
abbrev Hp:=Addr->Option HO
noncomputable def upd(H:Hp)(a:Addr)(o:HO):Hp:=λb=>if b=a then some o else H b
def ya:upd H a o a=some o:=by unfold upd;rw[if_pos rfl]
def zK(h:b≠a):upd H a o b=H b:=by unfold upd;rw[if_neg h]
def z9{H:Hp}{a b o}(h:H a=some o)(h':H b=none):a≠b:=by
 intro e;subst e;rw[h]at h';cases h'
section
variable(P:Program)(w:World)
def vG(H:Hp)(h:Heap)(a:Addr):HO->Prop
 | .lst xs=>xs.length<=sizeLine/\∃(its:List Value) (n:Nat),zU xs its/\h.get? a=some {cls:=.type "list",data:=.seq its.toArray n}
 | .tup xs=>xs.length<=sizeLine/\∃its:List Value,zU xs its/\IsTup h a its.toArray
 | .dK kvs=>kvs.length<=sizeLine/\(a==sysModules)=false/\∃vs,KV kvs vs/\h.DictOf (wI P w) a vs
 | .dT kvs=>kvs.length<=sizeLine/\(a==sysModules)=false/\∃xs:List (List Key×Addr×Value),
  Paired (λ(p:List Key×V) (q:List Key×Addr×Value)=>p.1=q.1/\H q.2.1=some (.tup<|p.1.map kV)/\RelV p.2 q.2.2) kvs xs/\
  ∃o es ep,h.get? a=some o/\o.ExactDict/\o.data = .dict es ep/\es.toList=xs.map (entryOfKey<|tupleKind<|wI P w)/\(xs.map (·.1)).Nodup
 | .set S n=>h.SetOf (intKind P w) a S n
 | .ins C dx fs=>H dx=some (.own a)/\fs.length<=1000/\dx≠a/\h.get? a=some (W.instObj C dx)/\
  ∃mA,h.Ns1 dx mA/\(∀f,Qg (fs.lookup f)<|mA f)/\PySem.Within mA (fs.map (·.1))
 | .own _=>∃o,h.get? a=some o
 | .xd fs=>∃mA,h.Ns1 a mA/\∀f,Qg (fs.lookup f)<|mA f
 | .rng lo hi=>∃t u v,h.get? a=some {cls:=.type "range",data:=.fields #[.int lo t,.int hi u,.int 1 v]}
 | .frz o u=>h.get? a=some o/\vG H h a u
 | .tbl ps=>h.get? a=some {cls:=.none,data:=.fields ps}
 | .met f x=>h.get? a=some (W.methodObj (.ref f)<|.ref x)
 | .ext φ=>φ h/\(∃o,h.get? a=some o)/\∀h1 h2:Heap,φ h1->(∀o,h1.get? a=some o->h2.get? a=some o)->φ h2
def UW(H:Hp)(h:Heap):Prop:=∀a o,H a=some o->vG P w H h a o
end
section
variable{P:Program}{w:World}{H H':Hp}{h h':Heap}{a:Addr}{o:HO}
theorem vG.lt(x:vG P w H h a o):a<h.objs.size:=by
 cases o with
 |lst xs=>obtain⟨_,_,_,_,e⟩:=x;exact zxG e
 |tup xs=>obtain⟨_,_,_,p⟩:=x;exact p.lt
 |dK kvs=>obtain⟨_,_,_,_,o,_,_,e,_⟩:=x;exact zxG e
 |dT kvs=>obtain⟨_,_,_,_,o,_,_,e,_⟩:=x;exact zxG e
 |set S n=>obtain⟨o,_,_,_,e,_⟩:=x;exact zxG e
 |ins C dx fs=>obtain⟨_,_,_,e,_⟩:=x;exact zxG e
 |own y=>obtain⟨_,e⟩:=x;exact zxG e
 |xd fs=>obtain⟨_,⟨_,_,_,e,_⟩,_⟩:=x;exact zxG e
 |rng lo hi=>obtain⟨_,_,_,e⟩:=x;exact zxG e
 |frz ob u=>obtain⟨e,_⟩:=x;exact zxG e
 |tbl ps=>exact zxG (x)
 |met f y=>exact zxG (x)
 |ext φ=>obtain⟨_,⟨_,e⟩,_⟩:=x;exact zxG e
theorem Paired.mapP:∀{l₁:List α}{l₂:List β},Paired F l₁ l₂->(∀a b,F a b->G a b)->Paired G l₁ l₂
 |_,_,.nil,_=>.nil
 |_,_,.cons r t,f=>.cons (f _ _ r)<|Paired.mapP t f
def vG.stay(x:vG P w H h a o)(k:∀b u,(b=a\/H b=some (.own a))->h.get? b=some u->h'.get? b=some u)
 (ho:∀b,H b=some (.own a)->H' b=some (.own a)) (ht:∀b xs,H b=some (.tup xs)->H' b=some (.tup xs)):vG P w H' h' a o:=by
 induction o with
 |lst xs=>obtain⟨z,its,n,r,e⟩:=x;exact⟨z,its,n,r,k _ _ (.inl rfl) e⟩
 |tup xs=>obtain⟨z,its,r,ob,e,c⟩:=x;exact⟨z,its,r,ob,k _ _ (.inl rfl) e,c⟩
 |dK kvs=>obtain⟨z,y,vs,r,ob,es,ep,e,c⟩:=x;exact⟨z,y,vs,r,ob,es,ep,k _ _ (.inl rfl) e,c⟩
 |dT kvs=>
  obtain⟨z,y,xs,r,ob,es,ep,e,c⟩:=x;exact⟨z,y,xs,Paired.mapP r λp q z=>⟨z.1,ht _ _ z.2.1,z.2.2⟩,ob,es,ep,k _ _ (.inl rfl) e,c⟩
 |set S n=>obtain⟨ob,es,ep,t,e,c⟩:=x;exact⟨ob,es,ep,t,k _ _ (.inl rfl) e,c⟩
 |ins C dx fs=>
  obtain⟨d,z,ne,e,mA,⟨od,es,ep,e2,c⟩,r⟩:=x;exact⟨ho _ d,z,ne,k _ _ (.inl rfl) e,mA,⟨od,es,ep,k _ _ (.inr d) e2,c⟩,r⟩
 |own y=>obtain⟨ob,e⟩:=x;exact⟨ob,k _ _ (.inl rfl) e⟩
 |xd fs=>obtain⟨mA,⟨od,es,ep,e,c⟩,r⟩:=x;exact⟨mA,⟨od,es,ep,k _ _ (.inl rfl) e,c⟩,r⟩
 |rng lo hi=>obtain⟨t,u,v,e⟩:=x;exact⟨t,u,v,k _ _ (.inl rfl) e⟩
 |frz ob u ih=>obtain⟨e,q⟩:=x;exact⟨k _ _ (.inl rfl) e,ih q⟩
 |tbl ps=>
  have e:=x;exact k a _ (.inl rfl) e
 |met f y=>
  have e:=x;exact k a _ (.inl rfl) e
 |ext φ=>obtain⟨p,⟨o,e⟩,st⟩:=x;exact⟨st _ _ p λo q=>k _ _ (.inl rfl) q,⟨o,k _ _ (.inl rfl) e⟩,st⟩
theorem UW.lt(x:UW P w H h)(e:H a=some o):a<h.objs.size:=(x a o e).lt
def UW.fresh(x:UW P w H h)(e:h.objs.size<=a):H a=none:=by
 cases q:H a with
 |none=>rfl
 |some u=>exact absurd (zzK (x.lt q) e) (Nat.lt_irrefl _)
def UW.kept(x:UW P w H h)(k:∀b u,h.get? b=some u->h'.get? b=some u):UW P w H h':=λa o e=>
 (x a o e).stay (λb u _ q=>k b u q) (λ_ q=>q) λ_ _ q=>q
def UW.laid(x:UW P w H h)(k:∀b u,h.get? b=some u->h'.get? b=some u)(hp:h.objs.size<=a)(new:vG P w (upd H a o) h' a o):UW P w (upd H a o) h':=λb u e=>by
 have hn:=x.fresh hp
 by_cases hb:b=a
 . subst hb;rw[ya]at e;cases e;exact new
 . rw[zK hb]at e;exact(x b u e).stay (λc v _ q=>k c v q) (λc q=>by rwa [zK<|z9 q hn]) λc xs q=>by rwa [zK<|z9 q hn]
end
def Rd(H:Hp)(a:Addr)(u:HO):Prop:=H a=some u\/∃o,H a=some (.frz o u)
def Rd.ok(r:Rd H a u)(x:UW P w H h):vG P w H h a u:=by
 rcases r with r|⟨o,r⟩
 . exact x a u r
 . obtain⟨_,q⟩:=x a _ r;exact q
def lD:Option HO->Prop
 |some (.lst _)=>True
 |some (.dK _)=>True
 |some (.dT _)=>True
 |some (.set _ _)=>True
 |some (.ins _ _ _)=>True
 |some (.ext _)=>True
 |_=>False
section
variable{P:Program}{w:World}{H:Hp}{h h':Heap}{x e:Addr}{o':HO}
def UW.write(ok:UW P w H h)(mu:lD (H x))(he:e=x\/H e=some (.own x))(k:∀b u,b≠e->h.get? b=some u->h'.get? b=some u)(heo:∃u,h'.get? e=some u)
 (new:vG P w (upd H x o') h' x o'):UW P w (upd H x o') h':=λb u q=>by
 have nown:∀c y,H c=some (.own y)->c≠x:=λc y r z=>by subst z;rwa [r]at mu
 have ntup:∀c xs,H c=some (.tup xs)->c≠x:=λc xs r z=>by subst z;rwa [r]at mu
 by_cases hb:b=x
 . subst hb;rw[ya]at q;cases q;exact new
 . rw[zK hb]at q
   by_cases hbe:b=e
   . have q':H b=some (.own x):=by
      rcases he with z|z
      . exact absurd (hbe.trans z) hb
      . rwa [hbe]
     rw[q]at q';cases q';obtain⟨v,hv⟩:=heo;exact⟨v,by rwa [hbe]⟩
   . refine(ok b u q).stay (λc v hc r=>k c v ?_ r) (λc r=>by rwa [zK<|nown c b r]) λc xs r=>by rwa [zK<|ntup c xs r]
     rcases hc with rfl|hc
     . exact hbe
     . rintro rfl
       rcases he with z|z
       . exact nown c b hc z
       . rw[hc]at z;cases z;exact hb rfl
end
structure Un(fs ex:List Addr)(H H':Hp)(h h':Heap):Prop where
 keep:∀b o,h.get? b=some o->H b=none->b ∉ fs->b ∉ ex->h'.get? b=some o
 slot:∀b o,h.get? b=some o->H b=none->b ∈ fs->b ∉ ex->∃sl,h'.get? b=some {o with slots:=sl}
 free:∀b o,h.get? b=some o->H b=none->b ∉ ex->H' b=none
 there:∀b o,h.get? b=some o->b ∉ ex->∃o',h'.get? b=some o'
 tups:∀b xs,H b=some (.tup xs)->H' b=some (.tup xs)
 frzs:∀b o u,H b=some (.frz o u)->H' b=some (.frz o u)
 tbls:∀b ps,H b=some (.tbl ps)->∃more,H' b=some (.tbl<|ps++more)
section
variable{fs fs' ex ex':List Addr}{H H1 H2:Hp}{h h1 h2 h':Heap}{a x e:Addr}{o:HO}
def Un.any(u:Un fs ex H H1 h h1)(q:h.get? b=some ob)(n:H b=none)(hx:b ∉ ex):∃sl,h1.get? b=some {ob with slots:=sl}:=by
 by_cases hb:b ∈ fs
 . exact u.slot b ob q n hb hx
 . exact⟨ob.slots,u.keep b ob q n hb hx⟩
def Un.kept(k:∀b u,h.get? b=some u->h'.get? b=some u):Un fs ex H H h h':=
 ⟨λb ob q _ _ _=>k b ob q,λb ob q _ _ _=>⟨ob.slots,k b ob q⟩,λ_ _ _ n _=>n,λb ob q _=>⟨ob,k b ob q⟩,λ_ _ q=>q,λ_ _ _ q=>q,λ_ ps q=>⟨#[],by rw[q];simp⟩⟩
def Un.refl:Un fs ex H H h h:=Un.kept λ_ _ q=>q
def Un.laid(k:∀b u,h.get? b=some u->h'.get? b=some u)(hp:h.objs.size<=a)(hn:H a=none):Un fs ex H (upd H a o) h h' where
 keep:=λb u q _ _ _=>k b u q
 slot:=λb u q _ _ _=>⟨u.slots,k b u q⟩
 free:=λb u q n _=>by rwa [zK<|zzQ<|zzK (zxG q) hp]
 there:=λb u q _=>⟨u,k b u q⟩
 tups:=λb xs q=>by rwa [zK<|z9 q hn]
 frzs:=λb u xs q=>by rwa [zK<|z9 q hn]
 tbls:=λb ps q=>⟨#[],by rw[zK<|z9 q hn,q];simp⟩
def Un.write(mu:lD (H x))(he:e=x\/H e=some (.own x))(k:∀b u,b≠e->h.get? b=some u->h'.get? b=some u)(heo:∃u,h'.get? e=some u):Un fs ex H (upd H x o) h h':=by
 have hx:∀b,H b=none->b≠x:=λb n z=>by subst z;rwa [n]at mu
 have hb:∀b,H b=none->b≠e:=λb n z=>by
  subst z
  rcases he with r|r
  . exact hx b n r
  . rw[n]at r;cases r
 have hm:∀b u,H b=some u->¬lD (some u)->b≠x:=λb u q nm z=>by subst z;rw[q]at mu;exact nm mu
 refine⟨λb u q n _ _=>k b u (hb b n) q,λb u q n _ _=>⟨u.slots,k b u (hb b n) q⟩,λb u q n _=>by rw[zK<|hx b n];exact n,λb u q _=>?_,
  λb xs q=>by rw[zK<|hm b _ q λz=>z];exact q,λb u xs q=>by rw[zK<|hm b _ q λz=>z];exact q,λb ps q=>⟨#[],by rw[zK<|hm b _ q λz=>z,q];simp⟩⟩
 by_cases hbe:b=e
 . subst hbe;exact heo
 . exact⟨u,k b u hbe q⟩
end
noncomputable def trk(h:Heap)(H:Hp):List Addr:=(List.range h.objs.size).filter λa=>(H a).isSome
def SM(h:Heap)(H:Hp):Heap:=W.hideAll h<|trk h H
def Sn(h)(H):(SM h H).objs.size=h.objs.size:=W.hideAll_size _ _
def Il(e:h.get? b=some o)(n:H b=none):(SM h H).get? b=some o:=
 W.hideAll_get _ e λhm=>by
  have q:=(List.mem_filter.mp hm).2;rw[n]at q;simp at q
def Ao(e:(SM h H).get? b=some o):h.get? b=some o/\H b=none:=by
 have e':h.get? b=some o:=W.of_hideAll _ e;refine⟨e', ?_⟩;cases q:H b with
 |none=>rfl
 |some x=>
  have hm:b ∈ trk h H:=List.mem_filter.mpr ⟨List.mem_range.mpr<|zxG e',by simp[q]⟩;have z:(SM h H).get? b=none:=W.hideAll_none _ hm;rw[z]at e;cases e
end L2
namespace L2
open PySem PySem.Spec PyProof.Rows
structure Mod(K:zzA)(mg:Str->Option Value)(base:Heap):Prop where
 kin:K.In base
 glob:base.Ns mainGlobals mg
 blt:∃mb,base.Ns builtinsNs mb/\∀x:Str,x≠"__name__"->mb x=bootBuiltins x
 nolimit:base.NoLimit
structure Cx where
 prog:Program
 w:World
 K:zzA
 mg:Str->Option Value
 base:Heap
 A:Around
 N:List Str
 s₀:Shared
 H₀:Hp
 env:Env
 outer:List Env
 stack:List Env
 ex:List Addr
 fn:Str->Bool
 calm:Bool
 pn:List (Addr×Obj)
 xe:Value->Shared->Prop
noncomputable def Hr(l:List Env):List Addr:=l.filterMap (·.frame)
abbrev Cx.fs(X:Cx):List Addr:=Hr X.outer
def lK(sc:Scope)(x:Str):Prop:=sc.names.lookup x=some .local\/sc.names.lookup x=some .cell\/sc.names.lookup x=some .free
def Loc(sc:Scope)(x:Str):Prop:=sc.names.lookup x=some .local\/sc.names.lookup x=some .cell
def Look(env:Env)(h:Heap)(m:Str->Option Value)(x:Str)(u:Value):Prop:=
 (env.kindOf x=some .local/\m x=some u)\/((env.kindOf x=some .cell\/env.kindOf x=some .free)/\∃c,env.cells.lookup x=some c/\h.IsCell c (some u))
structure Cx.Ok(X:Cx):Prop where
 mod:Mod X.K X.mg X.base
 kind:X.env.scope.kind = .function
 glob:X.env.globals=mainGlobals
 blt:X.env.builtins=builtinsNs
 above:X.s₀.heap.objs.size<=X.env.locals
 inj:∀x y c,X.env.cells.lookup x=some c->X.env.cells.lookup y=some c->x=y
 has:∀x,(X.env.kindOf x=some .cell\/X.env.kindOf x=some .free)->∃c,X.env.cells.lookup x=some c
 cab:∀x c,X.fn x=true->X.env.cells.lookup x=some c->X.s₀.heap.objs.size<=c
 hd:X.calm=true->X.A.handled=none
 frames:X.A.frames=some X.stack
 stk:X.stack=X.outer\/(X.stack=X.env::X.outer/\X.env.frame=some X.env.locals)
 exf:∀b ∈ X.ex,b≠X.env.locals/\∀x c,X.env.cells.lookup x=some c->c≠b
 bs:∀b o,X.base.get? b=some o->X.s₀.heap.get? b=some o/\X.H₀ b=none
 bsz:X.base.objs.size<=X.s₀.heap.objs.size
 noex:∀b o,X.base.get? b=some o->b ∉ X.ex
 exfs:∀b ∈ X.ex,b ∉ X.fs
 funs:X.s₀.heap.FunFrames X.base X.outer
 frf:∀b ∈ X.fs,X.H₀ b=none
structure Inv(X:Cx)(pins:List (Addr×Obj))(σ:List (Option V))(H:Hp)(s:Shared):Prop where
 ok:X.Ok
 os:s.os=X.s₀.os
 bare:AllBare s.gens
 base:Un X.fs X.ex X.H₀ H X.s₀.heap s.heap
 loc:∃m,s.heap.Ns X.env.locals m/\∀(i:Nat) (x:Str) (v:V),X.N[i]? = some x->σ[i]? = some (some v)->lK X.env.scope x->∃u,RelV v u/\Look X.env s.heap m x u
 cell:∀x c,X.env.cells.lookup x=some c->∃v,s.heap.IsCell c v
 free:H X.env.locals=none
 freeC:∀x c,X.env.cells.lookup x=some c->H c=none
 pin:∀p ∈ X.pn++pins,s.heap.get? p.1=some p.2/\H p.1=none/\p.1≠X.env.locals/\p.1 ∉ X.fs/\∀v,p.2.data ≠ .cell v
 hok:UW X.prog X.w H s.heap
 len:σ.length=X.N.length
section
variable{X:Cx}{pins:List (Addr×Obj)}{σ:List (Option V)}{H H':Hp}{s:Shared}{h':Heap}
def Cx.Ok.nofr(ok:X.Ok)(e:X.base.get? b=some o):b ∉ X.fs:=λhb=>by
 have:=(ok.funs.mem hb).1;rw[e]at this;cases this
theorem Inv.bs(I:Inv X pins σ H s):∀b o,X.base.get? b=some o->s.heap.get? b=some o/\H b=none:=λb o e=>
 ⟨I.base.keep b o (I.ok.bs b o e).1 (I.ok.bs b o e).2 (I.ok.nofr e)<|I.ok.noex b o e,I.base.free b o (I.ok.bs b o e).1 (I.ok.bs b o e).2<|I.ok.noex b o e⟩
def Inv.bk(I:Inv X pins σ H s):∀b o,X.base.get? b=some o->s.heap.get? b=some o:=λb o e=>(I.bs b o e).1
theorem Inv.mod(I:Inv X pins σ H s):Mod X.K X.mg X.base:=I.ok.mod
def Inv.kIn(I:Inv X pins σ H s):X.K.In s.heap:=I.ok.mod.kin.keeps I.bk
theorem Inv.lt(I:Inv X pins σ H s):X.env.locals<s.heap.objs.size:=let⟨_,hn,_⟩:=I.loc;hn.lt
def Inv.sz(I:Inv X pins σ H s):X.s₀.heap.objs.size<=s.heap.objs.size:=zzO I.ok.above<|Nat.le_of_lt I.lt
def Inv.nofs(I:Inv X pins σ H s)(h:s.heap.objs.size<=a):a ∉ X.fs:=λhb=>by
 obtain⟨_,o,ho,_⟩:=I.ok.funs.mem hb;exact absurd (zzK (zxG ho)<|zzO I.sz h)<|Nat.lt_irrefl _
def Inv.cne(I:Inv X pins σ H s):∀x c,X.env.cells.lookup x=some c->c≠X.env.locals:=λx c e z=>by
 obtain⟨v,o,ho,hd⟩:=I.cell x c e;obtain⟨m,⟨o',es,ep,ho',hd',_⟩,_⟩:=I.loc;rw[z,ho']at ho;cases ho;rw[hd']at hd;cases hd
theorem Inv.funs(I:Inv X pins σ H s):s.heap.FunFrames X.base X.outer:=by
 have all:∀l,(∀b ∈ Hr l,b ∈ X.fs)->X.s₀.heap.FunFrames X.base l->s.heap.FunFrames X.base l:=by
  intro l
  induction l with
  |nil=>intro _ _;trivial
  |cons env r ih=>
   intro hs hl;obtain⟨hk,⟨L,o,hf,hn,ho,hd⟩,hr⟩:=hl;have hL:=hs L (by unfold Hr;rw[List.filterMap_cons,hf];exact zzF);obtain⟨sl,e⟩:=I.base.slot L o ho (I.ok.frf L hL) hL λz=>I.ok.exfs L z hL;exact⟨hk,⟨L,_,hf,hn,e,hd⟩,ih (λb hb=>hs b<|by unfold Hr;rw[List.filterMap_cons,hf];exact zzD _ hb) hr⟩
 exact all X.outer (λ_ hb=>hb) I.ok.funs
theorem Inv.stack(I:Inv X pins σ H s):s.heap.FunFrames X.base X.stack:=by
 rcases I.ok.stk with e|⟨e,hf⟩
 . rw[e];exact I.funs
 . rw[e];obtain⟨m,hn,_⟩:=I.loc;refine .cons (by rw[I.ok.kind];decide) hf hn ?_ I.funs;exact Heap.get?_none_of_le<|zzO I.ok.bsz I.ok.above
def Inv.stkSub(I:Inv X pins σ H s):∀b ∈ Hr X.stack,b ∈ X.env.locals::X.fs:=λb hb=>by
 rcases I.ok.stk with e|⟨e,hf⟩
 . rw[e]at hb;exact zzD _ hb
 . rw[e]at hb;unfold Hr at hb
   rwa [List.filterMap_cons,hf]at hb
def Inv.stkFree(I:Inv X pins σ H s):∀b ∈ Hr X.stack,H b=none:=λb hb=>by
 rcases zzC.mp (I.stkSub b hb)with e|hb
 . rw[e];exact I.free
 . obtain⟨_,o,ho,_⟩:=I.ok.funs.mem hb;exact I.base.free b o ho (I.ok.frf b hb) λz=>I.ok.exfs b z hb
def Inv.step{g'}{t':Nat}{d'}{ch:List Addr}(I:Inv X pins σ H s)
 (hch:∀b ∈ ch,(b ∈ X.ex\/X.s₀.heap.objs.size<=b)/\b≠X.env.locals/\(∀x c,X.env.cells.lookup x=some c->c≠b)/\∀p ∈ X.pn++pins,p.1≠b)
 (keep:∀b o,b≠X.env.locals->b ∉ X.fs->b ∉ ch->s.heap.get? b=some o->H b=none->h'.get? b=some o)
 (slot:∀b o,b≠X.env.locals->b ∈ X.fs->b ∉ ch->s.heap.get? b=some o->H b=none->∃sl,h'.get? b=some {o with slots:=sl}) (free:∀b o,b ∉ ch->s.heap.get? b=some o->H b=none->H' b=none)
 (there:∀b o,b ∉ ch->s.heap.get? b=some o->∃o',h'.get? b=some o')
 (tups:∀b xs,H b=some (.tup xs)->H' b=some (.tup xs)) (frzs:∀b o u,H b=some (.frz o u)->H' b=some (.frz o u)) (tbls:∀b ps,H b=some (.tbl ps)->∃more,H' b=some (.tbl<|ps++more))
 (ns:∀m,s.heap.Ns X.env.locals m->h'.Ns X.env.locals m) (hok:UW X.prog X.w H' h') (hg:AllBare g'):
 Inv X pins σ H' {s with heap:=h',gens:=g',drawn:=d',toks:=t'}:=by
 have neL:∀b o,X.s₀.heap.get? b=some o->b≠X.env.locals:=λb o e=>zzQ<|zzK (zxG e) I.ok.above;have neC:∀b o,X.s₀.heap.get? b=some o->b ∉ X.ex->b ∉ ch:=λb o e hx hb=>by
  rcases(hch b hb).1 with z|z
  . exact hx z
  . exact absurd (zzK (zxG e) z)<|Nat.lt_irrefl _
 have cellK:∀x c,X.env.cells.lookup x=some c->∀v,s.heap.IsCell c v->h'.IsCell c v:=λx c e v ⟨o,ho,hd⟩=>by
  have nch:=λz=>(hch c z).2.2.1 x c e rfl
  by_cases hc:c ∈ X.fs
  . obtain⟨sl,q⟩:=slot c o (I.cne x c e) hc nch ho<|I.freeC x c e;exact⟨_,q,hd⟩
  . exact⟨o,keep c o (I.cne x c e) hc nch ho<|I.freeC x c e,hd⟩
 refine⟨I.ok,I.os,hg,⟨λb o e n hb hx=>?_,λb o e n hb hx=>?_,λb o e n hx=>?_,λb o e hx=>?_,λb xs e=>tups b xs<|I.base.tups b xs e,λb o xs e=>frzs b o xs<|I.base.frzs b o xs e,λb ps e=>?_⟩, ?_,λx c e=>?_, ?_,λx c e=>?_,λp hp=>?_,hok,I.len⟩
 . exact keep b o (neL b o e) hb (neC b o e hx) (I.base.keep b o e n hb hx)<|I.base.free b o e n hx
 . obtain⟨sl,e1⟩:=I.base.slot b o e n hb hx;obtain⟨sl',e2⟩:=slot b _ (neL b o e) hb (neC b o e hx) e1<|I.base.free b o e n hx;exact⟨sl',e2⟩
 . obtain⟨o',e1⟩:=I.base.there b o e hx;exact free b o' (neC b o e hx) e1<|I.base.free b o e n hx
 . obtain⟨o',e1⟩:=I.base.there b o e hx;exact there b o' (neC b o e hx) e1
 . obtain⟨m1,e1⟩:=I.base.tbls b ps e;obtain⟨m2,e2⟩:=tbls b _ e1;exact⟨m1++m2,by rw[e2,Array.append_assoc]⟩
 . obtain⟨m,hn,hl⟩:=I.loc;refine⟨m,ns m hn,λi x v e1 e2 e3=>?_⟩;obtain⟨u,r,l⟩:=hl i x v e1 e2 e3;refine⟨u,r, ?_⟩
   rcases l with l|⟨k,c,e,z⟩
   . exact .inl l
   . exact .inr ⟨k,c,e,cellK x c e _ z⟩
 . obtain⟨v,z⟩:=I.cell x c e;exact⟨v,cellK x c e v z⟩
 . obtain⟨m,⟨o,_,_,ho,_⟩,_⟩:=I.loc;exact free _ o (λz=>(hch _ z).2.1 rfl) ho I.free
 . obtain⟨v,o,ho,hd⟩:=I.cell x c e;exact free c o (λz=>(hch c z).2.2.1 x c e rfl) ho<|I.freeC x c e
 . obtain⟨e,n,ne,nf,d⟩:=I.pin p hp;have nch:=λz=>(hch p.1 z).2.2.2 p hp rfl;exact⟨keep p.1 p.2 ne nf nch e n,free p.1 p.2 nch e n,ne,nf,d⟩
def Inv.un{t':Nat}(I:Inv X pins σ H s)(u:Un X.fs [] H H' s.heap h')(hok:UW X.prog X.w H' h'):Inv X pins σ H' {s with heap:=h',toks:=t'}:=by
 obtain⟨m,⟨o,es,ep,ho,r⟩,_⟩:=id I.loc;obtain⟨sl,hL⟩:=u.any ho I.free (by simp);exact I.step (g':=s.gens) (d':=s.drawn) (ch:=[]) (λ_ z=>nomatch z) (λb o _ hb _ e n=>u.keep b o e n hb<|by simp) (λb o _ hb _ e n=>u.slot b o e n hb<|by simp) (λb o _ e n=>u.free b o e n<|by simp) (λb o _ e=>u.there b o e<|by simp) u.tups u.frzs u.tbls (λm' hm=>by
  obtain⟨o',es',ep',ho',r'⟩:=hm;rw[ho]at ho';cases ho';exact⟨_,es',ep',hL,r'⟩) hok I.bare
def Inv.call{g'}{t':Nat}{d'}{ch:List Addr}(I:Inv X pins σ H s)(u:Un (Hr X.stack) ch H H' s.heap h')(hok:UW X.prog X.w H' h')(hg:AllBare g')
 (hch:∀b ∈ ch,(b ∈ X.ex\/X.s₀.heap.objs.size<=b)/\b≠X.env.locals/\(∀x c,X.env.cells.lookup x=some c->c≠b)/\∀p ∈ X.pn++pins,p.1≠b):
 Inv X pins σ H' {s with heap:=h',gens:=g',drawn:=d',toks:=t'}:=by
 obtain⟨m,⟨o,es,ep,ho,r⟩,_⟩:=id I.loc;obtain⟨sl,hL⟩:=u.any ho I.free λz=>(hch _ z).2.1 rfl;exact I.step hch (λb o hL hb hc e n=>u.keep b o e n (λz=>(zzC.mp<|I.stkSub b z).elim hL hb) hc) (λb o _ _ hc e n=>u.any e n hc) (λb o hc e n=>u.free b o e n hc) (λb o hc e=>u.there b o e hc) u.tups u.frzs u.tbls (λm' hm=>by
  obtain⟨o',es',ep',ho',r'⟩:=hm;rw[ho]at ho';cases ho';exact⟨_,es',ep',hL,r'⟩) hok hg
def Inv.turned{t':Nat}{it:Addr}(I:Inv X pins σ H s)(k:∀b o,b≠it->s.heap.get? b=some o->h'.get? b=some o)(hn:H it=none)(hL:it≠X.env.locals)
 (h1:it ∈ X.ex\/X.s₀.heap.objs.size<=it) (h2:∀x c,X.env.cells.lookup x=some c->c≠it) (h3:∀p ∈ X.pn++pins,p.1≠it):Inv X pins σ H {s with heap:=h',toks:=t'}:=by
 have nit:∀b u,H b=some u->b≠it:=λb u e z=>by rw[z,hn]at e;cases e
 refine I.step (g':=s.gens) (d':=s.drawn) (ch:=[it]) (λb hb=>?_) (λb o _ _ hc e _=>k b o (λz=>hc<|by simp[z]) e) (λb o _ _ hc e _=>⟨o.slots,k b o (λz=>hc<|by simp[z]) e⟩) (λ_ _ _ _ n=>n)
  (λb o hc e=>⟨o,k b o (λz=>hc<|by simp[z]) e⟩) (λ_ _ e=>e) (λ_ _ _ e=>e) (λb ps e=>⟨#[],by rw[e];simp⟩) (λm hm=>?_) (λb u e=>?_) I.bare
 . have e:b=it:=by simpa using hb
   subst e;exact⟨h1,hL,h2,h3⟩
 . obtain⟨o,es,ep,ho,r⟩:=hm;exact⟨o,es,ep,k _ o (Ne.symm hL) ho,r⟩
 . refine(I.hok b u e).stay (λc v hc q=>k c v ?_ q) (λ_ q=>q) λ_ _ q=>q
   rcases hc with z|z
   . rw[z];exact nit b u e
   . exact nit c _ z
def Inv.tok(I:Inv X pins σ H s)(t:Nat):Inv X pins σ H {s with toks:=t}:=I.un (h':=s.heap) (t':=t) Un.refl I.hok
theorem Inv.kept(I:Inv X pins σ H s)(k:∀b u,s.heap.get? b=some u->h'.get? b=some u):Inv X pins σ H {s with heap:=h',toks:=t'}:=I.un (Un.kept k)<|I.hok.kept k
theorem Inv.laid(I:Inv X pins σ H s)(k:∀b u,s.heap.get? b=some u->h'.get? b=some u)(hp:s.heap.objs.size<=a)(new:vG X.prog X.w (upd H a o) h' a o):
 Inv X pins σ (upd H a o) {s with heap:=h',toks:=t'}:=I.un (Un.laid k hp<|I.hok.fresh hp)<|I.hok.laid k hp new
theorem Inv.write(I:Inv X pins σ H s)(mu:lD (H x))(he:e=x\/H e=some (.own x))(k:∀b u,b≠e->s.heap.get? b=some u->h'.get? b=some u)(heo:∃u,h'.get? e=some u)
 (new:vG X.prog X.w (upd H x o) h' x o):Inv X pins σ (upd H x o) {s with heap:=h',toks:=t'}:=I.un (Un.write mu he k heo)<|I.hok.write mu he k heo new
def Inv.weak(I:Inv X pins σ H s)(hl:σ'.length=σ.length)(w:∀(i:Nat) v,σ'[i]? = some (some v)->σ[i]? = some (some v)):Inv X pins σ' H s:=
 ⟨I.ok,I.os,I.bare,I.base,let⟨m,hn,hl'⟩:=I.loc;⟨m,hn,λi x v e1 e2 e3=>hl' i x v e1 (w i v e2) e3⟩,I.cell,I.free,I.freeC,I.pin,I.hok,hl.trans I.len⟩
def Inv.pins_of(I:Inv X pins σ H s)(h:∀p ∈ pins',s.heap.get? p.1=some p.2/\H p.1=none/\p.1≠X.env.locals/\p.1 ∉ X.fs/\∀v,p.2.data ≠ .cell v):Inv X pins' σ H s:=
 ⟨I.ok,I.os,I.bare,I.base,I.loc,I.cell,I.free,I.freeC,λp hp=>(zzM.mp hp).elim (λz=>I.pin p<|zzP _ z)<|h p,I.hok,I.len⟩
def MQ{N:List Str}(hN:N.Nodup){i j:Nat}{x}(a:N[i]? = some x)(b:N[j]? = some x):i=j:=by
 obtain⟨h1,e1⟩:=zzG.mp a;obtain⟨h2,e2⟩:=zzG.mp b;exact(List.getElem_inj hN).mp<|e1.trans e2.symm
def Ka{M A E}{i:Nat}{x v u Q}(I:Inv X pins σ H s)(hN:X.N.Nodup)(hi:X.N[i]? = some x)(hx:Loc X.env.scope x)(r:RelV v u)
 (h:∀s',Inv X pins (σ.set i<|some v) H s'->(∃a,Heap.SameBut a s.heap s'.heap/\(a=X.env.locals\/X.env.cells.lookup x=some a))->Q () s') (hf:X.fn x=true\/X.env.scope.names.lookup x=some .local:=by first|exact .inl rfl|exact .inr rfl|assumption):wpAny M A (storeName X.env x u) Q E s:=by
 obtain⟨m,hn,hl⟩:=id I.loc;have hcls:(X.env.scope.kind == .class||(X.env.scope.kind == .module&&X.env.locals != X.env.globals))=false:=by rw[I.ok.kind];rfl
 have hiσ:i<σ.length:=by rw[I.len];exact(zzG.mp hi).1
 have cne:=I.cne;have tracked:∀{a:Addr}{h':Heap},(∃o,s.heap.get? a=some o/\H a=none)->Heap.SameBut a s.heap h'->UW X.prog X.w H h':=λ{a h'} ha hs b ob e=>by
  obtain⟨_,_,hfree⟩:=ha;refine(I.hok b ob e).stay (λc w' hc q=>(hs.2 c ?_).trans q) (λ_ q=>q) λ_ _ q=>q
  rintro rfl
  rcases hc with rfl|hc
  . rw[hfree]at e;cases e
  . rw[hfree]at hc;cases hc
 rcases hx with hk|hk
 . refine wpAny_storeName_local hk hn (λh' hn' hs=>?_) hcls;obtain⟨oL,_,_,hoL,_⟩:=id hn;refine h _ ⟨I.ok,I.os,I.bare,⟨λb o e n hb hx=>?_,λb o e n hb hx=>?_,I.base.free,λb o e hx=>?_,I.base.tups,I.base.frzs,I.base.tbls⟩,⟨_,hn',λj y v' e1 e2 e3=>?_⟩,λy c e=>?_,I.free,I.freeC,λp hp=>?_,tracked ⟨oL,hoL,I.free⟩ hs,by simpa using I.len⟩ ⟨_,hs,.inl rfl⟩
   . exact(hs.2 b<|zzQ<|zzK (zxG e) I.ok.above).trans<|I.base.keep b o e n hb hx
   . obtain⟨sl,e1⟩:=I.base.slot b o e n hb hx;exact⟨sl,(hs.2 b<|zzQ<|zzK (zxG e) I.ok.above).trans e1⟩
   . obtain⟨o',e1⟩:=I.base.there b o e hx;exact⟨o',(hs.2 b<|zzQ<|zzK (zxG e) I.ok.above).trans e1⟩
   . by_cases hj:j=i
     . subst hj;rw[hi]at e1;cases e1;rw[zyK hiσ]at e2;cases e2;exact⟨u,r,.inl ⟨hk,by simp⟩⟩
     . rw[zzY<|Ne.symm hj]at e2;obtain⟨u',r',q⟩:=hl j y v' e1 e2 e3;refine⟨u',r', ?_⟩
       rcases q with⟨k,e⟩|⟨k,c,e,z⟩
       . refine .inl ⟨k, ?_⟩;have:y≠x:=λe=>hj<|MQ hN e1<|e ▸ hi;simp[this,e]
       . exact .inr ⟨k,c,e,z.sameBut hs<|cne y c e⟩
   . obtain⟨w',z⟩:=I.cell y c e;exact⟨w',z.sameBut hs<|cne y c e⟩
   . obtain⟨e,n,ne,nf,d⟩:=I.pin p hp;exact⟨(hs.2 p.1 ne).trans e,n,ne,nf,d⟩
 . have hfn:X.fn x=true:=by
    rcases hf with z|z
    . exact z
    . rw[z]at hk;cases hk
   obtain⟨c,hc⟩:=I.ok.has x<|.inl hk;obtain⟨w',z⟩:=I.cell x c hc;refine wpAny_storeName_cell I.ok.kind hk hc z λh' hc' hs=>?_;obtain⟨oc,hoc,hocd⟩:=id z;refine h {s with heap:=h'} ⟨I.ok,I.os,I.bare,⟨λb o e n hb hx=>?_,λb o e n hb hx=>?_,I.base.free,λb o e hx=>?_,I.base.tups,I.base.frzs,I.base.tbls⟩,⟨m,hn.sameBut hs<|Ne.symm<|cne x c hc,λj y v' e1 e2 e3=>?_⟩,λy c' e=>?_,I.free,I.freeC,λp hp=>?_,tracked ⟨oc,hoc,I.freeC x c hc⟩ hs,by simpa using I.len⟩ ⟨c,hs,.inr hc⟩
   . exact(hs.2 b<|zzQ<|zzK (zxG e)<|I.ok.cab x c hfn hc).trans<|I.base.keep b o e n hb hx
   . obtain⟨sl,e1⟩:=I.base.slot b o e n hb hx;exact⟨sl,(hs.2 b<|zzQ<|zzK (zxG e)<|I.ok.cab x c hfn hc).trans e1⟩
   . obtain⟨o',e1⟩:=I.base.there b o e hx;exact⟨o',(hs.2 b<|zzQ<|zzK (zxG e)<|I.ok.cab x c hfn hc).trans e1⟩
   . by_cases hj:j=i
     . subst hj;rw[hi]at e1;cases e1;rw[zyK hiσ]at e2;cases e2;exact⟨u,r,.inr ⟨.inl hk,c,hc,hc'⟩⟩
     . rw[zzY<|Ne.symm hj]at e2;obtain⟨u',r',q⟩:=hl j y v' e1 e2 e3;refine⟨u',r', ?_⟩
       rcases q with q|⟨k,c',e,z'⟩
       . exact .inl q
       . refine .inr ⟨k,c',e,z'.sameBut hs ?_⟩
         rintro rfl
         exact hj<|MQ hN e1<|I.ok.inj _ _ _ e hc ▸ hi
   . by_cases hcc:c'=c
     . subst hcc;exact⟨_,hc'⟩
     . obtain⟨w2,z2⟩:=I.cell y c' e;exact⟨w2,z2.sameBut hs hcc⟩
   . obtain⟨e,n,ne,nf,d⟩:=I.pin p hp;refine⟨(hs.2 p.1 ?_).trans e,n,ne,nf,d⟩;intro q;rw[q,hoc]at e;have q':oc=p.2:=zzZ e;exact d w' (by rwa [<-q'])
def MY(I:Inv X pins σ H s)(hN:X.N.Nodup)(hi:X.N[i]? = some x)(hx:Loc X.env.scope x)(r:RelV v u)
 (h:∀s',Inv X pins (σ.set i<|some v) H s'->Q () s') (hf:X.fn x=true\/X.env.scope.names.lookup x=some .local:=by first|exact .inl rfl|exact .inr rfl|assumption):wpAny M A (storeName X.env x u) Q E s:=
 Ka I hN hi hx r (λs' I' _=>h s' I') hf
def Inv.call'(I:Inv X pins σ H s)(ho:s'.os=s.os)(u:Un (Hr X.stack) ch H H' s.heap s'.heap)(hok:UW X.prog X.w H' s'.heap)(hg:AllBare s'.gens)
 (hch:∀b ∈ ch,(b ∈ X.ex\/X.s₀.heap.objs.size<=b)/\b≠X.env.locals/\(∀x c,X.env.cells.lookup x=some c->c≠b)/\∀p ∈ X.pn++pins,p.1≠b):Inv X pins σ H' s':=by
 obtain⟨h',g',d',t',o'⟩:=s';have e:=ho;subst e;exact I.call (g':=g') (t':=t') (d':=d') u hok hg hch
end
abbrev XK:=Value->Option Addr->Hp->Prop
abbrev St:=List<|Option V
abbrev VK:=V->Hp->Prop
abbrev TE:=St->Hp->VK->Prop
abbrev TT:=St->Hp->(Bool->Hp->Prop)->Prop
abbrev TA:=St->Hp->(List V->Hp->Prop)->Prop
structure Ends where
 nx:St->Hp->Prop
 rt:VK
 bk:St->Hp->Prop:=λ_ _=>False
 ct:St->Hp->Prop:=λ_ _=>False
abbrev TS:=Ends->St->Hp->Prop
def EP(X:Cx)(pins:List (Addr×Obj))(σ:St)(Q:VK)(u:Value)(s':Shared):Prop:=∃v H',Inv X pins σ H' s'/\RelV v u/\Q v H'
def TP(X:Cx)(pins:List (Addr×Obj))(σ:St)(Q:Bool->Hp->Prop)(b:Bool)(s':Shared):Prop:=∃H',Inv X pins σ H' s'/\Q b H'
def AP(X:Cx)(pins:List (Addr×Obj))(σ:St)(Q:List V->Hp->Prop)(us:List Value)(s':Shared):Prop:=∃vs H',Inv X pins σ H' s'/\zU vs us/\Q vs H'
def SP(X:Cx)(pins:List (Addr×Obj))(D:Ends)(f:Flow)(s':Shared):Prop:=
 match f with
 | .next=>∃σ' H',Inv X pins σ' H' s'/\D.nx σ' H'
 | .brk=>∃σ' H',Inv X pins σ' H' s'/\D.bk σ' H'
 | .cont=>∃σ' H',Inv X pins σ' H' s'/\D.ct σ' H'
 | .ret u=>∃v σ' H',Inv X pins σ' H' s'/\RelV v u/\D.rt v H'
def PE(X:Cx)(e:Expr)(t:TE):Prop:=
 ∀(pins:List (Addr×Obj)) (s:Shared) (σ:St) (H:Hp) (Q:VK),Inv X pins σ H s->t σ H Q->wpAny (model X.prog X.w) X.A (eval e X.env) (EP X pins σ Q) X.xe s
def PT(X:Cx)(e:Expr)(t:TT):Prop:=
 ∀(pins:List (Addr×Obj)) (s:Shared) (σ:St) (H:Hp) (Q:Bool->Hp->Prop),Inv X pins σ H s->t σ H Q->wpAny (model X.prog X.w) X.A (isTrue e X.env<|eval e X.env) (TP X pins σ Q) X.xe s
def PW(X:Cx)(e:Expr)(t:TT):Prop:=
 ∀(whole:Sem Value) (pins:List (Addr×Obj)) (s:Shared) (σ:St) (H:Hp) (Q:Bool->Hp->Prop),Inv X pins σ H s->t σ H Q->wpAny (model X.prog X.w) X.A (isTrue e X.env whole) (TP X pins σ Q) X.xe s
def PW.pt(h:PW X e t):PT X e t:=h _
def PA(X:Cx)(es:List Expr)(t:TA):Prop:=
 ∀(pos:Pos) (pins:List (Addr×Obj)) (s:Shared) (σ:St) (H:Hp) (Q:List V->Hp->Prop),Inv X pins σ H s->t σ H Q->wpAny (model X.prog X.w) X.A (spliced<|backTo pos<|starEach es X.env) (AP X pins σ Q) X.xe s
def PS(X:Cx)(st:Stmt)(t:TS):Prop:=
 ∀(pins:List (Addr×Obj)) (s:Shared) (σ:St) (H:Hp) (D:Ends),Inv X pins σ H s->t D σ H->wpAny (model X.prog X.w) X.A (exec st X.env) (SP X pins D) X.xe s
def NH(X:Cx)(st:List Stmt)(t:TS):Prop:=
 ∀(pins:List (Addr×Obj)) (s:Shared) (σ:St) (H:Hp) (D:Ends),Inv X pins σ H s->t D σ H->wpAny (model X.prog X.w) X.A (execs st X.env) (SP X pins D) X.xe s
def wD(h:wpAny M A t Q E s)(hQ:∀a s,Q a s->Q' a s):wpAny M A t Q' E s:=zxK h hQ λ_ _ x=>x
end L2
namespace L2
open PySem PySem.Spec PyProof.Rows
section
variable{X:Cx}
def VL(i:Nat):TE:=λσ H Q=>∃v,σ[i]? = some (some v)/\Q v H
def tC(v:V):TE:=λ_ H Q=>Q v H
def O3(hN:X.N[i]? = some x)(hv:lK X.env.scope x)(hd:(x==("__debug__":Str))=false:=by decide)(hcd:(x==("__classdict__":Str))=false:=by decide):PE X (.Name x pos) (VL i):=by
 intro pins s σ H Q I h;obtain⟨v,e,h⟩:=h;obtain⟨m,hn,hl⟩:=I.loc;obtain⟨u,r,l⟩:=hl i x v hN e hv;have fin:EP X pins σ Q u s:=⟨v,H,I,r,h⟩
 rcases l with⟨hk,hm⟩|⟨hk,c,hc,hcell⟩
 . exact wpAny_Name (wpAny_loadName_local I.ok.kind hk hn hm fin) hd
 . rcases hk with hk|hk
   . exact wpAny_Name (wpAny_loadName_cell I.ok.kind hk hc hcell fin) hd
   . exact wpAny_Name (wpAny_loadName_free I.ok.kind hk hc hcell fin hcd) hd
def uf:PE X (.Constant (.int i) j pos) (tC<|.int i):=λ_ _ _ H _ I h=>wpAny_Constant_int ⟨.int i,H,I.tok _,⟨_,rfl⟩,h⟩
def mX:PE X (.Constant (.bool b) j pos) (tC<|.bl b):=λ_ _ _ H _ I h=>Constant_bool ⟨.bl b,H,I,rfl,h⟩
def t7:PE X (.Constant .none j pos) (tC .non):=λ_ _ _ H _ I h=>Constant_none ⟨.non,H,I,rfl,h⟩
def tI:PE X (.Constant (.str x) j pos) (tC<|.str x):=λ_ _ _ H _ I h=>Calls.Constant_str ⟨.str x,H,I.tok _,⟨_,rfl⟩,h⟩
def Gl(X:Cx)(x:Str):Prop:=X.env.kindOf x=some .globalImplicit
def Lj(I:Inv X pins σ H s)(hg:Gl X x)(hm:X.mg x=some u)(h:Q u s)
 (hd:(x==("__debug__":Str))=false:=by decide):wpAny (model X.prog X.w) X.A (eval (.Name x pos) X.env) Q E s:=
 Calls.Name_function_global I.ok.kind hg (Calls.loadGlobal_global (by rw[I.ok.glob];exact I.mod.glob.keeps I.bk) hm h) hd
def Yy(I:Inv X pins σ H s)(hg:Gl X x)(hm:X.mg x=none)(hv:bootBuiltins x=some u)(h:Q u s)
 (hn:x≠"__name__":=by decide) (hd:(x==("__debug__":Str))=false:=by decide):wpAny (model X.prog X.w) X.A (eval (.Name x pos) X.env) Q E s:=by
 obtain⟨mb,h1,h2⟩:=I.mod.blt;exact Calls.Name_function_global I.ok.kind hg (Calls.loadGlobal_builtin (by rw[I.ok.glob];exact I.mod.glob.keeps I.bk) hm (by rw[I.ok.blt];exact h1.keeps I.bk) ((h2 x hn).trans hv) h) hd
def IK(hg:Gl X x)(hm:X.mg x=some u)(r:RelV v u)(hd:(x==("__debug__":Str))=false:=by decide):PE X (.Name x pos) (tC v):=
 λ_ _ _ H _ I h=>Lj I hg hm ⟨v,H,I,r,h⟩ hd
def Am(hg:Gl X x)(hm:X.mg x=none)(hv:bootBuiltins x=some u)(r:RelV v u)(hn:x≠"__name__":=by decide)(hd:(x==("__debug__":Str))=false:=by decide):PE X (.Name x pos) (tC v):=
 λ_ _ _ H _ I h=>Yy I hg hm hv ⟨v,H,I,r,h⟩ hn hd
variable{a b:Expr}{ta tb:TE}{pos:Pos}
variable{tA tB':TT}{rest:List Expr}
def kJ(t u:TT):TT:=λσ H Q=>t σ H λc H1=>if c=true then u σ H1 Q else Q false H1
def h_(t u:TT):TT:=λσ H Q=>t σ H λc H1=>if c=true then Q true H1 else u σ H1 Q
def jf(t:TT):TT:=λσ H Q=>t σ H λc H1=>Q (!c) H1
def Ai(ha:PT X a tA):PW X (.BoolOp .And [a] pos) tA:=by
 intro wh pins s σ H Q I h;refine isTrue_and<|wD (ha pins s σ H Q I h) λc s1 e=>?_;cases c with
 |true=>exact isTrue_and_nil e
 |false=>exact e
def si(ha:PT X a tA):PW X (.BoolOp .Or [a] pos) tA:=by
 intro wh pins s σ H Q I h;refine isTrue_or<|wD (ha pins s σ H Q I h) λc s1 e=>?_;cases c with
 |false=>exact isTrue_or_nil e
 |true=>exact e
def rj(ha:PT X a tA)(hb:PW X (.BoolOp .And (b::rest) pos) tB'):PW X (.BoolOp .And (a::b::rest) pos) (kJ tA tB'):=by
 intro wh pins s σ H Q I h;refine isTrue_and<|wD (ha pins s σ H _ I h) λc s1 ⟨H1,I1,q1⟩=>?_;cases c with
 |true=>exact hb wh pins s1 σ H1 Q I1 q1
 |false=>exact⟨H1,I1,q1⟩
def oP(ha:PT X a tA)(hb:PW X (.BoolOp .Or (b::rest) pos) tB'):PW X (.BoolOp .Or (a::b::rest) pos) (h_ tA tB'):=by
 intro wh pins s σ H Q I h;refine isTrue_or<|wD (ha pins s σ H _ I h) λc s1 ⟨H1,I1,q1⟩=>?_;cases c with
 |true=>exact⟨H1,I1,q1⟩
 |false=>exact hb wh pins s1 σ H1 Q I1 q1
def sV(ha:PT X a tA):PT X (.UnaryOp .Not a pos) (jf tA):=by
 intro pins s σ H Q I h;exact isTrue_not<|ha pins s σ H _ I h
def mZ(ta tb:TE):TE:=λσ H Q=>ta σ H λx H1=>∃c,x = .bl c/\if c=true then tb σ H1 Q else Q (.bl false) H1
def nA(ta:TE):TE:=λσ H Q=>ta σ H λx H1=>∃c,x = .bl c/\Q (.bl<|!c) H1
def tL(ha:PE X a ta)(hb:PE X (.BoolOp .And (b::rest) pos) tb):PE X (.BoolOp .And (a::b::rest) pos) (mZ ta tb):=by
 intro pins s σ H Q I h;refine BoolOp_and<|wD (ha pins s σ H _ I h) λv s1 ⟨x,H1,I1,r1,q1⟩=>?_;obtain⟨c,rfl,q1⟩:=q1;cases r1;refine wpAny_truthy_bool ?_;cases c with
 |true=>exact hb pins s1 σ H1 Q I1 q1
 |false=>exact⟨.bl false,H1,I1,rfl,q1⟩
def sM(ha:PE X a ta):PE X (.UnaryOp .Not a pos) (nA ta):=by
 intro pins s σ H Q I h;refine UnaryOp_<|wD (ha pins s σ H _ I h) λv s1 ⟨x,H1,I1,r1,q1⟩=>?_;obtain⟨c,rfl,q1⟩:=q1;cases r1;exact not_of<|wpAny_truthy_bool ⟨.bl _,H1,I1,rfl,q1⟩
def gI(t:TT)(ta tb:TE):TE:=λσ H Q=>t σ H λc H1=>if c=true then ta σ H1 Q else tb σ H1 Q
def O0(hc:PT X c tA)(ha:PE X a ta)(hb:PE X b tb):PE X (.IfExp c a b pos) (gI tA ta tb):=by
 intro pins s σ H Q I h;refine wpAny_IfExp<|wD (hc pins s σ H _ I h) λd s1 ⟨H1,I1,q1⟩=>?_;cases d with
 |true=>exact ha pins s1 σ H1 Q I1 q1
 |false=>exact hb pins s1 σ H1 Q I1 q1
end
end L2
namespace L2
open PySem PySem.Spec PyProof.Rows
def X3(K:zzA)(H:Hp)(a:Addr)(xs:List V):Prop:=
 Rd H a (.lst xs) \/
  ∃(o:Obj) (its:Array Value) (n:Nat),K.lookup a=some o/\o.cls = .type "list"/\o.dict=none/\o.data = .seq its n/\its.size<=sizeLine/\zU xs its.toList
def Ik(K:zzA)(H:Hp)(a:Addr)(xs:List V):Prop:=
 Rd H a (.lst xs)\/∃(its:Array Value) (n:Nat),K.lookup a=some {cls:=.type "list",data:=.seq its n}/\its.size<=sizeLine/\zU xs its.toList
def VP(K:zzA)(H:Hp)(a:Addr)(xs:List V):Prop:=
 Rd H a (.tup xs) \/
  ∃(o:Obj) (its:Array Value) (n:Nat),K.lookup a=some o/\o.cls = .type "tuple"/\o.data = .seq its n/\its.size<=sizeLine/\zU xs its.toList
noncomputable def kq:Value->Option V
 | .none=>some .non
 | .bool b=>some<|.bl b
 | .int i _=>some<|.int i
 | .str x _=>some<|.str x
 | .bytes b _=>some<|.byt b
 | .float b _=>some<|.flt b
 | .ref a=>some<|.ref a
 | .type n=>some (.ty n)
 |_=>none
def RelV.abs(r:RelV x u):kq u=some x:=by
 cases x with
 |non=>cases r;rfl
 |bl _=>cases r;rfl
 |int _=>obtain⟨t,rfl⟩:=r;rfl
 |str _=>obtain⟨t,rfl⟩:=r;rfl
 |byt _=>obtain⟨t,rfl⟩:=r;rfl
 |flt _=>obtain⟨t,rfl⟩:=r;rfl
 |ref _=>cases r;rfl
 |ty _=>cases r;rfl
def RelV.inj(r:RelV x u)(q:RelV y u):x=y:=zzZ<|r.abs.symm.trans q.abs
theorem zU.inj:∀{xs ys:List V}{us:List Value},zU xs us->zU ys us->xs=ys
 |_,_,_,.nil,.nil=>rfl
 |_,_,_,.cons r t,.cons r' t'=>by rw[r.inj r',zU.inj t t']
section
variable{X:Cx}{pins:List (Addr×Obj)}{σ:St}{H:Hp}{s:Shared}{a:Addr}{xs ys:List V}
def Inv.list(I:Inv X pins σ H s)(h:X3 X.K H a xs):∃its:List Value,zU xs its/\PlainL s.heap a its.toArray/\xs.length<=sizeLine:=by
 rcases h with h|⟨o,its,n,hk,hc,hd,hs,hz,r⟩
 . obtain⟨z,its,n,r,e⟩:=h.ok I.hok;exact⟨its,r,⟨_,n,e,rfl,rfl,rfl⟩,z⟩
 . refine⟨its.toList,r,⟨o,n,I.kIn a o hk,hc,hd,by simpa using hs⟩, ?_⟩;have e:=r.length;simp at e;omega
def Inv.tuple(I:Inv X pins σ H s)(h:VP X.K H a xs):∃its:List Value,zU xs its/\IsTup s.heap a its.toArray/\xs.length<=sizeLine:=by
 rcases h with h|⟨o,its,n,hk,hc,hs,hz,r⟩
 . obtain⟨z,its,r,p⟩:=h.ok I.hok;exact⟨its,r,p,z⟩
 . refine⟨its.toList,r,⟨o,I.kIn a o hk,hc,n,by simpa using hs⟩, ?_⟩;have e:=r.length;simp at e;omega
def Inv.list_inj(I:Inv X pins σ H s)(h:X3 X.K H a xs)(h':X3 X.K H a ys):xs=ys:=by
 obtain⟨its,r,⟨o,n,e,_,_,d⟩,_⟩:=I.list h;obtain⟨its',r',⟨o',n',e',_,_,d'⟩,_⟩:=I.list h';rw[e]at e';cases e';rw[d]at d';injection d' with d1 _
 have:its=its':=by simpa using congrArg Array.toList d1
 subst this;exact r.inj r'
def Inv.tuple_inj(I:Inv X pins σ H s)(h:VP X.K H a xs)(h':VP X.K H a ys):xs=ys:=by
 obtain⟨its,r,⟨o,e,_,n,d⟩,_⟩:=I.tuple h;obtain⟨its',r',⟨o',e',_,n',d'⟩,_⟩:=I.tuple h';rw[e]at e';cases e';rw[d]at d';injection d' with d1 _
 have:its=its':=by simpa using congrArg Array.toList d1
 subst this;exact r.inj r'
end
noncomputable abbrev Cx.wish(X:Cx)(E:Value->Shared->Prop):Cx:={X with xe:=E}
noncomputable abbrev Cx.nox(X:Cx):Cx:=X.wish λ_ _=>False
theorem Cx.Ok.wish{X:Cx}(ok:X.Ok)(E):(X.wish E).Ok:=
 ⟨ok.mod,ok.kind,ok.glob,ok.blt,ok.above,ok.inj,ok.has,ok.cab,ok.hd,ok.frames,ok.stk,ok.exf,ok.bs,ok.bsz,ok.noex,ok.exfs,ok.funs,ok.frf⟩
def Cx.Ok.unwish{X:Cx}{E}(ok:(X.wish E).Ok):X.Ok:=
 ⟨ok.mod,ok.kind,ok.glob,ok.blt,ok.above,ok.inj,ok.has,ok.cab,ok.hd,ok.frames,ok.stk,ok.exf,ok.bs,ok.bsz,ok.noex,ok.exfs,ok.funs,ok.frf⟩
section
variable{X:Cx}{pins:List (Addr×Obj)}{σ:St}{H:Hp}{s:Shared}{E:Value->Shared->Prop}
theorem Inv.wish(I:Inv X pins σ H s)(E:Value->Shared->Prop):Inv (X.wish E) pins σ H s:=⟨I.ok.wish E,I.os,I.bare,I.base,I.loc,I.cell,I.free,I.freeC,I.pin,I.hok,I.len⟩
theorem Inv.unwish(I:Inv (X.wish E) pins σ H s):Inv X pins σ H s:=⟨I.ok.unwish,I.os,I.bare,I.base,I.loc,I.cell,I.free,I.freeC,I.pin,I.hok,I.len⟩
theorem SP.unwish(h:SP (X.wish E) pins D f s'):SP X pins D f s':=by
 cases f with
 |next=>obtain⟨σ',H',I,q⟩:=h;exact⟨σ',H',I.unwish,q⟩
 |brk=>obtain⟨σ',H',I,q⟩:=h;exact⟨σ',H',I.unwish,q⟩
 |cont=>obtain⟨σ',H',I,q⟩:=h;exact⟨σ',H',I.unwish,q⟩
 |ret u=>obtain⟨v,σ',H',I,r,q⟩:=h;exact⟨v,σ',H',I.unwish,r,q⟩
theorem NH.nox{st t}(h:NH X.nox st t):NH X st t:=λpins s σ H D I hw=>
 zxK (h pins s σ H D (I.wish _) hw) (λ_ _ q=>q.unwish) λ_ _ z=>False.elim z
end
section
variable{X:Cx}{st:Stmt}{rest:List Stmt}{t u:TS}{e:Expr}{te:TE}{pos:Pos}
def qY:TS:=λD σ H=>D.nx σ H
def km(t u:TS):TS:=λD σ H=>t {D with nx:=u D} σ H
def Br:NH X [] qY:=λ_ _ σ H _ I h=>wpAny_execs_nil ⟨σ,H,I,h⟩
def V9(h1:PS X st t)(h2:NH X rest u):NH X (st::rest) (km t u):=by
 intro pins s σ H D I h;refine wpAny_execs_cons<|wD (h1 pins s σ H {D with nx:=u D} I h) λf s1 q=>?_;cases f with
 |next=>
  obtain⟨σ',H',I',q⟩:=q;exact h2 pins s1 σ' H' D I' q
 |ret v=>exact q
 |brk=>exact q
 |cont=>exact q
def Pb(h1:PS X st t):NH X [st] t:=by
 intro pins s σ H D I h;refine wpAny_execs_cons<|wD (h1 pins s σ H D I h) λf s1 q=>?_;cases f with
 |next=>exact wpAny_execs_nil q
 |ret v=>exact q
 |brk=>exact q
 |cont=>exact q
def Inv.quiet(I:Inv X pins σ H s):interactive X.env=false:=by simp[interactive,I.ok.kind]
def pB(te:TE):TS:=λD σ H=>te σ H λ_ H1=>D.nx σ H1
def RU(he:PE X e te)(hs:swapsWith e none pos.line X.env=pure false:=by rfl):PS X (.Expr e pos) (pB te):=by
 intro pins s σ H D I h;exact wpAny_Expr_any (wD (he pins s σ H _ I h) λv s1 ⟨x,H1,I1,r1,q1⟩=>⟨σ,H1,I1,q1⟩) I.quiet hs
def je(te:TE):TS:=λD σ H=>te σ H D.rt
def Ov(he:PE X e te):PS X (.Return (some e) pos) (je te):=by
 intro pins s σ H D I h;exact wpAny_Return_some<|wD (he pins s σ H _ I h) λv s1 ⟨x,H1,I1,r1,q1⟩=>⟨x,σ,H1,I1,r1,q1⟩
def kL(c:TT)(t u:TS):TS:=λD σ H=>c σ H λb H1=>if b=true then t D σ H1 else u D σ H1
def D2(hc:PT X c tc)(ha:NH X a t)(hb:NH X b u):PS X (.If c a b pos) (kL tc t u):=by
 intro pins s σ H D I h;refine wpAny_If<|wD (hc pins s σ H _ I h) λd s1 ⟨H1,I1,q1⟩=>?_;cases d with
 |true=>exact ha pins s1 σ H1 D I1 q1
 |false=>exact hb pins s1 σ H1 D I1 q1
end
abbrev TG:=V->St->Hp->(St->Hp->Prop)->Prop
abbrev tM:=List V->St->Hp->(St->Hp->Prop)->Prop
def PG(X:Cx)(target:Expr)(t:TG):Prop:=
 ∀(pins:List (Addr×Obj)) (s:Shared) (σ:St) (H:Hp) (v:V) (u:Value) (Q:St->Hp->Prop),Inv X pins σ H s->RelV v u->t v σ H Q->
  wpAny (model X.prog X.w) X.A (assign target X.env u) (λ_ s'=>∃σ' H',Inv X pins σ' H' s'/\Q σ' H') X.xe s
def D6(X:Cx)(ts:List Expr)(t:tM):Prop:=
 ∀(pins:List (Addr×Obj)) (s:Shared) (σ:St) (H:Hp) (vs:List V) (us:List Value) (Q:St->Hp->Prop),Inv X pins σ H s->zU vs us->t vs σ H Q->
  wpAny (model X.prog X.w) X.A (assignInOrder ((assignEach ts X.env).map (·.2)) us) (λ_ s'=>∃σ' H',Inv X pins σ' H' s'/\Q σ' H') X.xe s
section
variable{X:Cx}{pos:Pos}
def Bm(i:Nat):TG:=λv σ H Q=>Q (σ.set i<|some v) H
def Dk(hN:X.N.Nodup)(hi:X.N[i]? = some x)(hx:Loc X.env.scope x)(hf:X.fn x=true\/X.env.scope.names.lookup x=some .local:=by first|exact .inl rfl|exact .inr rfl|assumption):PG X (.Name x pos) (Bm i):=by
 intro pins s σ H v u Q I r h;exact wpAny_assign_Name<|MY I hN hi hx r (λs' I'=>⟨_,H,I',h⟩) hf
def jC:tM:=λvs σ H Q=>vs=[]/\Q σ H
def oQ(t:TG)(u:tM):tM:=λvs σ H Q=>∃v r,vs=v::r/\t v σ H λσ' H'=>u r σ' H' Q
def IM:D6 X [] jC:=by
 intro pins s σ H vs us Q I r h;obtain⟨e,h⟩:=h;subst e;exact assignInOrder_nil ⟨σ,H,I,h⟩
def CC(h1:PG X e t)(h2:D6 X es u)
 (hs:(assignEach (e::es) X.env).map (·.2)=assign e X.env::(assignEach es X.env).map (·.2):=by rfl):D6 X (e::es) (oQ t u):=by
 intro pins s σ H vs us Q I r h;obtain⟨v,vr,e1,h⟩:=h;subst e1;cases r with
 |cons r rr=>
  rw[hs];refine assignInOrder_cons<|wD (h1 pins s σ H _ _ _ I r h) λ_ s1 ⟨σ1,H1,I1,q1⟩=>?_;exact h2 pins s1 σ1 H1 _ _ Q I1 rr q1
def ju(K:zzA)(n:Nat)(t:tM):TG:=λv σ H Q=>∃a xs,v = .ref a/\VP K H a xs/\xs.length=n/\t xs σ H Q
def s_(hc:X.calm=true)(h:D6 X es t)
 (hn:(assignEach es X.env).length=n:=by rfl) (hst:(assignEach es X.env).findIdx? (·.1)=none:=by rfl):PG X (.Tuple es k pos) (ju X.K n t):=by
 intro pins s σ H v u Q I r hw;obtain⟨a,xs,e1,hq,hl,hw⟩:=hw;subst e1;cases r;obtain⟨its,rv,ht,hz⟩:=I.tuple hq;refine assign_Tuple_tuple (I.ok.hd hc) ht (by simp[hn,<-hl,rv.length]) hst λh' hx=>?_;have I1:=I.kept (t':=s.toks) λb o e=>hx b o (zzQ<|zxG e) e;exact h pins _ σ H xs _ Q I1 (by simpa using rv) hw
def sY(te:TE)(g:TG):TS:=λD σ H=>te σ H λx H1=>g x σ H1 D.nx
def Cf(he:PE X e te)(hg:PG X tg g)(hs:swapsWithSole [tg] e pos.line X.env=pure false:=by rfl)(hw:swappedStores [tg] e X.env=pure none:=by rfl)
 (h1:(assignEach [tg] X.env).map (·.2)=[assign tg X.env]:=by rfl):PS X (.Assign [tg] e pos) (sY te g):=by
 intro pins s σ H D I h;refine wpAny_Assign_stores (wD (he pins s σ H _ I h) λv s1 ⟨x,H1,I1,r1,q1⟩=>?_) hs hw;rw[h1];exact wD (hg pins s1 σ H1 x v _ I1 r1 q1) λ_ s2 q=>q
def OX(hN:X.N.Nodup)(hi:X.N[i]? = some x)(hx:Loc X.env.scope x)(he:PE X e te)(hs:swapsWith e (some<|.Name x pos') pos.line X.env=pure false:=by rfl)(hf:X.fn x=true\/X.env.scope.names.lookup x=some .local:=by first|exact .inl rfl|exact .inr rfl|assumption):
 PS X (.Assign [.Name x pos'] e pos) (sY te<|Bm i):=by
 intro pins s σ H D I h;refine wpAny_Assign_Name (wD (he pins s σ H _ I h) λv s1 ⟨y,H1,I1,r1,q1⟩=>?_) hs;exact MY I1 hN hi hx r1 (λs2 I2=>⟨_,H1,I2,q1⟩) hf
end
structure It where
 go:Nat->Hp->Prop
 yld:Nat->Hp->V->Hp->Prop
 stop:Nat->Hp->Prop
def RG(X:Cx)(pins:List (Addr×Obj))(H:Hp)(b:Addr):Prop:=
 H b=none/\b≠X.env.locals/\b ∉ X.fs/\(b ∈ X.ex\/X.s₀.heap.objs.size<=b)/\(∀x c,X.env.cells.lookup x=some c->c≠b)/\∀p ∈ X.pn++pins,p.1≠b
def Inv.fpOk(I:Inv X pins σ H s)(hb:s.heap.objs.size<=b)(hn:H' b=none):RG X pins H' b:=by
 refine⟨hn,Nat.ne_of_gt<|zzK I.lt hb,I.nofs hb,.inr<|zzO I.sz hb,λx c e z=>?_,λp hp z=>?_⟩
 . obtain⟨v,q⟩:=I.cell x c e;exact absurd (zzK q.lt<|by rwa [z])<|Nat.lt_irrefl _
 . exact absurd (zzK (zxG (I.pin p hp).1)<|by rwa [z])<|Nat.lt_irrefl _
structure Turn(P:Program)(w:World)(K:zzA)(tg:Expr)(J:It)(fp:List Addr)(it:Addr)(tn:Nat->Heap->Prop):Prop where
 mem:it ∈ fp
 obj:∀i h,tn i h->∀b ∈ fp,∃o,h.get? b=some o/\∀v,o.data ≠ .cell v
 keep:∀i h h',tn i h->(∀b ∈ fp,∀o,h.get? b=some o->h'.get? b=some o)->tn i h'
 item:∀(X:Cx),X.prog=P->X.w=w->X.K=K->X.calm=true->∀(i:Nat) (pins:List (Addr×Obj)) (s:Shared) (σ:St) (H:Hp) (E:Value->Shared->Prop),Inv X pins σ H s->(∀b ∈ fp,RG X pins H b)->tn i s.heap->J.go i H->
  wpAny (model P w) X.A (pyNext<|.ref it) (λr s1=>∃u,r=some u/\
   wpAny (model P w) X.A (letOwnedTupleGo tg (.ref it) u) (λ_ s2=>∃x H',Inv X pins σ H' s2/\RelV x u/\J.yld i H x H'/\tn (i+1) s2.heap/\∀b ∈ fp,H' b=none) E s1) E s
 done:∀(X:Cx),X.prog=P->X.w=w->X.K=K->X.calm=true->∀(i:Nat) (pins:List (Addr×Obj)) (s:Shared) (σ:St) (H:Hp) (E:Value->Shared->Prop),Inv X pins σ H s->(∀b ∈ fp,RG X pins H b)->tn i s.heap->J.stop i H->
  wpAny (model P w) X.A (pyNext<|.ref it) (λr s1=>r=none/\Inv X pins σ H s1) E s
 self:∀(A:Around) (i:Nat) (s:Shared) (Q:Value->Shared->Prop) (E:Value->Shared->Prop),tn i s.heap->Q (.ref it) s->wpAny (model P w) A (pyIter<|.ref it) Q E s
abbrev TI:=St->Hp->(It->Hp->Prop)->Prop
def iG(X:Cx)(pins:List (Addr×Obj))(σ:St)(tg:Expr)(R:It->Hp->Prop)(itv:Value)(s2:Shared):Prop:=
 ∃(it:Addr) (fp:List Addr) (tn:Nat->Heap->Prop) (J:It) (H':Hp),itv = .ref it/\Inv X pins σ H' s2/\Turn X.prog X.w X.K tg J fp it tn/\tn 0 s2.heap/\(∀b ∈ fp,RG X pins H' b)/\R J H'
def PI(X:Cx)(tg iter:Expr)(wi:TI):Prop:=
 ∀(pins:List (Addr×Obj)) (s:Shared) (σ:St) (H:Hp) (R:It->Hp->Prop),Inv X pins σ H s->wi σ H R->
  wpAny (model X.prog X.w) X.A (eval iter X.env) (λv s1=>wpAny (model X.prog X.w) X.A (pyIter v) (iG X pins σ tg R) X.xe s1) X.xe s
def Ba(ho:s.heap.get? it=some o)(hc:o.cls = .type n)(hd:o.data = .fields vs)
 (hn : ["enumerate","zip","dict_itemiterator","dict_reverseitemiterator","odict_iterator","itertools.zip_longest","itertools.pairwise"].contains n=false) (hQ:Q () s):wpAny M A (letOwnedTupleGo tg (.ref it) u) Q E s:=by
 cases tg<;>first
  |exact zxE hQ
  |(cases u<;>first
   |exact zxE hQ
   | (refine zxD (wpAny_load ho ?_)
      rw[hc,hd];show wpAny M A (if _=true then _ else _) Q E s;rw[if_neg (by intro h;rw[hn]at h;cases h)];exact zxE hQ))
noncomputable def lQ(K:zzA)(a:Addr):It:=
 ⟨λi H=>∃xs x,X3 K H a xs/\xs[i]? = some x,λi H x H'=>H'=H/\∀xs,X3 K H a xs->xs[i]? = some x,λi H=>∃xs,X3 K H a xs/\xs.length<=i⟩
noncomputable def lE(K:zzA)(a:Addr):It:=
 ⟨λi H=>∃xs x,VP K H a xs/\xs[i]? = some x,λi H x H'=>H'=H/\∀xs,VP K H a xs->xs[i]? = some x,λi H=>∃xs,VP K H a xs/\xs.length<=i⟩
noncomputable def rX(lo:Int)(n:Nat):It:=⟨λi _=>i<n,λi H x H'=>H'=H/\x = .int (lo+i),λi _=>n<=i⟩
def SI{P w K tg}(a it):Turn P w K tg (lQ K a) [it] it (λi h=>h.IsListIter it a i)where
 mem:=by simp
 obj:=λi h st b hb=>by
  have e:b=it:=by simpa using hb
  subst e;obtain⟨o,e,c,d⟩:=st;exact⟨o,e,λv z=>by rw[d]at z;cases z⟩
 keep:=λi h h' st k=>st.at λo e=>k it (by simp) o e
 item:=by
  intro X hP hw hK hc i pins s σ H E I hf st hg;subst hP hw hK;obtain⟨xs,x,hq,hx⟩:=hg;obtain⟨its,rv,p,hz⟩:=I.list hq;obtain⟨u,hu,ru⟩:=rv.get hx;obtain⟨f0,f1,f2,f3,f4,f5⟩:=hf it (by simp);refine wpAny_pyNext_list_item st p.isList (by simpa using hu) λh' st' sb=>?_;have I1:=I.turned (t':=s.toks) (λb o hb e=>(sb.2 b hb).trans e) f0 f1 f3 f4 f5;obtain⟨o,e,c,d⟩:=id st';exact⟨u,rfl,Ba e c d (by decide) ⟨x,H,I1,ru,⟨rfl,λys hy=>by rwa [I.list_inj hy hq]⟩,st',λb hb=>(hf b hb).1⟩⟩
 done:=by
  intro X hP hw hK hc i pins s σ H E I hf st hg;subst hP hw hK;obtain⟨xs,hq,hx⟩:=hg;obtain⟨its,rv,p,hz⟩:=I.list hq;obtain⟨f0,f1,f2,f3,f4,f5⟩:=hf it (by simp);have hl:=rv.length;exact wpAny_pyNext_list_end (I.ok.hd hc) st p.isList (by simp;exact q0f hl hx) λh' eb=>⟨rfl,I.turned (t':=s.toks) (λb o hb e=>eb b o hb e) f0 f1 f3 f4 f5⟩
 self:=λ_ _ _ _ _ st h=>wpAny_pyIter_listiter st h
def Fe{P w K tg}(a it):Turn P w K tg (lE K a) [it] it (λi h=>h.IsTupleIter it a i)where
 mem:=by simp
 obj:=λi h st b hb=>by
  have e:b=it:=by simpa using hb
  subst e;obtain⟨o,e,c,d⟩:=st;exact⟨o,e,λv z=>by rw[d]at z;cases z⟩
 keep:=λi h h' st k=>st.at λo e=>k it (by simp) o e
 item:=by
  intro X hP hw hK hc i pins s σ H E I hf st hg;subst hP hw hK;obtain⟨xs,x,hq,hx⟩:=hg;obtain⟨its,rv,p,hz⟩:=I.tuple hq;obtain⟨u,hu,ru⟩:=rv.get hx;obtain⟨f0,f1,f2,f3,f4,f5⟩:=hf it (by simp);refine wpAny_pyNext_tuple_item st (p) (by simpa using hu) λh' st' sb=>?_;have I1:=I.turned (t':=s.toks) (λb o hb e=>(sb.2 b hb).trans e) f0 f1 f3 f4 f5;obtain⟨o,e,c,d⟩:=id st';exact⟨u,rfl,Ba e c d (by decide) ⟨x,H,I1,ru,⟨rfl,λys hy=>by rwa [I.tuple_inj hy hq]⟩,st',λb hb=>(hf b hb).1⟩⟩
 done:=by
  intro X hP hw hK hc i pins s σ H E I hf st hg;subst hP hw hK;obtain⟨xs,hq,hx⟩:=hg;obtain⟨its,rv,p,hz⟩:=I.tuple hq;obtain⟨f0,f1,f2,f3,f4,f5⟩:=hf it (by simp);have hl:=rv.length;exact wpAny_pyNext_tuple_end (I.ok.hd hc) st (p) (by simp;exact q0f hl hx) λh' eb=>⟨rfl,I.turned (t':=s.toks) (λb o hb e=>eb b o hb e) f0 f1 f3 f4 f5⟩
 self:=λ_ _ _ _ _ st h=>wpAny_pyIter_tupleiter st h
def Ew{P w K tg}(it)(lo)(n:Nat):Turn P w K tg (rX lo n) [it] it (λi h=>IsRangeIter h it (lo+(i:Nat)*1) ((n:Int)-(i:Nat)) 1)where
 mem:=by simp
 obj:=λi h st b hb=>by
  have e:b=it:=by simpa using hb
  subst e;exact⟨_,st,λv z=>by
   have z':Data.fields _=Data.cell v:=z;cases z'⟩
 keep:=λi h h' st k=>k it (by simp) _ st
 item:=by
  intro X hP hw hK hc i pins s σ H E I hf st hg;subst hP hw hK;obtain⟨f0,f1,f2,f3,f4,f5⟩:=hf it (by simp);have W:=Walks.range (prog:=X.prog) (w:=X.w) (I.ok.hd hc) it lo 1 n;refine W.item i s _ _ hg st λv h' tk hv st' kk=>?_;obtain⟨t,rfl⟩:=hv;have I1:Inv X pins σ H {s with heap:=h',toks:=tk}:=I.turned (λb o hb e=>kk b o (by simpa using hb) e) f0 f1 f3 f4 f5;refine⟨_,rfl,Ba st' rfl rfl (by decide) ⟨.int _,H,I1,⟨t, ?_⟩,⟨rfl,rfl⟩,st',λb hb=>(hf b hb).1⟩⟩;rw[Int.mul_one]
 done:=by
  intro X hP hw hK hc i pins s σ H E I hf st hg;subst hP hw hK;obtain⟨f0,f1,f2,f3,f4,f5⟩:=hf it (by simp);exact wpAny_pyNext_range_end (I.ok.hd hc) st (by have:n<=i:=hg;omega) λh' eb=>⟨rfl,I.turned (t':=s.toks) (λb o hb e=>eb b o hb e) f0 f1 f3 f4 f5⟩
 self:=λ_ _ _ _ _ st h=>wpAny_pyIter_rangeiter st h
end L2
namespace L2
open PySem PySem.Spec PyProof.Rows
section
variable{X:Cx}{tg:Expr}
def mV(K:zzA)(tl:TE):TI:=λσ H R=>tl σ H λx H1=>∃a,x = .ref a/\(∃xs,X3 K H1 a xs)/\R (lQ K a) H1
def kW(K:zzA)(tl:TE):TI:=λσ H R=>tl σ H λx H1=>∃a,x = .ref a/\(∃xs,VP K H1 a xs)/\R (lE K a) H1
def LA{l tl}(hl:PE X l tl):PI X tg l (mV X.K tl):=by
 intro pins s σ H R I h;refine wD (hl pins s σ H _ I h) λv s1 ⟨x,H1,I1,r1,q1⟩=>?_;obtain⟨a,e,⟨xs,hq⟩,q⟩:=q1;subst e;cases r1;obtain⟨its,rv,p,hz⟩:=I1.list hq;refine wpAny_pyIter_list p.isList ?_;refine⟨s1.heap.objs.size,[s1.heap.objs.size],_,_,H1,rfl,I1.kept (t':=s1.toks) λb o e=>zxF _ e,SI a _,⟨_,zxH _ rfl,rfl,rfl⟩,λb hb=>?_,q⟩;have e:b=s1.heap.objs.size:=by simpa using hb
 subst e;exact I1.fpOk (zzN _)<|I1.hok.fresh<|zzN _
def EV{l tl}(hl:PE X l tl):PI X tg l (kW X.K tl):=by
 intro pins s σ H R I h;refine wD (hl pins s σ H _ I h) λv s1 ⟨x,H1,I1,r1,q1⟩=>?_;obtain⟨a,e,⟨xs,hq⟩,q⟩:=q1;subst e;cases r1;obtain⟨its,rv,p,hz⟩:=I1.tuple hq;refine wpAny_pyIter_tuple (p) ?_;refine⟨s1.heap.objs.size,[s1.heap.objs.size],_,_,H1,rfl,I1.kept (t':=s1.toks) λb o e=>zxF _ e,Fe a _,⟨_,zxH _ rfl,rfl,rfl⟩,λb hb=>?_,q⟩;have e:b=s1.heap.objs.size:=by simpa using hb
 subst e;exact I1.fpOk (zzN _)<|I1.hok.fresh<|zzN _
def ME{pins σ H s R E lo hi t u v}{tk:Nat}(I:Inv X pins σ H s)(h1 : -(2 ^ 62)<=lo)(h2:lo<2 ^ 62)(h3 : -(2 ^ 62)<=hi)(h4:hi<2 ^ 62)
 (q:R (rX lo (hi-lo).toNat) H):wpAny (model X.prog X.w) X.A (pyIter<|.ref s.heap.objs.size) (iG X pins σ tg R) E {s with heap:=s.heap.push {cls:=.type "range",data:=.fields #[.int lo t,.int hi u,.int 1 v]},toks:=tk}:=by
 refine wpAny_pyIter_range (IsRange.new ..) (small_one h1 h2 h3 h4) ?_;have I1:Inv X pins σ H {s with heap:=s.heap.push {cls:=.type "range",data:=.fields #[.int lo t,.int hi u,.int 1 v]},toks:=tk}:=I.kept λb o e=>zxF _ e;refine⟨(s.heap.push {cls:=.type "range",data:=.fields #[.int lo t,.int hi u,.int 1 v]}).objs.size,[(s.heap.push {cls:=.type "range",data:=.fields #[.int lo t,.int hi u,.int 1 v]}).objs.size],_,_,H,rfl,
  I1.kept (t':=tk) λb o e=>zxF _ e,Ew _ lo (hi-lo).toNat, ?_,λb hb=>?_,q⟩
 . have e1:lo+((0:Nat):Int)*1=lo:=by simp
   have e2:(((hi-lo).toNat:Nat):Int)-((0:Nat):Int)=Builtin.Range.rangeSize lo hi 1:=by rw[rangeSize_one];split<;>omega
   rw[e1,e2];exact zxH _ rfl
 . have e:b=(s.heap.push {cls:=.type "range",data:=.fields #[.int lo t,.int hi u,.int 1 v]}).objs.size:=by simpa using hb
   subst e;exact I1.fpOk (zzN _)<|I1.hok.fresh<|zzN _
def mQ(ta:TA):TI:=λσ H R=>ta σ H λvs H1=>∃j:Int,vs=[.int j] /\ -(2 ^ 62)<=j/\j<2 ^ 62/\R (rX 0 j.toNat) H1
def nR(ta:TA):TI:=λσ H R=>ta σ H λvs H1=>∃i j:Int,vs=[.int i,.int j]/\(-(2 ^ 62)<=i/\i<2 ^ 62 /\ -(2 ^ 62)<=j/\j<2 ^ 62)/\R (rX i (j-i).toNat) H1
def Kt{a ta p pos}(hg:Gl X "range")(hm:X.mg "range"=none)(ha:PA X [a] ta)(hs:starEach [a] X.env=[(false,eval a X.env)]:=by rfl):PI X tg (.Call (.Name "range" p) [a] [] pos) (mQ ta):=by
 intro pins s σ H R I h;refine Call_<|Yy I hg hm boot_range<|PyProof.Rows.callWith_type1 (wD (ha pos pins s σ H _ I h) λus s1 ⟨vs,H1,I1,r1,q1⟩=>?_) hs rfl;obtain⟨j,e,q1,q2,q⟩:=q1;subst e;cases r1 with
 |cons r rr=>
  cases rr;obtain⟨t,rfl⟩:=r;exact call_range_1 (ME I1 (by omega) (by omega) q1 q2<|by simpa using q)
def Sf(hg:Gl X "range")(hm:X.mg "range"=none)(ha:PA X [a,b] ta)(hs:starEach [a,b] X.env=[(false,eval a X.env),(false,eval b X.env)]:=by rfl)(hs2:starEach [b] X.env=[(false,eval b X.env)]:=by rfl):
 PI X tg (.Call (.Name "range" p) [a,b] [] pos) (nR ta):=by
 intro pins s σ H R I h;refine Call_ (Yy I hg hm boot_range<|PyProof.Rows.callWith_type1 (wD (ha pos pins s σ H _ I h) λus s1 ⟨vs,H1,I1,r1,q1⟩=>?_) (by rw[hs,hs2])<|by rw[hs2];rfl);obtain⟨i,j,e,⟨q1,q2,q3,q4⟩,q⟩:=q1;subst e;cases r1 with
 |cons r rr=>
  cases rr with
  |cons r' rr=>
   cases rr;obtain⟨t,rfl⟩:=r;obtain⟨t',rfl⟩:=r';exact call_range_2<|ME I1 q1 q2 q3 q4 q
def jN(wi:TI)(g:TG)(tb:TS):TS:=λD σ H=>wi σ H λJ H1=>∃W:Nat->Nat->St->Hp->Prop,(∃m,W 0 m σ H1)/\∀i m σ H,W i m σ H->
 (J.stop i H/\D.nx σ H)\/(J.go i H/\∃N:St->Hp->Prop,(∀σ' H',N σ' H'->∃m',m'<m/\W (i+1) m' σ' H')/\∀x H',J.yld i H x H'->g x σ H' λσ2 H2=>tb {D with nx:=N,ct:=N,bk:=D.nx} σ2 H2)
noncomputable def E_(fp:List Addr)(h:Heap):List (Addr×Obj):=fp.filterMap λb=>(h.get? b).map λo=>(b,o)
def Y0(hb:b ∈ fp)(e:h.get? b=some o):(b,o) ∈ E_ fp h:=List.mem_filterMap.mpr ⟨b,hb,by rw[e];rfl⟩
def S8(hp:p ∈ E_ fp h):p.1 ∈ fp/\h.get? p.1=some p.2:=by
 obtain⟨b,hb,e⟩:=List.mem_filterMap.mp hp;cases q:h.get? b with
 |none=>rw[q]at e;cases e
 |some o=>
  rw[q]at e;have e':_=p:=zzZ e;subst e';exact⟨hb,q⟩
def Inv.pinned(I:Inv X pins σ H s)(hf:∀b ∈ fp,RG X pins H b)(ho:∀b ∈ fp,∃o,s.heap.get? b=some o/\∀v,o.data ≠ .cell v):Inv X (pins++E_ fp s.heap) σ H s:=
 I.pins_of λp hp=>(zzM.mp hp).elim (λz=>I.pin p<|zzL _ z) λz=>by
  obtain⟨hb,e⟩:=S8 z;obtain⟨f0,f1,f2,_⟩:=hf p.1 hb;obtain⟨o,e',d⟩:=ho p.1 hb;rw[e]at e';cases e';exact⟨e,f0,f1,f2,d⟩
def Inv.unpinned(I:Inv X (pins++pl) σ H s):Inv X pins σ H s:=I.pins_of λp hp=>I.pin p<|zzL _<|zzP _ hp
def OM(hp:PassesOwn (model X.prog X.w) X.A X.env X.xe)(hc:X.calm=true)(hi:PI X tg iter wi)(hg:PG X tg g)(hb:NH X body tb)
 (hs:∀x,foldedSetIterable iter X.env x=pure x:=by intro _;rfl):PS X (.For tg iter body [] pos) (jN wi g tb):=by
 intro pins s σ H D I h;refine wpAny_For (wD (hi pins s σ H _ I h) λv s1 h1=>wD h1 λitv s2 h2=>?_) hs;obtain⟨it,fp,tn,J,H2,e,I2,T,st2,f2,W,⟨m0,w0⟩,turn⟩:=h2;subst e;have stat:∀{H':Hp},(∀b ∈ fp,H' b=none)->∀b ∈ fp,RG X pins H' b:=λhn b hb=>⟨hn b hb,(f2 b hb).2⟩;refine codeAny_forLoop_any (λn s'=>∃i σ' H',Inv X pins σ' H' s'/\tn i s'.heap/\(∀b ∈ fp,H' b=none)/\W i n σ' H') ?_ m0 ⟨0,σ,H2,I2,st2,λb hb=>(f2 b hb).1,w0⟩
 rintro n s3 ⟨i,σ3,H3,I3,st3,fr3,w3⟩
 rcases turn i n σ3 H3 w3 with⟨stop,qn⟩|⟨go,N,hN,step⟩
 . refine wpAny_passesOwn hp<|wD (T.done X rfl rfl rfl hc i pins s3 σ3 H3 X.xe I3 (stat fr3) st3 stop) λr s4 ⟨hr,I4⟩=>?_;subst hr;exact wpAny_execs_nil ⟨σ3,H3,I4,qn⟩
 . refine wpAny_passesOwn hp<|wD (T.item X rfl rfl rfl hc i pins s3 σ3 H3 X.xe I3 (stat fr3) st3 go) λr s4 ⟨u,hr,h4⟩=>?_;subst hr;refine wpAny_passesOwn hp<|wD h4 λ_ s5 ⟨x,H5,I5,r5,y5,st5,fr5⟩=>?_;have I5':=I5.pinned (stat fr5)<|T.obj _ _ st5;refine wpAny_passesOwn hp<|wD (hg _ s5 σ3 H5 x u _ I5' r5<|step x H5 y5) λ_ s6 ⟨σ6,H6,I6,q6⟩=>?_;refine wpAny_passesOwn hp<|wD (hb _ s6 σ6 H6 _ I6 q6) λf s7 q7=>?_;have again:∀{σ7:St}{H7:Hp},Inv X _ σ7 H7 s7->N σ7 H7->∃m,m<n/\∃i σ' H',Inv X pins σ' H' s7/\tn i s7.heap/\(∀b ∈ fp,H' b=none)/\W i m σ' H':=λ{σ7 H7} I7 n7=>by
    obtain⟨m',hm,w7⟩:=hN σ7 H7 n7;refine⟨m',hm,i+1,σ7,H7,I7.unpinned,T.keep _ _ _ st5 λb hb o e=>(I7.pin (b,o)<|zzL _<|zzL _<|Y0 hb e).1,λb hb=>?_,w7⟩;obtain⟨o,e,d⟩:=T.obj _ _ st5 b hb;exact(I7.pin (b,o)<|zzL _<|zzL _<|Y0 hb e).2.1
   cases f with
   |next=>obtain⟨σ7,H7,I7,n7⟩:=q7;exact again I7 n7
   |cont=>obtain⟨σ7,H7,I7,n7⟩:=q7;exact again I7 n7
   |brk=>obtain⟨σ7,H7,I7,q7⟩:=q7;exact⟨σ7,H7,I7.unpinned,q7⟩
   |ret v=>obtain⟨x7,σ7,H7,I7,r7,q7⟩:=q7;exact⟨x7,σ7,H7,I7.unpinned,r7,q7⟩
end
end L2
namespace L2
open PySem PySem.Spec PyProof.Rows
abbrev R2:=V->V->Hp->VK->Prop
def Ux(X:Cx)(f:Value->Value->Sem Value)(r:R2):Prop:=
 ∀(pins:List (Addr×Obj)) (s:Shared) (σ:St) (H:Hp) (x y:V) (v u:Value) (Q:VK),Inv X pins σ H s->RelV x v->RelV y u->r x y H Q->
  wpAny (model X.prog X.w) X.A (f v u) (EP X pins σ Q) X.xe s
def lR(X:Cx)(f:Value->Sem Value)(r:V->Hp->VK->Prop):Prop:=
 ∀(pins:List (Addr×Obj)) (s:Shared) (σ:St) (H:Hp) (x:V) (v:Value) (Q:VK),Inv X pins σ H s->RelV x v->r x H Q->
  wpAny (model X.prog X.w) X.A (f v) (EP X pins σ Q) X.xe s
def Yr(X:Cx)(f:Value)(r:List V->Hp->VK->Prop):Prop:=
 ∀(pins:List (Addr×Obj)) (s:Shared) (σ:St) (H:Hp) (xs:List V) (us:List Value) (Q:VK),Inv X pins σ H s->zU xs us->r xs H Q->
  wpAny (model X.prog X.w) X.A (call f us) (EP X pins σ Q) X.xe s
def kB(X:Cx)(r:V->Hp->(Bool->Hp->Prop)->Prop):Prop:=
 ∀(pins:List (Addr×Obj)) (s:Shared) (σ:St) (H:Hp) (x:V) (v:Value) (Q:Bool->Hp->Prop),Inv X pins σ H s->RelV x v->r x H Q->
  wpAny (model X.prog X.w) X.A (truthy v) (TP X pins σ Q) X.xe s
def nt(r:R2)(ta tb:TE):TE:=λσ H Q=>ta σ H λx H1=>tb σ H1 λy H2=>r x y H2 Q
def g_(r:V->Hp->VK->Prop)(ta:TE):TE:=λσ H Q=>ta σ H λx H1=>r x H1 Q
def rI(C:Int->Int->Prop)(g:Int->Int->V):R2:=λx y H Q=>∃i j,x = .int i/\y = .int j/\C i j/\Q (g i j) H
def D3(g:Int->Int->V):R2:=λx y H Q=>∃i j,x = .int i/\y = .int j/\Q (g i j) H
def rU(g:Int->V):V->Hp->VK->Prop:=λx H Q=>∃i,x = .int i/\Q (g i) H
section
variable{X:Cx}{a b c:Expr}{ta tb tc:TE}{pos:Pos}
def su(ha:PE X a ta)(hb:PE X b tb){pins s σ H}{R:V->V->Hp->Prop}(I:Inv X pins σ H s)
 (h:ta σ H λx H1=>tb σ H1 λy H2=>R x y H2) {Q:Value->Shared->Prop}{f:Value->Value->Sem Value}
 (hf:∀v u s2 x y H2,Inv X pins σ H2 s2->RelV x v->RelV y u->R x y H2->wpAny (model X.prog X.w) X.A (f v u) Q X.xe s2):
 wpAny (model X.prog X.w) X.A (eval a X.env) (λv s₁=>wpAny (model X.prog X.w) X.A (eval b X.env) (λu s₂=>wpAny (model X.prog X.w) X.A (f v u) Q X.xe s₂) X.xe s₁) X.xe s:=by
 refine wD (ha pins s σ H _ I h) λv s1 ⟨x,H1,I1,r1,q1⟩=>?_;refine wD (hb pins s1 σ H1 _ I1 q1) λu s2 ⟨y,H2,I2,r2,q2⟩=>?_;exact hf v u s2 x y H2 I2 r1 r2 q2
def oI{op}{r:R2}(ho:Ux X (binaryOp op) r)(ha:PE X a ta)(hb:PE X b tb):PE X (.BinOp a op b pos) (nt r ta tb):=by
 intro pins s σ H Q I h;exact wpAny_BinOp<|su ha hb I h λv u s2 x y H2 I2 rx ry q=>ho pins s2 σ H2 x y v u Q I2 rx ry q
def qr(ho:lR X (unaryOp op) r)(ha:PE X a ta):PE X (.UnaryOp op a pos) (g_ r ta):=by
 intro pins s σ H Q I h;exact UnaryOp_<|wD (ha pins s σ H _ I h) λv s1 ⟨x,H1,I1,r1,q1⟩=>ho pins s1 σ H1 x v Q I1 r1 q1
def iH{f C}{g:Int->Int->Int}
 (rule:∀(i j:Int) (t u:Tok) (s:Shared) (Q:Value->Shared->Prop) (E:Value->Shared->Prop),C i j->Q (.int (g i j) s.toks) {s with toks:=s.toks+1}->wpAny (model X.prog X.w) X.A (f (.int i t)<|.int j u) Q E s):
 Ux X f (rI C λi j=>.int<|g i j):=by
 intro pins s σ H x y v u Q I rx ry h;obtain⟨i,j,rfl,rfl,hc,q⟩:=h;obtain⟨t,rfl⟩:=rx;obtain⟨t',rfl⟩:=ry;exact rule i j t t' s _ _ hc ⟨.int _,H,I.tok _,⟨_,rfl⟩,q⟩
def mL{f}{g:Int->Int->Int}
 (rule:∀(i j:Int) (t u:Tok) (s:Shared) (Q:Value->Shared->Prop) (E:Value->Shared->Prop),Q (.int (g i j) s.toks) {s with toks:=s.toks+1}->wpAny (model X.prog X.w) X.A (f (.int i t)<|.int j u) Q E s):
 Ux X f (D3 λi j=>.int<|g i j):=by
 intro pins s σ H x y v u Q I rx ry h;obtain⟨i,j,rfl,rfl,q⟩:=h;obtain⟨t,rfl⟩:=rx;obtain⟨t',rfl⟩:=ry;exact rule i j t t' s _ _ ⟨.int _,H,I.tok _,⟨_,rfl⟩,q⟩
def JF{f}{g:Int->Int->Bool}
 (rule:∀(i j:Int) (t u:Tok) (s:Shared) (Q:Value->Shared->Prop) (E:Value->Shared->Prop),Q (.bool<|g i j) s->wpAny (model X.prog X.w) X.A (f (.int i t)<|.int j u) Q E s):
 Ux X f (D3 λi j=>.bl<|g i j):=by
 intro pins s σ H x y v u Q I rx ry h;obtain⟨i,j,rfl,rfl,q⟩:=h;obtain⟨t,rfl⟩:=rx;obtain⟨t',rfl⟩:=ry;exact rule i j t t' s _ _ ⟨.bl _,H,I,rfl,q⟩
def ku(i j:Int):Prop:=0<j/\j<1073741824
def jz(i j:Int):Prop:=0<=j/\j<=1000000/\i.natAbs<2 ^ 64
def uA:Ux X (binaryOp .Add) (D3 λi j=>.int<|i+j):=mL λ_ _ _ _ _ _ _ q=>add_int q
def tQ:Ux X (binaryOp .Sub) (D3 λi j=>.int<|i-j):=mL λ_ _ _ _ _ _ _ q=>sub_int q
def uH:Ux X (binaryOp .Mod) (rI (λ_ j=>0<j) λi j=>.int<|i%j):=iH λi j _ _ _ _ _ hc q=>mod_int' (by omega) (by rwa [Int.fmod_eq_emod_of_nonneg i<|by omega])
def uM:Ux X (binaryOp .Pow) (rI jz λi j=>.int<|i ^ j.toNat):=iH λ_ _ _ _ _ _ _ hc q=>pow_int_small hc.1 hc.2.1 hc.2.2 q
def gM{f}{g:Int->Int}
 (rule:∀(i:Int) (t:Tok) (s:Shared) (Q:Value->Shared->Prop) (E:Value->Shared->Prop),Q (.int (g i) s.toks) {s with toks:=s.toks+1}->wpAny (model X.prog X.w) X.A (f<|.int i t) Q E s):
 lR X f (rU λi=>.int<|g i):=by
 intro pins s σ H x v Q I rx h;obtain⟨i,rfl,q⟩:=h;obtain⟨t,rfl⟩:=rx;exact rule i t s _ _ ⟨.int _,H,I.tok _,⟨_,rfl⟩,q⟩
def uk:lR X (unaryOp .USub) (rU λi=>.int (-i)):=gM λ_ _ _ _ _ q=>neg_int q
end
section
variable{X:Cx}{a b c:Expr}{ta tb tc:TE}{pos:Pos}
def wY(I:Inv X pins σ H s)(q:Q (.bl k) H)(e:k=k'):EP X pins σ Q (.bool k') s:=by
 subst e;exact⟨.bl k,H,I,rfl,q⟩
def om:Ux X (compareOp .Lt) (D3 λi j=>.bl<|decide (i<j)):=JF λ_ _ _ _ _ _ _ q=>lt_int q
def qp:Ux X (compareOp .LtE) (D3 λi j=>.bl<|decide (i<=j)):=JF λ_ _ _ _ _ _ _ q=>le_int q
def nU:Ux X (compareOp .Gt) (D3 λi j=>.bl<|decide (j<i)):=JF λ_ _ _ _ _ _ _ q=>gt_int q
def qB:Ux X (compareOp .GtE) (D3 λi j=>.bl<|decide (j<=i)):=JF λ_ _ _ _ _ _ _ q=>ge_int q
def u_:Ux X (compareOp .Is) (λx y H Q=>y = .non/\Q (.bl<|decide (x = .non)) H):=by
 intro pins s σ H x y v u Q I rx ry h;obtain⟨rfl,q⟩:=h;cases ry;refine is_none_gen<|wY I q ?_;cases x<;>first
  |(cases rx;rfl)
  |(obtain⟨t,rfl⟩:=rx;rfl)
def AH:Ux X (compareOp .IsNot) (λx y H Q=>y = .non/\Q (.bl<|!decide (x = .non)) H):=by
 intro pins s σ H x y v u Q I rx ry h;obtain⟨rfl,q⟩:=h;cases ry;refine isnot_none_gen<|wY I q ?_;cases x<;>first
  |(cases rx;rfl)
  |(obtain⟨t,rfl⟩:=rx;rfl)
def HK(b)(h:op ≠ .In:=by decide)(h2:op ≠ .NotIn:=by decide):behindInMarks op b=false:=by
 have e1:(op==CmpOp.In)=false:=by cases op<;>first|rfl|exact absurd rfl h
 have e2:(op==CmpOp.NotIn)=false:=by cases op<;>first|rfl|exact absurd rfl h2
 cases b<;>simp[behindInMarks,e1,e2]
def Do{op}{r:R2}(ho:Ux X (compareOp op) r)(ha:PE X a ta)(hb:PE X b tb)(hm:behindInMarks op b=false):PE X (.Compare a [op] [b] pos) (nt r ta tb):=by
 intro pins s σ H Q I h;exact wpAny_Compare1 (su ha hb I h λv u s2 x y H2 I2 rx ry q=>ho pins s2 σ H2 x y v u Q I2 rx ry q) hm
def pR(t:TE):TT:=λσ H Q=>t σ H λx H'=>∃k,x = .bl k/\Q k H'
def Dm(ho:Ux X (compareOp op) r)(ha:PE X a ta)(hb:PE X b tb)(hm:behindInMarks op b=false):PT X (.Compare a [op] [b] pos) (pR<|nt r ta tb):=by
 intro pins s σ H Q I h;refine wpAny_isTrue_Compare1 (wD (ha pins s σ H _ I h) λv s1 ⟨x,H1,I1,r1,q1⟩=>wD (hb pins s1 σ H1 _ I1 q1) λu s2 ⟨y,H2,I2,r2,q2⟩=>
  wD (ho pins s2 σ H2 x y v u _ I2 r1 r2 q2) λc s3 ⟨z,H3,I3,r3,k,e,q3⟩=>?_) hm
 subst e;cases r3;exact wpAny_truthy_bool ⟨H3,I3,q3⟩
def uq(r r':R2)(ta tb tc:TE):TE:=λσ H Q=>ta σ H λx H1=>tb σ H1 λy H2=>r x y H2 λz H3=>∃k,z = .bl k/\
 (if k=true then tc σ H3 λw' H4=>r' y w' H4 Q else Q (.bl false) H3)
def CH(ho:Ux X (compareOp op) r)(ho':Ux X (compareOp op') r')(ha:PE X a ta)(hb:PE X b tb)(hc:PE X c tc)
 (hm:lastMarks [op,op'] [b,c]=false:=by with_unfolding_all rfl):PE X (.Compare a [op,op'] [b,c] pos) (uq r r' ta tb tc):=by
 intro pins s σ H Q I h;refine Compare_chain (wD (ha pins s σ H _ I h) λv s1 ⟨x,H1,I1,r1,q1⟩=>chain_link<|wD (hb pins s1 σ H1 _ I1 q1) λu s2 ⟨y,H2,I2,r2,q2⟩=>
  wD (ho pins s2 σ H2 x y v u _ I2 r1 r2 q2) λd s3 ⟨z,H3,I3,r3,k,e,q3⟩=>?_) hm
 subst e;cases r3;refine wpAny_truthy_bool ?_;cases k with
 |false=>exact ite_ff ⟨.bl false,H3,I3,rfl,q3⟩
 |true=>exact ite_tt (chain_last<|wD (hc pins s3 σ H3 _ I3 q3) λw' s4 ⟨z',H4,I4,r4,q4⟩=>ho' pins s4 σ H4 y z' u w' Q I4 r2 r4 q4)
def sD(K:zzA)(x:V)(H:Hp)(k:Bool):Prop:=
 match x with
 | .non=>k=false
 | .bl b=>k=b
 | .int i=>k=(i != 0)
 | .str y=>y.length<=sizeLine/\k=((y.length:Int) != 0)
 | .byt y=>y.size<=sizeLine/\k=((y.size:Int) != 0)
 | .ref p=>(∃xs,X3 K H p xs/\k = !xs.isEmpty)\/(∃xs,VP K H p xs/\k = !xs.isEmpty)\/∃kvs,H p=some (.dK kvs)/\k = !kvs.isEmpty
 |_=>False
def Er(r:KV kvs vs):(!vs.isEmpty) = !kvs.isEmpty:=by
 cases r<;>rfl
def TQ(r:zU xs its):(!its.toArray.isEmpty) = !xs.isEmpty:=by
 cases r<;>simp
def Uv:(sizeLine:Nat)<2 ^ 63:=by decide
def tE:kB X (λx H Q=>∃k,sD X.K x H k/\Q k H):=by
 intro pins s σ H x v Q I rx h;obtain⟨k,e,q⟩:=h;have hl:=Uv;have hs:=sizeLine_eq;cases x with
 |non=>
  cases rx;have e':k=false:=e;subst e';exact truthy_none ⟨H,I,q⟩
 |bl b=>
  cases rx;have e':k=b:=e;subst e';exact wpAny_truthy_bool ⟨H,I,q⟩
 |int i=>
  obtain⟨t,rfl⟩:=rx;have e':k=(i != 0):=e;subst e';exact PySem.P.truthy_int ⟨H,I,q⟩
 |str y=>
  obtain⟨t,rfl⟩:=rx;obtain⟨hy,e'⟩:y.length<=sizeLine/\k=_:=e;subst e';exact PySem.P.truthy_str (by omega) ⟨H,I.tok _,q⟩
 |byt y=>
  obtain⟨t,rfl⟩:=rx;obtain⟨hy,e'⟩:y.size<=sizeLine/\k=_:=e;subst e';exact W.truthy_bytes (by omega) ⟨H,I.tok _,q⟩
 |ref p=>
  cases rx;have e':_\/_\/∃kvs,H p=some (.dK kvs)/\k = !kvs.isEmpty:=e
  rcases e' with⟨xs,hx,e'⟩|⟨xs,hx,e'⟩|⟨kvs,hx,e'⟩
  . subst e';obtain⟨its,r,pl,hz⟩:=I.list hx;have hlen:=r.length;exact wpAny_truthy_list pl.isList (by simp only[zzH];exact q0L hs hlen hz) ⟨H,I.tok _,by rw[TQ r];exact q⟩
  . subst e';obtain⟨its,r,pl,hz⟩:=I.tuple hx;have hlen:=r.length;exact truthy_tuple pl (by simp only[zzH];exact q0L hs hlen hz) ⟨H,I.tok _,by rw[TQ r];exact q⟩
  . subst e';obtain⟨hz,hS,vs,r,m⟩:kvs.length<=sizeLine/\_=false/\∃vs,KV kvs vs/\s.heap.DictOf _ p vs:=I.hok p _ hx;have hlen:=Paired.length r;exact wpAny_truthy_dict hS m (q0L hs hlen hz) ⟨H,I.tok _,by rw[Er r];exact q⟩
 |_=>exact(e).elim
def Iu(ha:PE X a ta)(he:∀whole,isTrue a X.env whole=(do let v <-whole;standAt a.pos;holding [v] (truthy v))):
 PT X a (λσ H Q=>ta σ H λx H'=>∃k,sD X.K x H' k/\Q k H'):=by
 intro pins s σ H Q I h;exact isTrue_plain (wD (ha pins s σ H _ I h) λv s1 ⟨x,H1,I1,r1,q1⟩=>tE pins s1 σ H1 x v Q I1 r1 q1)<|he _
def Fy:Ux X (binaryOp .Add) (λx y H Q=>∃i j,x = .str i/\y = .str j/\i.length+j.length<=sizeLine/\Q (.str<|i++j) H):=by
 intro pins s σ H x y v u Q I rx ry h;obtain⟨i,j,rfl,rfl,hz,q⟩:=h;obtain⟨t,rfl⟩:=rx;obtain⟨t',rfl⟩:=ry;exact add_str (λt' tk=>⟨.str _,H,I.tok _,⟨_,rfl⟩,q⟩) hz
def vals1(r:zU [x] us):∃u,us=[u]/\RelV x u:=by
 cases r with
 |cons r1 r2=>cases r2;exact⟨_,rfl,r1⟩
def vals2(r:zU [x,y] us):∃u w',us=[u,w']/\RelV x u/\RelV y w':=by
 cases r with
 |cons r1 r2=>
  cases r2 with
  |cons r3 r4=>cases r4;exact⟨_,_,rfl,r1,r3⟩
def CG:Yr X (.builtin "abs") (λxs H Q=>∃i,xs=[.int i]/\Q (.int (if i<0 then -i else i)) H):=by
 intro pins s σ H xs us Q I r h;obtain⟨i,rfl,q⟩:=h;obtain⟨u,rfl,t,rfl⟩:=vals1 r;exact call_abs_int λu tk=>⟨.int _,H,I.tok _,⟨_,rfl⟩,q⟩
def SN(hc:X.calm=true):Yr X (.builtin "max") (λxs H Q=>∃i j,xs=[.int i,.int j]/\Q (.int (if j > i then j else i)) H):=by
 intro pins s σ H xs us Q I r h;obtain⟨i,j,rfl,q⟩:=h;obtain⟨u,w',rfl,⟨t,rfl⟩,⟨t',rfl⟩⟩:=vals2 r;refine max_two_ints (I.ok.hd hc) λh' tk k=>⟨_,H,I.kept k, ?_,q⟩
 by_cases hj:j > i
 . rw[if_pos hj,if_pos hj];exact⟨_,rfl⟩
 . rw[if_neg hj,if_neg hj];exact⟨_,rfl⟩
def SH(hc:X.calm=true):Yr X (.builtin "min") (λxs H Q=>∃i j,xs=[.int i,.int j]/\Q (.int (if j<i then j else i)) H):=by
 intro pins s σ H xs us Q I r h;obtain⟨i,j,rfl,q⟩:=h;obtain⟨u,w',rfl,⟨t,rfl⟩,⟨t',rfl⟩⟩:=vals2 r;refine min_two_ints (I.ok.hd hc) λh' tk k=>⟨_,H,I.kept k, ?_,q⟩
 by_cases hj:j<i
 . rw[if_pos hj,if_pos hj];exact⟨_,rfl⟩
 . rw[if_neg hj,if_neg hj];exact⟨_,rfl⟩
def Ki:Yr X (.type "int") (λxs H Q=>(∃i,xs=[.int i]/\Q (.int i) H)\/∃k,xs=[.bl k]/\Q (.int (if k then 1 else 0)) H):=by
 intro pins s σ H xs us Q I r h
 rcases h with⟨i,rfl,q⟩|⟨k,rfl,q⟩
 . obtain⟨u,rfl,t,rfl⟩:=vals1 r;exact call_int_int ⟨.int i,H,I,⟨_,rfl⟩,q⟩
 . obtain⟨u,rfl,r1⟩:=vals1 r;cases r1;exact call_int_bool ⟨.int _,H,I.tok _,⟨_,rfl⟩,q⟩
def kI(K:zzA)(x:V)(H:Hp)(n:Nat):Prop:=
 match x with
 | .str y=>y.length<=sizeLine/\n=y.length
 | .byt y=>y.size<=sizeLine/\n=y.size
 | .ref p=>(∃xs,X3 K H p xs/\n=xs.length)\/∃xs,VP K H p xs/\n=xs.length
 |_=>False
def Hx:Yr X (.builtin "len") (λxs H Q=>∃x n,xs=[x]/\kI X.K x H n/\Q (.int n) H):=by
 intro pins s σ H xs us Q I r h;obtain⟨x,n,rfl,e,q⟩:=h;obtain⟨u,rfl,rx⟩:=vals1 r;have hs:=sizeLine_eq;cases x with
 |str y=>
  obtain⟨t,rfl⟩:=rx;obtain⟨hy,e'⟩:y.length<=sizeLine/\n=y.length:=e;subst e';exact len_str (by omega) ⟨.int _,H,I.tok _,⟨_,rfl⟩,q⟩
 |byt y=>
  obtain⟨t,rfl⟩:=rx;obtain⟨hy,e'⟩:y.size<=sizeLine/\n=y.size:=e;subst e';exact W.len_bytes (by omega) ⟨.int _,H,I.tok _,⟨_,rfl⟩,q⟩
 |ref p=>
  cases rx;have e':_\/∃xs,VP X.K H p xs/\n=xs.length:=e
  rcases e' with⟨xs,hx,e'⟩|⟨xs,hx,e'⟩
  . subst e';obtain⟨its,r',pl,hz⟩:=I.list hx;have hlen:=r'.length;exact Calls.call_len_list pl.isList (by simp only[zzH];exact q0L hs hlen hz) ⟨.int xs.length,H,I.tok _,⟨_,by simp only[zzH];rw[hlen]⟩,q⟩
  . subst e';obtain⟨its,r',pl,hz⟩:=I.tuple hx;have hlen:=r'.length;exact len_tuple pl (by simp only[zzH];exact q0L hs hlen hz) ⟨.int xs.length,H,I.tok _,⟨_,by simp only[zzH];rw[hlen]⟩,q⟩
 |_=>exact(e).elim
def MU:Yr X (.builtin "divmod") (λxs H Q=>∃i j,xs=[.int i,.int j]/\ku i j/\∀p,H p=none->Q (.ref p) (upd H p<|.tup [.int<|i/j,.int<|i%j])):=by
 intro pins s σ H xs us Q I r h;obtain⟨i,j,rfl,⟨h1,h2⟩,q⟩:=h;obtain⟨u,w',rfl,⟨t,rfl⟩,⟨t',rfl⟩⟩:=vals2 r;refine divmod_int (by omega) ?_ (.inl<|PyProof.noPylong_small<|by omega);rw[Int.fdiv_eq_ediv_of_nonneg i (by omega),Int.fmod_eq_emod_of_nonneg i<|by omega];have hn:=I.hok.fresh<|zzN _;refine⟨.ref s.heap.objs.size,_, ?_,rfl,q _ hn⟩;refine I.laid (λb o e=>zxF _ e) (zzN _) ⟨by simp;decide,[.int _ s.toks,.int _<|s.toks+1],.cons ⟨_,rfl⟩<|.cons ⟨_,rfl⟩ .nil, ?_⟩;exact⟨_,zxH s.heap rfl,rfl,0,rfl⟩
end
end L2
namespace L2
open PySem PySem.Spec PyProof.Rows
structure ObjM(h:Heap)(x dx C:Addr)(mA:Str->Option Value):Prop where
 obj:h.get? x=some (W.instObj C dx)
 ns:h.Ns1 dx mA
 ne:dx≠x
def Ss{h:Heap}{dx mA}(n:h.Ns1 dx mA):∃od,h.get? dx=some od/\∀name,W.lookIn name od=some (mA name):=by
 obtain⟨o,es,ep,ho,hd,hk,_,hm⟩:=n;refine⟨o,ho,λname=>?_⟩;have e:=hm name;unfold nsFind findBy at e;rw[<-Array.find?_toList]at e;unfold W.lookIn;rw[hd];dsimp only
 split
 . rename_i y q;rw[q]at e;exact congrArg some e
 . rename_i q;rw[q]at e;have a:es.toList.any (·.refKey)=false:=by
    rw[List.any_eq_false];intro y hy;obtain⟨z,t,hkey⟩:=hk y<|Array.mem_toList_iff.mp hy;simp[DictEntry.refKey,hkey]
   have a':¬es.toList.any (·.refKey)=true:=by rw[a];exact zyV
   rw[if_neg a'];exact congrArg some e
def ObjM.look(I:ObjM h x dx C mA):∃od,PySem.W.InstAt h x (W.instObj C dx) C (some od)/\∀name,W.lookIn name od=some (mA name):=
 let⟨od,ho,hl⟩:=Ss I.ns
 ⟨od,⟨I.obj,rfl,rfl,ho⟩,hl⟩
section
variable{prog:Program}{w:World}{A:Around}{E:Value->Shared->Prop}{s:Shared}{K:zzA}{x dx C f:Addr}{mA:Str->Option Value}{name:Str}{v:Value}
def JY(X:K.In s.heap)(I:ObjM s.heap x dx C mA)(hg:W.plainGet K C name=true)(hh:W.hasDictIn K C=true)
 (ha:W.findIn K (.ref C) name=some none) (hv:mA name=some v) (hv':W.handedIn v=true) (h:Q v {s with toks:=s.toks+1}):
 wpAny (model prog w) A (getAttr (.ref x) name expr) Q E s:=by
 obtain⟨od,J,hl⟩:=I.look;exact W.get_value X J (W.plainGet_of hg).1 (W.findObj_own hh ha rfl<|by rw[hl,hv]) hv' h
def HE(X:K.In s.heap)(I:ObjM s.heap x dx C mA)(hg:W.plainGet K C name=true)
 (hf:W.findIn K (.ref C) name=some (some<|.ref f)) (ht:W.isFn K (.ref f)=true) (hv:mA name=none) (h:Q (.ref f,[.ref x]) s):
 wpAny (model prog w) A (getMethod (.ref x) name pl) Q E s:=by
 obtain⟨od,J,hl⟩:=I.look;exact W.method_fn X J (W.plainGet_of hg).1 (W.plainGet_of hg).2 hf (beq_iff_eq.mp ht) (by show(W.lookIn name od).map _=_;rw[hl,hv];rfl) h
def JC(X:K.In s.heap)(I:ObjM s.heap x dx C mA)
 (hs:W.findIn K (.ref C) "__setattr__"=some (some<|.builtin "object.__setattr__")) (hp:W.plainOver K C=true) (ht:W.takerIn K C name=some none) (hh:W.hasDictIn K C=true)
 (hw:PySem.Within mA ns) (hsz:ns.length<=sizeLine)
 (h:∀h',ObjM h' x dx C (λy=>if y=name then some v else mA y)->Heap.SameBut dx s.heap h'->Q () {s with heap:=h',toks:=s.toks+2}):
 wpAny (model prog w) A (setAttr (.ref x) name v) Q E s:=by
 obtain⟨od,J,hl⟩:=I.look;refine W.set_plain X J hs<|W.osa_open X J hp ht λb=>?_;obtain⟨cd,hc,hd'⟩:=W.any_some hh;have hx:=I.obj;refine zxD<|zxE<|zxD<|zxD<|wpAny_loadPart hx<|zxD<|PySem.W.Looks.here (W.looks_clsIn X hc) ?_;rw[hd'];refine zxE<|zxD<|zxE<|zxD ?_;refine wpAny_nsSet1 I.ns λh' hn2 hs2=>?_;obtain⟨oD,esD,epD,hoD,hdD,hcD⟩:=hn2.count<|PySem.Within.cons name v hw;refine zxD<|wpAny_lookBehind hoD (by rw[hdD];exact pastItsLine_dict<|zzO hcD<|by rw[zzT];omega) ?_;exact zxE<|h _ ⟨(hs2.2 _<|Ne.symm I.ne).trans I.obj,hn2,I.ne⟩ hs2
def C9(X:K.In s.heap)(hm:W.makesIn K C=true)
 (hi:W.findIn K (.ref C) "__init__"=some (some<|.ref f)) (hf:W.typeIn K (.ref f)=some (.type "function"))
 (h:codeAny (model prog w) (A.under<|.builtin "type.__call__" ⟨.ref C::vs,kw⟩) (.call (.ref f) ⟨.ref (s.heap.objs.size+1)::vs,kw⟩) (PySem.W.InitBack (s.heap.objs.size+1) R)
  {s with heap:=(s.heap.push W.emptyDict).push (W.instObj C s.heap.objs.size)}):
 codeAny (model prog w) A (.call (.ref C) ⟨vs,kw⟩) R s:=W.make_core (W.makes_of X hm) (W.looks_findIn X hi) (λself=>W.bind_fn X self hf) (.inl rfl) h
end
noncomputable def X5(f:Str)(v:V):List (Str×V)->List (Str×V)
 | []=>[(f,v)]
 |(g,x)::r=>if g=f then(g,v)::r else(g,x)::X5 f v r
theorem U_(f g)(v):∀fs:List (Str×V),(X5 f v fs).lookup g=if g=f then some v else fs.lookup g
 | []=>by
  show List.lookup g [_]=_
  by_cases h:g=f
  . have hb:=beq_iff_eq.mpr h;simp only[List.lookup,hb,if_pos h]
  . have hb:=beq_eq_false_iff_ne.mpr h;simp only[List.lookup,hb,if_neg h]
 |(k,x)::r=>by
  have ih:=U_ f g v r;rw[show X5 f v _=(if k=f then _::r else _::X5 f v r)from rfl]
  by_cases hk:k=f
  . rw[if_pos hk]
    by_cases h:g=k
    . have hb:=beq_iff_eq.mpr h;simp only[List.lookup,hb,if_pos<|h.trans hk]
    . have hb:=beq_eq_false_iff_ne.mpr h;simp only[List.lookup,hb,if_neg (λe:g=f=>h<|e.trans hk.symm)]
  . rw[if_neg hk]
    by_cases h:g=k
    . have hb:=beq_iff_eq.mpr h;simp only[List.lookup,hb,if_neg (λe:g=f=>hk<|h.symm.trans e)]
    . have hb:=beq_eq_false_iff_ne.mpr h;simp only[List.lookup,hb];exact ih
theorem Ua(f)(v):∀fs:List (Str×V),f ∈ (X5 f v fs).map (·.1)/\∀g,g ∈ fs.map (·.1)->g ∈ (X5 f v fs).map (·.1)
 | []=>⟨by simp[X5],λg h=>by simp at h⟩
 |(k,x)::r=>by
  obtain⟨i1,i2⟩:=Ua f v r;rw[show X5 f v _=(if k=f then _::r else _::X5 f v r)from rfl]
  by_cases hk:k=f
  . rw[if_pos hk];subst hk;exact⟨by simp,λg h=>by simpa using h⟩
  . rw[if_neg hk];refine⟨?_,λg h=>?_⟩
    . rw[zyS];exact zzD _ i1
    . rw[zyS]at h ⊢
      rcases zzC.mp h with e|e
      . exact zzC.mpr<|.inl e
      . exact zzD _<|i2 g e
theorem UI(f)(v):∀fs:List (Str×V),(X5 f v fs).length<=fs.length+1
 | []=>by simp[X5]
 |(k,x)::r=>by
  have ih:=UI f v r;rw[show X5 f v _=(if k=f then _::r else _::X5 f v r)from rfl]
  by_cases hk:k=f
  . rw[if_pos hk,zzT,zzT];omega
  . rw[if_neg hk,zzT,zzT];omega
def Qg.some_of(r:Qg (some v) o):∃u,o=some u/\RelV v u:=by
 cases o with
 |none=>exact(r).elim
 |some u=>exact⟨u,rfl,r⟩
def Qg.none_of(r:Qg none o):o=none:=by
 cases o with
 |none=>rfl
 |some u=>exact(r).elim
def SO(r:RelV v u):W.handedIn u=true:=by
 cases v with
 |non=>cases(r);rfl
 |bl b=>cases(r);rfl
 |int i=>obtain⟨t,e⟩:=(r);cases e;rfl
 |str x=>obtain⟨t,e⟩:=(r);cases e;rfl
 |byt b=>obtain⟨t,e⟩:=(r);cases e;rfl
 |flt b=>obtain⟨t,e⟩:=(r);cases e;rfl
 |ref a=>cases(r);rfl
 |ty n=>cases(r);rfl
section
variable{P:Program}{w:World}{H H':Hp}{h h':Heap}{a C dx:Addr}{fs fs':List (Str×V)}
def L_(hok:UW P w H h)(e:H a=some (.ins C dx fs)):∃mA,ObjM h a dx C mA/\(∀f,Qg (fs.lookup f)<|mA f)/\PySem.Within mA (fs.map (·.1))/\fs.length<=1000/\H dx=some (.own a):=by
 obtain⟨d,z,ne,ob,mA,n,r,q⟩:=(hok a _ e);exact⟨mA,⟨ob,n,ne⟩,r,q,z,d⟩
end
structure Cls(K:zzA)(C:Addr):Prop where
 pg:W.plainGet K C Str.empty=true
 hd:W.hasDictIn K C=true
 po:W.plainOver K C=true
 sa:W.findIn K (.ref C) "__setattr__"=some (some<|.builtin "object.__setattr__")
def Cls.get{K C}(c:Cls K C)(f):W.plainGet K C f=true:=c.pg
def yJ(K:zzA)(C:Addr)(f:Str):Prop:=W.findIn K (.ref C) f=some none
def yJ.taker{K C f}(n:yJ K C f):W.takerIn K C f=some none:=by
 unfold W.takerIn;rw[show W.findIn K _ f=some none from n];rfl
structure Meth(K:zzA)(C:Addr)(m:Str)(f:Addr):Prop where
 at_:W.findIn K (.ref C) m=some (some<|.ref f)
 fn:W.isFn K (.ref f)=true
 kp:W.keepIn K (.ref f)=true
section
variable{X:Cx}{pins:List (Addr×Obj)}{σ:St}{H:Hp}{s:Shared}{a C dx:Addr}{fs:List (Str×V)}{f:Str}{v:V}{A:Around}{E:Value->Shared->Prop}
def Fb(I:Inv X pins σ H s)(e:H a=some (.ins C dx fs))(c:Cls X.K C)(n:yJ X.K C f)(l:fs.lookup f=some v)
 (h:∀u s',Inv X pins σ H s'->RelV v u->Q u s'):wpAny (model X.prog X.w) A (getAttr (.ref a) f b) Q E s:=by
 obtain⟨mA,O,r,_,_,_⟩:=L_ I.hok e;obtain⟨u,hu,ru⟩:=Qg.some_of (by rw[<-l];exact r f);exact JY I.kIn O (c.get f) c.hd n hu (SO ru)<|h u _ (I.tok _) ru
def Fu(I:Inv X pins σ H s)(e:H a=some (.ins C dx fs))(c:Cls X.K C)(k:Meth X.K C m g)(l:fs.lookup m=none)
 (h:Q (.ref g,[.ref a]) s):wpAny (model X.prog X.w) A (getMethod (.ref a) m pl) Q E s:=by
 obtain⟨mA,O,r,_,_,_⟩:=L_ I.hok e;have hn:=Qg.none_of (by rw[<-l];exact r m);exact HE I.kIn O (c.get m) k.at_ k.fn hn h
def Eo(I:Inv X pins σ H s)(e:H a=some (.ins C dx fs))(c:Cls X.K C)(n:yJ X.K C f)(hl:fs.length<1000)(ry:RelV y u)
 (h:∀s',Inv X pins σ (upd H a<|.ins C dx<|X5 f y fs) s'->Q () s'):wpAny (model X.prog X.w) A (setAttr (.ref a) f u) Q E s:=by
 obtain⟨mA,O,r,wi,_,ho⟩:=L_ I.hok e;have hz:(fs.map (·.1)).length<=sizeLine:=by rw[zzB,sizeLine_eq];omega
 refine JC I.kIn O c.sa c.po n.taker c.hd wi hz λh' O' sb=>h _ ?_;have hd:∃o,h'.get? dx=some o:=let⟨o,_,_,e',_⟩:=O'.ns;⟨o,e'⟩;refine I.write (by rw[e];exact True.intro) (.inr ho) (λb q hb z=>(sb.2 b hb).trans z) hd ?_;refine⟨by rw[zK O.ne];exact ho, ?_,O.ne,O'.obj,_,O'.ns,λg=>?_,λg hg=>?_⟩
 . have:=UI f y fs;omega
 . show Qg _ _;rw[U_]
   by_cases q:g=f
   . rwa [if_pos q,if_pos q]
   . rw[if_neg q,if_neg q];exact r g
 . by_cases q:g=f
   . rw[q];exact(Ua f y fs).1
   . refine(Ua f y fs).2 g<|wi g λz=>hg ?_;show(if g=f then some u else mA g)=_
     rwa [if_neg q]
def Inv.made(I:Inv X pins σ H s):Inv X pins σ (upd (upd H s.heap.objs.size<|.own<|s.heap.objs.size+1) (s.heap.objs.size+1)<|.ins C s.heap.objs.size [])
 {s with heap:=(s.heap.push W.emptyDict).push (W.instObj C s.heap.objs.size)}:=by
 have e1:(s.heap.push W.emptyDict).get? s.heap.objs.size=some W.emptyDict:=zxH s.heap rfl;have e2:((s.heap.push W.emptyDict).push<|W.instObj C s.heap.objs.size).get? (s.heap.objs.size+1)=some (W.instObj C s.heap.objs.size):=by
  have:=zxH (s.heap.push W.emptyDict) (o:=W.instObj C s.heap.objs.size) rfl
  rwa [zxJ]at this
 have e3:(s.heap.push W.emptyDict).Ns s.heap.objs.size _:=⟨W.emptyDict,#[],_,e1,rfl,(λe he=>absurd he<|by simp),λ_=>rfl⟩;have I1:=I.laid (o:=.own<|s.heap.objs.size+1) (h':=s.heap.push W.emptyDict) (t':=s.toks) (λb u q=>zxF _ q) (zzN _) ⟨_,e1⟩;refine I1.laid (t':=s.toks) (λb u q=>zxF _ q) (Nat.le_of_eq<|zxJ _ _) ?_;have ne:s.heap.objs.size≠s.heap.objs.size+1:=zzQ<|Nat.lt_succ_self _;refine⟨by rw[zK ne,ya],Nat.zero_le _,ne,e2,λ_=>none,(Heap.Ns1.of_empty e3).at λo q=>zxF _ q,λ_=>True.intro,λy hy=>absurd rfl hy⟩
def Dc(hb:attributeBase e f env (eval e env)=eval e env)
 (h:wpAny (model prog w) A (eval e env) (λo s₁=>wpAny (model prog w) A (getAttr o f true) Q E s₁) E s):wpAny (model prog w) A (eval (.Attribute e f pos) env) Q E s:=
 Attribute_any_ h (by rw[arm_eval_Attribute,hb])
end
def kj(K:zzA)(ta:TE)(f:Str):TE:=λσ H Q=>ta σ H λx H1=>∃a C dx fs v,x = .ref a/\H1 a=some (.ins C dx fs)/\Cls K C/\yJ K C f/\fs.lookup f=some v/\Q v H1
def ki(K:zzA)(ta tv:TE)(f:Str):TS:=λD σ H=>tv σ H λy H1=>ta σ H1 λx H2=>∃a C dx fs,x = .ref a/\H2 a=some (.ins C dx fs)/\Cls K C/\yJ K C f/\fs.length<1000/\
 D.nx σ (upd H2 a<|.ins C dx<|X5 f y fs)
section
variable{X:Cx}{o e value:Expr}{f:Str}{pos pos' tpos:Pos}{ta tv:TE}
def K8(he:PE X e ta)(hb:attributeBase e f X.env (eval e X.env)=eval e X.env):PE X (.Attribute e f pos) (kj X.K ta f):=by
 intro pins s σ H Q I h;refine Dc hb<|wD (he pins s σ H _ I h) λu s1 hq0=>?_;obtain⟨x,H1,I1,rx,a,C,dx,fs,v,ex,ea,c,n,l,q⟩:=hq0;subst ex;obtain rfl:u=Value.ref a:=rx;exact Fb I1 ea c n l λu' s2 I2 ru=>⟨v,H1,I2,ru,q⟩
def CZ(ha:PE X o ta)(hv:PE X value tv)(hs:swapsWith value (some<|.Attribute o f pos') pos.line X.env=pure false):PS X (.Assign [.Attribute o f pos'] value pos) (ki X.K ta tv f):=by
 intro pins s σ H D I h;refine plainObj_wpAny_Assign_Attribute (wD (hv pins s σ H _ I h) λu s1 ⟨y,H1,I1,ry,q⟩=>wD (ha pins s1 σ H1 _ I1 q) λov s2 hq0=>?_) hs;obtain⟨x,H2,I2,rx,a,C,dx,fs,ex,ea,c,n,l,q2⟩:=hq0;subst ex;obtain rfl:ov=Value.ref a:=rx;exact Eo I2 ea c n l ry λs3 I3=>⟨σ,_,I3,q2⟩
end
section
variable{X:Cx}{pins:List (Addr×Obj)}{σ:St}{H:Hp}{s:Shared}{A:Around}{E:Value->Shared->Prop}{Q:Value->Shared->Prop}{c:Value}{b:Bool}
inductive TyOf(K:zzA)(H:Hp):V->Value->Prop where
 |non:TyOf K H .non (.type "NoneType")
 |bl (x:Bool):TyOf K H (.bl x) (.type "bool")
 |int (i:Int):TyOf K H (.int i) (.type "int")
 |str (x:Str):TyOf K H (.str x) (.type "str")
 |flt (x:UInt64):TyOf K H (.flt x) (.type "float")
 |lst {a:Addr}{xs:List V}(e:H a=some (.lst xs)):TyOf K H (.ref a) (.type "list")
 |frz {a:Addr}{o:Obj}{xs:List V}(e:H a=some (.frz o (.lst xs))):TyOf K H (.ref a) (.type "list")
 |tup {a:Addr}{xs:List V}(e:H a=some (.tup xs)):TyOf K H (.ref a) (.type "tuple")
 |dK {a:Addr}{kvs:List (Key×V)}(e:H a=some (.dK kvs)):TyOf K H (.ref a) (.type "dict")
 |dT {a:Addr}{kvs:List (List Key×V)}(e:H a=some (.dT kvs)):TyOf K H (.ref a) (.type "dict")
 |ins {a C dx:Addr}{fs:List (Str×V)}(e:H a=some (.ins C dx fs)) (cl:Cls K C) (ha:W.findIn K (.ref C) "__class__"=some (some (.builtin "object.__class__")))
  (hn:W.specialIn K (.builtin "object.__class__") "__get__"=some (some<|.builtin "getset_descriptor.__get__")) (htk:W.takesIn K (.builtin "object.__class__")=some true)
  (hm:W.mroIn K C (.type "object")=some true):TyOf K H (.ref a) (.ref C)
end
end L2
namespace L2
open PySem PySem.Spec PyProof.Rows
structure Room(k:Nat)(A:Around):Prop where
 hd:A.handled=none
 dp:A.depth+3*k+5<recursionLimit
 un:A.units+16*k+200<cLine
 gd:A.guards=some []
def Room.mono(r:Room k A)(h:j<=k):Room j A:=⟨r.hd,by have:=r.dp;omega,by have:=r.un;omega,r.gd⟩
theorem Room.deeper(r:Room (k+1) A)(env):Room k (A.deeper env):=
 ⟨r.hd,by have:=r.dp;show A.depth+1+3*k+5<_;exact q1e this,by have:=r.un;show A.units+3+16*k+200<_;omega,r.gd⟩
def Ep{A:Around}{C us kw}:(A.under<|.builtin "type.__call__" ⟨.ref C::us,kw⟩).depth=A.depth+1:=rfl
def M7{A:Around}{C us kw}:(A.under<|.builtin "type.__call__" ⟨.ref C::us,kw⟩).units=A.units+1:=rfl
def Room.make{k:Nat}{A:Around}(r:Room (k+1) A)(C)(us)(kw):Room k (A.under<|.builtin "type.__call__" ⟨.ref C::us,kw⟩):=
 ⟨r.hd,by have:=r.dp;rw[Ep];exact q1e this,by have:=r.un;rw[M7];omega,r.gd⟩
theorem Room.depth(r:Room k A):A.depth<recursionLimit:=by have:=r.dp;omega
def mY:TA:=λ_ H Q=>Q [] H
def Dy(ta:TE)(tr:TA):TA:=λσ H Q=>ta σ H λx H1=>tr σ H1 λxs H2=>Q (x::xs) H2
section
variable{X:Cx}{e:Expr}{es:List Expr}{te:TE}{t:TA}{pos:Pos}
def Uo:PA X [] mY:=λ_ _ _ _ H Q I h=>Calls.spliced_nil ⟨[],H,I,.nil,h⟩
def Xb(ha:PE X e te)(hr:PA X es t)(hs:starEach (e::es) X.env=(false,eval e X.env)::starEach es X.env:=by rfl):PA X (e::es) (Dy te t):=by
 intro pos pins s σ H Q I h;rw[hs];refine Calls.spliced_cons<|wD (ha pins s σ H _ I h) λu s1 ⟨x,H1,I1,r1,q1⟩=>?_;exact wD (hr pos pins s1 σ H1 _ I1 q1) λus s2 ⟨xs,H2,I2,r2,q2⟩=>⟨x::xs,H2,I2,.cons r1 r2,q2⟩
def lW(t:TA):TE:=λσ H Q=>t σ H λxs H1=>xs.length<=sizeLine/\∀p,H1 p=none->Q (.ref p) (upd H1 p<|.tup xs)
def jh(t:TA):TE:=λσ H Q=>t σ H λxs H1=>xs.length<=sizeLine/\∀p,H1 p=none->Q (.ref p) (upd H1 p<|.lst xs)
def uY(h:PA X es t):PE X (.Tuple es x1 pos) (lW t):=by
 intro pins s σ H Q I hq;refine wpAny_Tuple_spliced<|wD (h pos pins s σ H _ I hq) λus s1 ⟨xs,H1,I1,r,z,q⟩=>⟨by rw[<-r.length];exact z, ?_⟩;have hf:=I1.hok.fresh<|zzN _;refine⟨.ref s1.heap.objs.size,upd H1 s1.heap.objs.size _,I1.laid (t':=s1.toks) (λb u e=>zxF _ e) (zzN _) ?_,rfl,q _ hf⟩;exact⟨z,us,r,⟨_,zxH _ rfl,rfl,_,rfl⟩⟩
def rD(h:PA X es t):PE X (.List es pos) (jh t):=by
 intro pins s σ H Q I hq;refine wpAny_List_spliced<|wD (h pos pins s σ H _ I hq) λus s1 ⟨xs,H1,I1,r,z,q⟩=>⟨by rw[<-r.length];exact z, ?_⟩;have hf:=I1.hok.fresh<|zzN _;refine⟨.ref s1.heap.objs.size,upd H1 s1.heap.objs.size _,I1.laid (t':=s1.toks) (λb u e=>zxF _ e) (zzN _) ?_,rfl,q _ hf⟩;exact⟨z,us,0,r,zxH _ rfl⟩
end
abbrev Sp:=List V->Hp->VK->XK->Prop
abbrev D7:=List Env->Hp->Shared->XK->Value->Shared->Prop
structure Env0(P:Program)(w:World)(K:zzA)(mg:Str->Option Value)(base:Heap)(A:Around)(outer:List Env)(s:Shared)(H:Hp):Prop where
 frames:A.frames=some outer
 mod:Mod K mg base
 bs:∀b o,base.get? b=some o->s.heap.get? b=some o/\H b=none
 bsz:base.objs.size<=s.heap.objs.size
 funs:s.heap.FunFrames base outer
 frf:∀b ∈ Hr outer,H b=none
 hok:UW P w H s.heap
 bare:AllBare s.gens
def CE(outer:List Env)(P:Program)(w:World)(H:Hp)(s:Shared)(Q:VK)(u:Value)(s':Shared):Prop:=
 ∃v H',s'.os=s.os/\AllBare s'.gens/\Un (Hr outer) [] H H' s.heap s'.heap/\UW P w H' s'.heap/\RelV v u/\Q v H'
def CR(CX:D7)(outer:List Env)(P:Program)(w:World)(H:Hp)(s:Shared)(Q:VK)(E:XK)(r:Result)(s':Shared):Prop:=
 match r with
 | .ok (.ret u)=>CE outer P w H s Q u s'
 | .ok _=>False
 | .error e=>CX outer H s E e s'
structure FnOk(P:Program)(w:World)(K:zzA)(mg:Str->Option Value)(base:Heap)(CX:D7)(k:Nat)(f:Addr)(fd:FuncData)(ps:List Str)(sp:Sp):Prop where
 len:∀vs H Q E,sp vs H Q E->vs.length=ps.length
 run:∀(A:Around) (outer:List Env) (s:Shared) (H:Hp) (args:Args) (us:List Value) (vs:List V) (Q:VK) (E:XK),Room k A->Env0 P w K mg base A outer s H->BindsTo s fd args (ps.zip us)->zU vs us->sp vs H Q E->
  codeAny (model P w) A (.call (.ref f) args) (CR CX outer P w H s Q E) s
def FnOk.imp{P w K mg base CX}{k:Nat}{f fd ps sp sp'}(F:FnOk P w K mg base CX k f fd ps sp)
 (h:∀vs H Q E,sp' vs H Q E->sp vs H Q E):FnOk P w K mg base CX k f fd ps sp':=
 ⟨λvs H Q E q=>F.len vs H Q E<|h _ _ _ _ q,λA outer s H args us vs Q E hr he hb hv hs=>F.run A outer s H args us vs Q E hr he hb hv<|h _ _ _ _ hs⟩
def Env0.make{P w K mg base A outer s H}(e:Env0 P w K mg base A outer s H)(C)(us)(kw):
 Env0 P w K mg base (A.under<|.builtin "type.__call__" ⟨.ref C::us,kw⟩) outer s H:=⟨by first|exact e.frames|(simpa[Around.under,Code.envs,Code.isFrame,pushEnvs]using e.frames),e.mod,e.bs,e.bsz,e.funs,e.frf,e.hok,e.bare⟩
section
variable{X:Cx}{pins:List (Addr×Obj)}{σ:St}{H:Hp}{s s':Shared}
def Inv.env0(I:Inv X pins σ H s):Env0 X.prog X.w X.K X.mg X.base X.A X.stack s H:=
 ⟨I.ok.frames,I.ok.mod,I.bs,zzO I.ok.bsz I.sz,I.stack,I.stkFree,I.hok,I.bare⟩
def Inv.after(I:Inv X pins σ H s)(h:CE X.stack X.prog X.w H s Q u s'):EP X pins σ Q u s':=by
 obtain⟨v,H',os,bare,un,hok,r,q⟩:=h;obtain⟨hh,g,d,t,os'⟩:=s';obtain rfl:os'=s.os:=os;exact⟨v,H',I.call (h':=hh) (g':=g) (d':=d) (t':=t) un hok bare (λb z=>absurd z<|by simp),r,q⟩
end
def CS(sp:Sp)(dvs:List V)(E:XK)(t:TA):TE:=λσ H Q=>t σ H λvs H1=>sp (vs++dvs) H1 Q E
def DU(C:Addr)(sp:Sp)(dvs:List V)(E:XK)(t:TA):TE:=λσ H Q=>t σ H λvs H1=>∀x dx,H1 x=none->H1 dx=none->dx≠x->
 sp (.ref x::(vs++dvs)) (upd (upd H1 dx<|.own x) x<|.ins C dx []) (λv H2=>v = .non/\Q (.ref x) H2) E
def Binds(K:zzA)(fd:FuncData)(ps:List Str)(ds:List Value):Prop:=
 ∀(s:Shared) (us:List Value),K.In s.heap->(us++ds).length=ps.length->BindsTo s fd ⟨us,[]⟩ (ps.zip<|us++ds)
def Binds.all{K fd ps}(h:∀us:List Value,us.length=ps.length->bindArgs fd ⟨us,[]⟩=pure (ps.zip us)):Binds K fd ps []:=λs us _ hl=>by
 rw[zyE]at hl ⊢;exact .of_eq<|h us hl
def Z0(CX:D7)(X:Cx)(E:XK):Prop:=∀(pins:List (Addr×Obj)) (σ:St) (H:Hp) (s:Shared) (e:Value) (s':Shared),Inv X pins σ H s->CX X.stack H s E e s'->X.xe e s'
section
variable{X:Cx}{CX:D7}{k:Nat}{f C:Addr}{fd:FuncData}{ps:List Str}{sp:Sp}{dvs:List V}{ds:List Value}{E:XK}{x m:Str}{p pos apos:Pos}{e o:Expr}{es:List Expr}{ta:TE}{t:TA}
def C6(F:FnOk X.prog X.w X.K X.mg X.base CX k f fd ps sp)(hr:Room k X.A)(hb:Binds X.K fd ps ds)(hd:zU dvs ds)(hx:Z0 CX X E)
 (I:Inv X pins σ H s) (r:zU vs us) (h:sp (vs++dvs) H Q E):wpAny (model X.prog X.w) X.A (call (.ref f) us) (EP X pins σ Q) X.xe s:=by
 have r2:=r.append hd;have hl:(us++ds).length=ps.length:=by rw[<-r2.length];exact F.len _ _ _ _ h
 refine wpAny_call<|codeAny_mono (F.run X.A X.stack s H _ _ _ Q E hr I.env0 (hb s us I.kIn hl) r2 h) λr s' hq=>?_;cases r with
 |error e=>exact hx pins σ H s e s' I hq
 |ok fl=>
  cases fl with
  |ret u=>exact I.after hq
  |next=>exact False.elim hq
  |brk=>exact False.elim hq
  |cont=>exact False.elim hq
def FX(F:FnOk X.prog X.w X.K X.mg X.base CX k f fd ps sp)(hr:Room k X.A)(hg:Gl X x)(hm:X.mg x=some (.ref f))(hk:W.keepIn X.K (.ref f)=true)(hb:Binds X.K fd ps ds)(hd:zU dvs ds)(hx:Z0 CX X E)
 (ha:PA X (e::es) t) (hdb:(x==("__debug__":Str))=false:=by decide) (he:starEach (e::es) X.env=(false,eval e X.env)::starEach es X.env:=by rfl) (hpl:(backTo pos<|starEach es X.env).any (·.1)=false:=by rfl):
 PE X (.Call (.Name x p) (e::es) [] pos) (CS sp dvs E t):=by
 intro pins s σ H Q I h;refine wpAny_Call_Name_kw<|Lj I hg hm ?_ hdb;refine W.callWith_K I.ok.mod.kin hk (wD (ha pos pins s σ H _ I h) λus s1 ⟨vs,H1,I1,r,q⟩=>⟨I1.kIn, ?_⟩) he hpl;exact C6 F hr hb hd hx I1 r q
structure Mk(K:zzA)(C f:Addr):Prop where
 makes:W.makesIn K C=true
 init:W.findIn K (.ref C) "__init__"=some (some<|.ref f)
 fn:W.isFn K (.ref f)=true
 kp:W.keepIn K (.ref C)=true
def OW(M:Mk X.K C f)(F:FnOk X.prog X.w X.K X.mg X.base CX k f fd ps sp)(hr:Room (k+1) X.A)(hb:Binds X.K fd ps ds)(hd:zU dvs ds)
 (hx:Z0 CX X E) (I:Inv X pins σ H s) (r:zU vs us)
 (h:∀x dx,H x=none->H dx=none->dx≠x->sp (.ref x::(vs++dvs)) (upd (upd H dx<|.own x) x<|.ins C dx []) (λv H2=>v = .non/\Q (.ref x) H2) E):
 wpAny (model X.prog X.w) X.A (call (.ref C) us) (EP X pins σ Q) X.xe s:=by
 have hq:=h _ s.heap.objs.size (I.hok.fresh<|zyW _) (I.hok.fresh<|zzN _)<|zzQ<|Nat.lt_succ_self _;have I2:=Inv.made (C:=C) I;have r2:zU (V.ref (s.heap.objs.size+1)::_) _:=.cons rfl<|r.append hd;have hl:(Value.ref (s.heap.objs.size+1)::us++ds).length=ps.length:=by
  have e:=r2.length;rw[F.len _ _ _ _ hq]at e;exact e.symm
 refine wpAny_call<|C9 I.kIn M.makes M.init (beq_iff_eq.mp M.fn)<|codeAny_mono (F.run _ X.stack _ _ _ _ _ _ E (hr.make C us [])
  (I2.env0.make C us []) (hb _ _ I2.kIn hl) r2 hq) λr s' hq'=>?_
 cases r with
 |error e=>exact hx pins σ _ _ e s' I2 hq'
 |ok fl=>
  cases fl with
  |ret u=>
   obtain⟨v,H',I3,rv,ev,q3⟩:=I2.after hq';subst ev;exact⟨rv,⟨V.ref _,H',I3,rfl,q3⟩⟩
  |next=>exact False.elim hq'
  |brk=>exact False.elim hq'
  |cont=>exact False.elim hq'
def Jk(M:Mk X.K C f)(F:FnOk X.prog X.w X.K X.mg X.base CX k f fd ps sp)(hr:Room (k+1) X.A)(hg:Gl X x)(hm:X.mg x=some (.ref C))(hb:Binds X.K fd ps ds)(hd:zU dvs ds)(hx:Z0 CX X E)
 (ha:PA X (e::es) t) (hdb:(x==("__debug__":Str))=false:=by decide) (he:starEach (e::es) X.env=(false,eval e X.env)::starEach es X.env:=by rfl) (hpl:(backTo pos<|starEach es X.env).any (·.1)=false:=by rfl):
 PE X (.Call (.Name x p) (e::es) [] pos) (DU C sp dvs E t):=by
 intro pins s σ H Q I h;refine wpAny_Call_Name_kw<|Lj I hg hm ?_ hdb;refine W.callWith_K I.ok.mod.kin M.kp (wD (ha pos pins s σ H _ I h) λus s1 ⟨vs,H1,I1,r,q⟩=>⟨I1.kIn, ?_⟩) he hpl;exact OW M F hr hb hd hx I1 r q
end
section
variable{X:Cx}{CX:D7}{k:Nat}{f C:Addr}{fd:FuncData}{ps ks:List Str}{sp:Sp}{E:XK}{x m:Str}{p pos apos kpos:Pos}{e o:Expr}{es:List Expr}{kws:List Keyword}{te ta:TE}{t tk:TA}{nm:Option Str}
variable{g:List Value->List Value->List Value}{gV:List V->List V->List V}
end
structure FnScope(N P:List Str)(sc:Scope):Prop where
 kind:sc.kind = .function
 co:sc.isCoroutine=false
 gen:sc.isGenerator=false
 nd:N.Nodup
 pre:N.take P.length=P
 par:∀x ∈ P,sc.names.lookup x=some .local\/sc.names.lookup x=some .cell
 nofree:∀y ∈ sc.names,y.2 ≠ .free
theorem KF{kindOf x}:∀{binds:List (Str×Value)}{m:Str->Option Value},(∀v,(x,v) ∉ binds)->bindL kindOf binds m x=m x
 | [],_,_=>rfl
 |(n,v)::r,m,h=>by
  unfold bindL;rw[KF λw hw=>h w<|zzD _ hw]
  split
  . have:x≠n:=by rintro rfl;exact h v zzF
    simp[this]
  . rfl
theorem KA{kindOf x}:∀{binds:List (Str×Value)}{m:Str->Option Value},(∀v,(x,v) ∉ binds)->bindC kindOf binds m x=m x
 | [],_,_=>rfl
 |(n,v)::r,m,h=>by
  unfold bindC;rw[KA λw hw=>h w<|zzD _ hw]
  split
  . rfl
  . have:x≠n:=by rintro rfl;exact h v zzF
    simp[this]
theorem GZ{kindOf x v}:∀{P:List Str}{vs:List Value}{i:Nat}{m:Str->Option Value},P.Nodup->P[i]? = some x->vs[i]? = some v->kindOf x=some .local->
 bindL kindOf (P.zip vs) m x=some v
 | [],_,_,_,_,h,_,_=>by simp at h
 |_::_,[],_,_,_,_,h,_=>by simp at h
 |p::P,w::vs,0,m,nd,h1,h2,hk=>by
  simp at h1 h2;subst h1;subst h2;show bindL kindOf (_::P.zip vs) m p=_;unfold bindL;rw[KF λv hv=>(zzW.mp nd).1 (List.of_mem_zip hv).1,if_pos hk];simp
 |p::P,w::vs,i+1,m,nd,h1,h2,hk=>by
  unfold bindL;exact GZ (zzW.mp nd).2 (by simpa using h1) (by simpa using h2) hk
theorem KO{kindOf x v}:∀{P:List Str}{vs:List Value}{i:Nat}{m:Str->Option Value},P.Nodup->P[i]? = some x->vs[i]? = some v->kindOf x≠some .local->
 bindC kindOf (P.zip vs) m x=some v
 | [],_,_,_,_,h,_,_=>by simp at h
 |_::_,[],_,_,_,_,h,_=>by simp at h
 |p::P,w::vs,0,m,nd,h1,h2,hk=>by
  simp at h1 h2;subst h1;subst h2;show bindC kindOf (_::P.zip vs) m p=_;unfold bindC;rw[KA λv hv=>(zzW.mp nd).1 (List.of_mem_zip hv).1,if_neg hk];simp
 |p::P,w::vs,i+1,m,nd,h1,h2,hk=>by
  unfold bindC;exact KO (zzW.mp nd).2 (by simpa using h1) (by simpa using h2) hk
noncomputable def start(N:List Str)(vs:List V):St:=vs.map some++List.replicate (N.length-vs.length) none
noncomputable def Rb(CX:D7)(P:Program)(w:World)(K:zzA)(mg:Str->Option Value)(base:Heap)(N:List Str)(qual:Str)(scope:Scope)(f:Addr)(cd:Value)(A:Around)(outer:List Env)(s:Shared)(H:Hp)(E:XK):Cx where
 prog:=P
 w:=w
 K:=K
 mg:=mg
 base:=base
 A:=A.deeper (envOfC qual scope s.heap.objs.size f cd)
 N:=N
 s₀:=s
 H₀:=H
 env:=envOfC qual scope s.heap.objs.size f cd
 outer:=outer
 stack:=envOfC qual scope s.heap.objs.size f cd::outer
 ex:=[]
 calm:=true
 fn:=λ_=>true
 pn:=[]
 xe:=λe s'=>wpAny (model P w) (A.deeper<|envOfC qual scope s.heap.objs.size f cd) (leaving (envOfC qual scope s.heap.objs.size f cd) e) (λ_ s''=>CX outer H s E e s'') (λe' s''=>CX outer H s E e' s'') s'
def M5{sc:Scope}{n:Nat}{x}(h:sc.names.lookup x=some .cell):∃c,(cellsFrom n sc.names []).lookup x=some c:=by
 have q:=W.cellsFrom_some sc.names n []<|.inl h;exact Option.isSome_iff_exists.mp q
def SX{CX P w K mg base N ps qual scope f cd A outer s s1 H E us vs}
 (S:FnScope N ps scope) (hd:A.handled=none) (e0:Env0 P w K mg base A outer s H) (hl:vs.length=ps.length) (r:zU vs us)
 (x:InCallC s s.heap.objs.size (bindL (envOfC qual scope s.heap.objs.size f cd).kindOf (ps.zip us) λ_=>none) (cellsFrom (s.heap.objs.size+1) scope.names []) (bindC (envOfC qual scope s.heap.objs.size f cd).kindOf (ps.zip us) λ_=>none) s1):
 Inv (Rb CX P w K mg base N qual scope f cd A outer s H E) [] (start N vs) H s1:=by
 have hpl:ps.length<=N.length:=by have:=congrArg List.length S.pre;rw[zzS]at this;omega
 obtain⟨h1,tk,rfl,hk⟩:=x.done;have noA:∀b:Addr,b ∉ (Rb CX P w K mg base N qual scope f cd A outer s H E).ex:=λb z=>absurd (show b ∈ ([]:List Addr)from z) (by simp);refine⟨⟨e0.mod,S.kind,rfl,rfl,zzN _,λy z c h1 h2=>?_,λy hy=>?_,λy c _ h=>?_,λ_=>hd,Around.frames_deeper e0.frames,.inr ⟨rfl,rfl⟩,λb z=>absurd z<|noA b,e0.bs,e0.bsz,λb _ _=>noA b,λb z=>absurd z<|noA b,e0.funs,e0.frf⟩,
  rfl,e0.bare,Un.kept hk,⟨_,x.toInCall.ns,λi y v h1 h2 h3=>?_⟩,λy c h=>⟨_,x.cell y c h⟩,e0.hok.fresh<|zzN _,λy c h=>?_,λp hp=>absurd (show p ∈ ([]:List _)from hp) (by simp),e0.hok.kept hk, ?_⟩
 . exact name_of_addr x.apart (PySem.mem_of_lookup h1)<|PySem.mem_of_lookup h2
 . have hy:=hy
   rcases hy with hy|hy
   . exact M5 hy
   . exact absurd rfl<|S.nofree _<|PySem.mem_of_lookup hy
 . exact Nat.le_of_lt<|x.above y c<|PySem.mem_of_lookup h
 . have hi:i<vs.length:=by
    unfold start at h2
    by_cases hi:i<vs.length
    . exact hi
    . rw[zyR<|by simpa using hi]at h2;rw[List.getElem?_replicate]at h2
      split at h2<;>cases h2
   have ha:vs[i]? = some v:=by
    unfold start at h2;rw[zyP (by simpa using hi),zzI]at h2;cases e:vs[i]? with
    |none=>rw[e]at h2;cases h2
    |some a=>rw[e]at h2;cases h2;rfl
   obtain⟨u,hu,rv⟩:=r.get ha;have hp:ps[i]? = some y:=by
    rwa [<-S.pre,List.getElem?_take_of_lt<|by omega]
   have ndP:ps.Nodup:=by rw[<-S.pre];exact S.nd.sublist<|List.take_sublist _ _
   refine⟨u,rv, ?_⟩
   rcases S.par y (zyA hp)with k|k
   . exact .inl ⟨k,GZ ndP hp hu k⟩
   . obtain⟨c,e⟩:=M5 k;refine .inr ⟨.inl k,c,e, ?_⟩;have q:=x.cell y c e
     rwa [KO ndP hp hu (by show scope.names.lookup y≠_;rw[k];decide)]at q
 . exact e0.hok.fresh<|Nat.le_of_lt<|x.above y c<|PySem.mem_of_lookup h
 . unfold start;show _=N.length;rw[zzJ,zzB,List.length_replicate];omega
def ng{CX P w K mg base}{k:Nat}{f name qual params body scope dV kV doc pm cdv ct oc an od}
 {osl N ps sp}(lk:K.lookup f=some ⟨oc,od,.func<|W.fnOf name qual params body scope dV kV doc pm an cdv ct,osl⟩) (hcd:W.codeIn K cdv qual=true) (S:FnScope N ps scope)
 (len:∀vs H Q E,sp vs H Q E->vs.length=ps.length)
 (hbody:∀(A:Around) (outer:List Env) (s:Shared) (H:Hp) (vs:List V) (Q:VK) (E:XK),Room k (A.deeper<|envOfC qual scope s.heap.objs.size f cdv)->sp vs H Q E->
  ∃t,NH (Rb CX P w K mg base N qual scope f cdv A outer s H E) body t/\t {nx:=λ_ H'=>Q .non H',rt:=Q} (start N vs) H):
 FnOk P w K mg base CX (k+1) f (W.fnOf name qual params body scope dV kV doc pm an cdv ct) ps sp:=by
 refine⟨len,λA outer s H args us vs Q E hr e0 hb r hsp=>?_⟩;have hl:=len _ _ _ _ hsp;have KX:=e0.mod.kin.keeps λb o e=>(e0.bs b o e).1;have lim:=e0.mod.nolimit.keeps λb o e=>(e0.bs b o e).1;have hkind:∀y ∈ ps.zip us,scope.names.lookup y.1=some .local\/(scope.names.lookup y.1=some .cell/\((cellsFrom (s.heap.objs.size+1) scope.names []).lookup y.1).isSome=true):=λ⟨n,v⟩ hy=>by
  rcases S.par n (List.of_mem_zip hy).1 with q|q
  . exact .inl q
  . exact .inr ⟨q,W.cellsFrom_some _ _ _<|.inl q⟩
 refine codeAny_call_function hr.depth (KX _ _ lk) rfl S.co S.gen rfl (W.codeRec_of KX hcd)<|hb _ _ _ _ ?_;refine wpAny_newFunctionEnv_cells S.kind hkind λenv he s1 x=>?_;subst he;refine⟨lim.keeps x.toInCall.keep,codeAny_func ?_⟩;obtain⟨t,ht,hq⟩:=hbody A outer s H vs Q E (hr.deeper _) hsp;have I:Inv (Rb CX P w K mg base N qual scope f cdv A outer s H E) [] _ H s1:=SX S hr.hd e0 hl r x;refine zxK (ht [] s1 _ H _ I hq) (λfl s' hs=>?_) λe s' hs=>hs;have fin:∀{σ':St}{H':Hp}{v:V}{u:Value},Inv (Rb CX P w K mg base N qual scope f cdv A outer s H E) [] σ' H' s'->RelV v u->Q v H'->CE outer P w H s Q u s':=
  λ{σ' H' v u} J rv q=>⟨v,H',J.os,J.bare,J.base,J.hok,rv,q⟩
 cases fl with
 |ret u=>
  obtain⟨v,σ',H',J,rv,q⟩:=hs;exact fin J rv q
 |next=>
  obtain⟨σ',H',J,q⟩:=hs;exact fin (v:=V.non) J rfl q
 |brk=>
  obtain⟨_,_,_,q⟩:=hs;exact False.elim q
 |cont=>
  obtain⟨_,_,_,q⟩:=hs;exact False.elim q
end L2
namespace L2
open PySem PySem.Spec PyProof.Rows
section
variable{X:Cx}{x:Str}{p pos:Pos}{e:Expr}{es:List Expr}{t:TA}{id T:String}{r:List V->Hp->VK->Prop}
def iF(r:List V->Hp->VK->Prop)(t:TA):TE:=λσ H Q=>t σ H λvs H1=>r vs H1 Q
def T7(hc:Yr X (.builtin id) r)(hg:Gl X x)(hm:X.mg x=none)(hv:bootBuiltins x=some (.builtin id))(ha:PA X (e::es) t)(hn:x≠"__name__":=by decide)(hdb:(x==("__debug__":Str))=false:=by decide)
 (he:starEach (e::es) X.env=(false,eval e X.env)::starEach es X.env:=by rfl) (hpl:(backTo pos<|starEach es X.env).any (·.1)=false:=by rfl):PE X (.Call (.Name x p) (e::es) [] pos) (iF r t):=by
 intro pins s σ H Q I h;refine wpAny_Call_Name_kw<|Yy I hg hm hv ?_ hn hdb;exact PyProof.Rows.callWith_builtin1 (wD (ha pos pins s σ H _ I h) λus s1 ⟨vs,H1,I1,r1,q1⟩=>hc pins s1 σ H1 vs us Q I1 r1 q1) he hpl
def B7(hc:Yr X (.type T) r)(hg:Gl X x)(hm:X.mg x=none)(hv:bootBuiltins x=some (.type T))(ha:PA X (e::es) t)(hn:x≠"__name__":=by decide)(hdb:(x==("__debug__":Str))=false:=by decide)
 (he:starEach (e::es) X.env=(false,eval e X.env)::starEach es X.env:=by rfl) (hpl:(backTo pos<|starEach es X.env).any (·.1)=false:=by rfl):PE X (.Call (.Name x p) (e::es) [] pos) (iF r t):=by
 intro pins s σ H Q I h;refine wpAny_Call_Name_kw<|Yy I hg hm hv ?_ hn hdb;exact PyProof.Rows.callWith_type1 (wD (ha pos pins s σ H _ I h) λus s1 ⟨vs,H1,I1,r1,q1⟩=>hc pins s1 σ H1 vs us Q I1 r1 q1) he hpl
end
end L2
namespace L2
open PySem PySem.Spec PyProof.Rows
section
variable{κ:Type}[DecidableEq κ]
noncomputable def QY(kvs:List (κ×V))(k:κ):Option V:=(kvs.find? λkv=>decide (kv.1=k)).map (·.2)
def Oa{p r}{k:κ}(e:p.1=k):QY (p::r) k=some p.2:=by simp[QY,e]
def Ib{p r}{k:κ}(e:¬p.1=k):QY (p::r) k=QY r k:=by simp[QY,e]
def Qg.isSome_eq(r:Qg o u):o.isSome=u.isSome:=by
 cases o with
 |none=>cases u with
  |none=>rfl
  |some _=>exact(r).elim
 |some _=>cases u with
  |none=>exact(r).elim
  |some _=>rfl
def KV.val{kvs vs}(r:KV kvs vs)(k:κ):Qg (QY kvs k) (valueAt vs k):=by
 induction r with
 |nil=>exact True.intro
 | @cons p q ps qs h t ih=>
  obtain⟨h1,h2⟩:=h
  by_cases e:p.1=k
  . have e':q.1=k:=h1.symm.trans e;have b:valueAt (q::qs) k=some q.2:=by simp[valueAt,e']
    rwa [Oa e,b]
  . have e':¬q.1=k:=λz=>e<|h1.trans z;have b:valueAt (q::qs) k=valueAt qs k:=by simp[valueAt,e']
    rwa [Ib e,b]
theorem KV.length(r:KV kvs vs):kvs.length=vs.length:=Paired.length r
end
def Bg(r:RelV (kV k) u):(wI P w).is k u=true:=by
 cases k with
 |inl i=>obtain⟨t,e⟩:=(r);subst e;exact MF P w i t
 |inr x=>obtain⟨t,e⟩:=(r);subst e;exact WN P w x t
section
variable{P:Program}{w:World}{H:Hp}{h:Heap}{a:Addr}
def oE(ok:UW P w H h)(e:Rd H a u):vG P w H h a u:=e.ok ok
def qS(ok:UW P w H h)(e:Rd H a (.dK kvs)):kvs.length<=sizeLine/\(a==sysModules)=false/\∃vs,KV kvs vs/\h.DictOf (wI P w) a vs:=
 show vG P w H h a _ from oE ok e
end
section
variable{X:Cx}{pins:List (Addr×Obj)}{σ:St}{H:Hp}{s:Shared}{a:Addr}{y v:V}{u r:Value}{o:Option V}{A:Around}{E:Value->Shared->Prop}
def Inv.big(I:Inv X pins σ H s):sysModules<s.heap.objs.size:=by
 have h:=(I.mod.glob.keeps I.bk).lt;exact Nat.lt_trans (by decide) h
def Iy(z:kvs.length<=sizeLine)(hd:(a==sysModules)=false)(rel:KV kvs vs)(dd:h'.DictOf (wI P w) a vs):
 vG P w H' h' a (.dK kvs):=⟨z,hd,vs,rel,dd⟩
end
end L2
namespace HT
open PySem PyProof.Rows
section
variable{prog:Program}{w:World}{A:Around}{E:Value->Shared->Prop}{s:Shared}
def Aa(ht:IsTup s.heap t vs.toArray)(hb:IsTup s.heap b ws.toArray)(hv:vs≠[])
 (h1:ws=[]->Q (.ref t) s) (h2:ws≠[]->Q (.ref s.heap.objs.size) {s with heap:=s.heap.push {cls:=.type "tuple",data:=.seq (vs++ws).toArray}})
 (hsz:vs.length+ws.length<=sizeLine):wpAny (model prog w) A (binaryOp .Add (.ref t)<|.ref b) Q E s:=by
 obtain⟨⟨cls,dd,data,sl⟩,ho,hc,n,hd⟩:=id ht;obtain⟨⟨cls2,dd2,data2,sl2⟩,ho2,hc2,n2,hd2⟩:=id hb;subst hc hd hc2 hd2;have e:vs.toArray++ws.toArray=(vs++ws).toArray:=by simp
 by_cases hw:ws=[]
 . exact concat_meets ⟨_,ho,rfl⟩ ⟨_,ho2,rfl⟩ noFill_tuple_add seq_tuple_add PySem.F.slot_tuple_add PySem.F.entry_tuple_add (PySem.F.args_tuple_add_2 _ _)
    (tuple_addW1 t b vs.toArray ws.toArray n n2 dd dd2 sl sl2 (by simpa using hv)<|by simp[hw]) ⟨ho,ho2,h1 hw⟩
 . refine concat_meets ⟨_,ho,rfl⟩ ⟨_,ho2,rfl⟩ noFill_tuple_add seq_tuple_add PySem.F.slot_tuple_add PySem.F.entry_tuple_add (PySem.F.args_tuple_add_2 _ _)
    (tuple_addW2 t b vs.toArray ws.toArray n n2 dd dd2 sl sl2 (by simpa using hv) (by simpa using hw)<|hsz) ⟨ho,ho2, ?_⟩
   rw[e];exact h2 hw
noncomputable def sIx(n d:Nat):Option Int->Nat
 |none=>d
 |some v=>if v<0 then(v+(n:Int)).toNat else min v.toNat n
def Qr(n d:Nat):sIx n d none=d:=rfl
def Yn(n d k:Nat):sIx n d (some (k:Int))=min k n:=rfl
def Bf(v)(n d:Nat):(if v<0 then max (v+(n:Int)) 0 else min v (n:Int))=((sIx n d (some v):Nat):Int):=by
 show _=(((if v<0 then(v+_).toNat else min v.toNat n):Nat):Int)
 by_cases hv:v<0
 . simp only[if_pos hv];omega
 . simp only[if_neg hv];omega
def FH(lo hi)(n:Nat):Builtin.Slice.sliceAdjust lo hi 1 (n:Int)=(((sIx n 0 lo:Nat):Int),((sIx n n hi:Nat):Int)):=by
 refine Prod.ext ?_ ?_
 . cases lo with
   |none=>rfl
   |some v=>exact Bf v n 0
 . cases hi with
   |none=>rfl
   |some v=>exact Bf v n n
def EC(i j:Nat):Builtin.Slice.slicePlaces (i:Int) (j:Int) 1=j-i:=by
 unfold Builtin.Slice.slicePlaces;have h1:(1:Int) > 0:=by omega
 simp
 split<;>omega
def T8(p:IsPart v o)(h:Q o s):wpAny (model prog w) A (Builtin.Slice.slicePartIndex v) Q E s:=by
 cases p with
 |none=>exact slicePart_none h
 |int i t=>exact slicePart_int h
def Q9{sl vl vu lo hi}{n:Nat}{Q}(hs:s.heap.IsSliceOf sl vl vu .none)(pl:IsPart vl lo)(pu:IsPart vu hi)
 (h:Q (((sIx n 0 lo:Nat):Int),1,sIx n n hi-sIx n 0 lo) s):wpAny (model prog w) A (Builtin.Slice.sliceApplied (.ref sl)<|pure (n:Int)) Q E s:=by
 obtain⟨os,hos,hcs,hds⟩:=id hs;refine zxD<|zxD<|wpAny_field hos hds rfl<|zxD<|wpAny_field hos hds rfl<|zxD<|wpAny_field hos hds rfl<|zxE ?_;refine zxD<|slicePart_none ?_;refine zxD<|T8 pl<|zxD<|T8 pu<|zxD<|zxE ?_;show wpAny _ _ (match Builtin.Slice.sliceAdjust lo hi 1 _ with|(lo,hi)=>pure (lo,_,Builtin.Slice.slicePlaces lo hi 1)) _ _ s;rw[FH lo hi n];show wpAny _ _ (pure _) _ _ s;rw[EC];exact zxE h
def C1(xs:Array Value)(i k:Nat):((List.range k).filterMap λ(m:Nat)=>xs[((i:Int)+(m:Int)*1).toNat]?).toArray=((xs.toList.drop i).take k).toArray:=by
 have e:(λ(m:Nat)=>xs[(i+(m:Int)*1).toNat]?)=λm=>xs[i+m]? := by
  funext m;have:(i+(m:Int)*1).toNat=i+m:=by omega
  rw[this]
 rw[e];have:=pick_run xs i k;rw[List.filterMap_map]at this;have e2:(_∘λx=>i+x)=λm=>xs[i+m]? := rfl;rw[e2]at this;rw[this]
def Ql{t sl items vl vu lo hi Q}(ht:IsTup s.heap t items)(hs:s.heap.IsSliceOf sl vl vu .none)(pl:IsPart vl lo)(pu:IsPart vu hi)
 (hw:¬(sIx items.size 0 lo=0/\sIx items.size items.size hi=items.size))
 (h:Q (.ref s.heap.objs.size) {s with heap:=s.heap.push {cls:=.type "tuple",data:=.seq ((items.toList.drop<|sIx items.size 0 lo).take<|sIx items.size items.size hi-sIx items.size 0 lo).toArray}})
 (hsz:items.size<=sizeLine):wpAny (model prog w) A (getItem (.ref t)<|.ref sl) Q E s:=by
 have htake:sizeOk (.seq ((items.toList.drop<|sIx items.size 0 lo).take<|sIx items.size items.size hi-sIx items.size 0 lo).toArray):=by
  show((items.toList.drop _).take _).toArray.size<=sizeLine;rw[zzH,zzS,List.length_drop,zyT];omega
 obtain⟨os,hos,hcs,hds⟩:=id hs;have hTs:s.TypeIs (.ref sl) "slice":=⟨os,hos,hcs⟩;unfold getItem
 try with_reducible refine zxI ?_
 first|refine zxD _|skip
 refine zxD<|wpAny_sequenceKey ht.typeIs (by decide) ?_;refine zxD<|wpAny_callSpecial?_slot ht.typeIs PyProof.Rows.slot_tuple_getitem
  (zxL PyProof.Rows.slot_tuple_getitem ht.typeIs entry_tuple_getitem ?_<|args_tuple_getitem _ _)
 show wpAny _ _ (Builtin.Tuple.tupleItemsOf _ >>= _) _ _ s;refine zxD<|tupleItemsOf_ ht ?_;refine zxD<|wpAny_typeOf hTs ?_;refine zxD<|Q9 hs pl pu ?_;have hno:¬((((sIx items.size 0 lo:Nat):Int)==0&&(1:Int)==1&&(sIx items.size items.size hi-sIx items.size 0 lo)==items.size)=true):=by
  intro q;rw[zyC,zyC]at q;have q1:=eq_of_beq q.1.1;have q2:=eq_of_beq q.2;exact hw ⟨by omega,by omega⟩
 show wpAny _ _ (if _=true then _ else _) _ _ s;rw[if_neg hno,C1]
 first
  |exact zxD (wpAny_newObj_type (zxE ⟨_,rfl,zxE h⟩) htake)
  |exact zxD _
  |exact zxD _
  |exact zxD _
end
end HT
namespace L2
open PySem PySem.Spec PyProof.Rows
abbrev TO:=St->Hp->(Option Int->Hp->Prop)->Prop
def PO(X:Cx)(e:Option Expr)(t:TO):Prop:=
 ∀(pins:List (Addr×Obj)) (s:Shared) (σ:St) (H:Hp) (Q:Option Int->Hp->Prop),Inv X pins σ H s->t σ H Q->
  wpAny (model X.prog X.w) X.A (evalPart e X.env) (λu s'=>∃o H',Inv X pins σ H' s'/\IsPart u o/\Q o H') X.xe s
def F5:TO:=λ_ H Q=>Q none H
def pI(t:TE):TO:=λσ H Q=>t σ H λx H1=>∃i,x = .int i/\Q (some i) H1
def intsAre_of:∀{us:List Value},zU (ns.map V.int) us->IntsAre us ns:=by
 induction ns with
 |nil=>intro us r;cases r;exact .nil
 |cons n ns ih=>
  intro us r;cases r with
  |cons r1 r2=>
   obtain⟨t,e⟩:=r1;subst e;exact .cons n t<|ih r2
section
variable{X:Cx}{e:Expr}{te:TE}{lo hi:Option Expr}{tl th:TO}{pos p2:Pos}
def IW:PO X none F5:=by
 intro pins s σ H Q I h;rw[evalPart_none];exact zxE ⟨none,H,I,.none,h⟩
def A5(h:PE X e te):PO X (some e) (pI te):=by
 intro pins s σ H Q I hw;rw[evalPart_some];refine wD (h pins s σ H _ I hw) λu s1 ⟨x,H1,I1,r1,q1⟩=>?_;obtain⟨i,rfl,q⟩:=q1;obtain⟨t,rfl⟩:=r1;exact⟨some i,H1,I1,.int i t,q⟩
def ll(X:Cx)(r:V->Option Int->Option Int->Hp->VK->Prop):Prop:=
 ∀(pins:List (Addr×Obj)) (s:Shared) (σ:St) (H:Hp) (x:V) (v vl vu:Value) (lo hi:Option Int) (sl:Addr) (Q:VK),Inv X pins σ H s->RelV x v->s.heap.IsSliceOf sl vl vu .none->IsPart vl lo->IsPart vu hi->r x lo hi H Q->
  ∃T id,typeLookup (.type T) "__getitem__"=pure (some<|.builtin id)/\s.TypeIs v T/\wpAny (model X.prog X.w) X.A (getItem v<|.ref sl) (EP X pins σ Q) X.xe s
def iQ(r:V->Option Int->Option Int->Hp->VK->Prop)(te:TE)(tl th:TO):TE:=λσ H Q=>te σ H λx H1=>tl σ H1 λl H2=>th σ H2 λu H3=>r x l u H3 Q
def O9(hr:ll X r)(he:PE X e te)(hl:PO X lo tl)(hu:PO X hi th):PE X (.Subscript e (.Slice lo hi none p2) pos) (iQ r te tl th):=by
 intro pins s σ H Q I h;refine Subscript_<|wD (he pins s σ H _ I h) λv s1 ⟨x,H1,I1,r1,q1⟩=>?_;refine wpAny_Slice<|wD (hl pins s1 σ H1 _ I1 q1) λvl s2 ⟨l,H2,I2,pl,q2⟩=>wD (hu pins s2 σ H2 _ I2 q2) λvu s3 ⟨u,H3,I3,pu,q3⟩=>?_;rw[evalPart_none];refine zxE ?_;have I4:Inv X pins σ H3 {s3 with heap:=s3.heap.push {cls:=.type "slice",data:=.fields #[vl,vu,.none]}}:=I3.kept (t':=s3.toks) λb ob q=>zxF _ q;obtain⟨T,id,hT,ht,hg⟩:=hr pins {s3 with heap:=s3.heap.push {cls:=.type "slice",data:=.fields #[vl,vu,.none]}} σ H3 x v vl vu l u s3.heap.objs.size Q I4 r1 (Heap.IsSliceOf.new ..) pl pu q3;exact tail_any ht hT hg (by with_unfolding_all rfl)
def SZ(xs:List V)(lo hi:Option Int):List V:=(xs.drop<|HT.sIx xs.length 0 lo).take<|HT.sIx xs.length xs.length hi-HT.sIx xs.length 0 lo
def UL(xs)(lo hi):(SZ xs lo hi).length<=xs.length:=by
 unfold SZ;rw[zzS,List.length_drop];omega
def lY(K:zzA):V->Option Int->Option Int->Hp->VK->Prop:=λx lo hi H Q=>∃a xs,x = .ref a/\VP K H a xs/\
 ¬(HT.sIx xs.length 0 lo=0/\HT.sIx xs.length xs.length hi=xs.length)/\∀p,H p=none->Q (.ref p) (upd H p<|.tup<|SZ xs lo hi)
def uw:ll X (lY X.K):=by
 intro pins s σ H x v vl vu lo hi sl Q I rx hs pl pu h;obtain⟨a,xs,rfl,hx,hw,q⟩:=h;cases rx;obtain⟨its,r,ht,hz⟩:=I.tuple hx;have hlen:its.toArray.size=xs.length:=by rw[zzH];exact r.length.symm
 refine⟨"tuple",_,PyProof.Rows.slot_tuple_getitem.lookup,ht.typeIs, ?_⟩;refine HT.Ql ht hs pl pu (by rw[hlen];exact hw) ?_ (by rw[hlen];exact hz);rw[hlen];refine⟨.ref s.heap.objs.size,_,I.laid (t':=s.toks) (λb ob q=>zxF _ q) (zzN _) ?_,rfl,q _<|I.hok.fresh<|zzN _⟩;exact⟨zzO (UL xs lo hi) hz,_,(r.drop _).take _,IsTup.new _ _⟩
def nG(K:zzA):R2:=λx y H Q=>∃a b xs ys,x = .ref a/\y = .ref b/\VP K H a xs/\VP K H b ys/\xs≠[]/\xs.length+ys.length<=sizeLine/\
 (ys=[]->Q (.ref a) H)/\(ys≠[]->∀p,H p=none->Q (.ref p) (upd H p<|.tup<|xs++ys))
def zU.nil_iff(r:zU xs us):us=[] ↔ xs=[]:=by
 cases r with
 |nil=>simp
 |cons _ _=>simp
def Di:Ux X (binaryOp .Add) (nG X.K):=by
 intro pins s σ H x y v u Q I rx ry h;obtain⟨a,b,xs,ys,rfl,rfl,ha,hb,hx,hz,q1,q2⟩:=h;cases rx;cases ry;obtain⟨its,r1,p1,_⟩:=I.tuple ha;obtain⟨its2,r2,p2,_⟩:=I.tuple hb;refine HT.Aa p1 p2 (λz=>hx<|r1.nil_iff.mp z) (λz=>⟨.ref a,H,I,rfl,q1<|r2.nil_iff.mp z⟩) (λz=>?_) (by rw[<-r1.length,<-r2.length];exact hz);refine⟨.ref s.heap.objs.size,_,I.laid (t':=s.toks) (λb ob q=>zxF _ q) (zzN _) ?_,rfl,q2 (λw=>z<|r2.nil_iff.mpr w) _<|I.hok.fresh<|zzN _⟩;exact⟨by rw[zzJ];exact hz,_,r1.append r2,IsTup.new _ _⟩
end
end L2
namespace L2
open PySem PySem.Spec PyProof.Rows
noncomputable def ixN(n:Nat)(i:Int):Option Nat:=if 0<=i then(if i<n then some i.toNat else none)else if -(n:Int)<=i then some (i+n).toNat else none
def atI{α:Type}(xs:List α)(i:Int):Option α:=(ixN xs.length i).bind λj=>xs[j]?
def Au(h:ixN n i=some j):seqIndex? i n=some j/\j<n /\ -(n:Int)<=i/\i<n:=by
 unfold ixN at h
 by_cases h0:0<=i
 . rw[if_pos h0]at h
   by_cases h1:i<n
   . rw[if_pos h1]at h;have e:=zzZ h;exact⟨by rw[seqIndex_of h0 h1,e],by omega,by omega,h1⟩
   . rw[if_neg h1]at h;cases h
 . rw[if_neg h0]at h
   by_cases h1 : -n<=i
   . rw[if_pos h1]at h;have e:=zzZ h;exact⟨by rw[seqIndex_neg (q1d h0) h1,e],by omega,h1,by omega⟩
   . rw[if_neg h1]at h;cases h
def L6(h:atI xs i=some v):∃j,seqIndex? i xs.length=some j/\xs[j]? = some v/\j<xs.length /\ -(xs.length:Int)<=i/\i<xs.length:=by
 unfold atI at h;cases e:ixN xs.length i with
 |none=>rw[e]at h;cases h
 |some j=>
  rw[e]at h;obtain⟨h1,h2,h3,h4⟩:=Au e;exact⟨j,h1,h,h2,h3,h4⟩
def Qv{α:Type}{xs}{j:Nat}{v:α}(h:xs[j]? = some v):atI xs (j:Int)=some v:=by
 have hj:=(zzG.mp h).1;have e:ixN xs.length (j:Int)=some j:=by
  unfold ixN;rw[if_pos (q0a),if_pos<|(q0e hj)];simp
 unfold atI;rw[e];exact h
def NC(b:Expr):Prop:=∀o i,subscripted b false o i=operate [o,i] (getItem o i)
def oi(X:Cx)(r:R2):Prop:=
 ∀(value slice:Expr) (pins:List (Addr×Obj)) (s:Shared) (σ:St) (H:Hp) (x y:V) (v u:Value) (Q:VK),Inv X pins σ H s->RelV x v->RelV y u->r x y H Q->
  subscripted slice false v u=operate [v,u] (getItem v u)->wpAny (model X.prog X.w) X.A (subscriptTail value slice v u) (EP X pins σ Q) X.xe s
def kM(X:Cx)(id:String)(r:V->List V->Hp->VK->Prop):Prop:=
 ∀(pins:List (Addr×Obj)) (s:Shared) (σ:St) (H:Hp) (x:V) (xs:List V) (v:Value) (us:List Value) (Q:VK),Inv X pins σ H s->RelV x v->zU xs us->r x xs H Q->
  wpAny (model X.prog X.w) X.A (call (.builtin id) (v::us)) (EP X pins σ Q) X.xe s
section
variable{X:Cx}{a b:Expr}{ta tb:TE}{pos:Pos}
def mT(hr:oi X r)(ha:PE X a ta)(hb:PE X b tb)(hs:NC b):PE X (.Subscript a b pos) (nt r ta tb):=by
 intro pins s σ H Q I h;exact Subscript_<|su ha hb I h λv u s2 x y H2 I2 rx ry q=>hr a b pins s2 σ H2 x y v u Q I2 rx ry q<|hs _ _
def ji(K:zzA):R2:=λx y H Q=>∃p xs i v,x = .ref p/\y = .int i/\X3 K H p xs/\atI xs i=some v/\Q v H
def ke(K:zzA):R2:=λx y H Q=>∃p xs i v,x = .ref p/\y = .int i/\VP K H p xs/\atI xs i=some v/\Q v H
def jE:R2:=λx y H Q=>∃z i c,x = .str z/\y = .int i/\z.length<=sizeLine/\atI z.cps.toList i=some c/\Q (.str ⟨#[c]⟩) H
def JE:oi X (ji X.K):=by
 intro value slice pins s σ H x y v u Q I rx ry h hs;obtain⟨p,xs,i,z,rfl,rfl,hq,he,q⟩:=h;cases rx;obtain⟨t,rfl⟩:=ry;obtain⟨its,r,pl,hz⟩:=I.list hq;obtain⟨j,h1,h2,h3,h4,h5⟩:=L6 he;obtain⟨w,ew,rw'⟩:=r.get h2;have hl:=r.length;have hn:=Uv;have fin:EP X pins σ Q w s:=⟨z,H,I,rw',q⟩
 by_cases h0:0<=i
 . have hj:i.toNat=j:=by
    rw[seqIndex_of h0 h5]at h1;exact zzZ h1
   exact item_listR pl.isList h0 (by omega) (by rw[hj];simpa using ew) fin hs
 . have hj:(i+(its.toArray.size:Int)).toNat=j:=by
    rw[seqIndex_neg (q1d h0) h4]at h1;rw[zzH,<-hl];exact zzZ h1
   exact subscriptTail_builtinR pl.isList.typeIs slot_list_getitem.lookup
    (wpAny_getItem_list_neg pl.isList (q1d h0) (by rw[zzH]<;>omega) (by omega) (by rw[hj];simpa using ew) ⟨rfl,fin⟩) hs
def rN:oi X (ke X.K):=by
 intro value slice pins s σ H x y v u Q I rx ry h hs;obtain⟨p,xs,i,z,rfl,rfl,hq,he,q⟩:=h;cases rx;obtain⟨t,rfl⟩:=ry;obtain⟨its,r,pl,hz⟩:=I.tuple hq;obtain⟨j,h1,h2,h3,h4,h5⟩:=L6 he;obtain⟨w,ew,rw'⟩:=r.get h2;have hl:=r.length;have hn:=Uv;have fin:EP X pins σ Q w s:=⟨z,H,I,rw',q⟩;exact subscriptTail_builtinR pl.typeIs slot_tuple_getitem.lookup
  (getItem_tuple pl (by omega) (by omega) (by rw[zzH,<-hl];exact h1) (by simpa using ew) ⟨rfl,fin⟩) hs
def rA:oi X jE:=by
 intro value slice pins s σ H x y v u Q I rx ry h hs;obtain⟨z,i,c,rfl,rfl,hz,he,q⟩:=h;obtain⟨t,rfl⟩:=rx;obtain⟨t',rfl⟩:=ry;obtain⟨j,h1,h2,h3,h4,h5⟩:=L6 he;have hl:z.cps.toList.length=z.length:=by simp[Str.length]
 rw[hl]at h1 h4 h5;have hn:=Uv;exact tail_any (typeIs_str s z t) slot_str_getitem.lookup (getItem_str (by
  have e1:decide (i < -(2 ^ 63:Int))=false:=zyG (by omega);have e2:decide (i ≥ 2 ^ 63)=false:=zyG (by omega);rw[e1,e2,Bool.or_false]) (by rw[h1];simpa using h2) ⟨.str ⟨#[c]⟩,H,I.tok _,⟨_,rfl⟩,q⟩) hs
def LC(lo hi)(n:Nat):(sliceBounds lo hi none n).1=((HT.sIx n 0 lo:Nat):Int)/\(sliceBounds lo hi none n).2.1=((HT.sIx n n hi:Nat):Int)/\(sliceBounds lo hi none n).2.2=1:=by
 refine⟨?_, ?_,rfl⟩
 . cases lo with
   |none=>simp[sliceBounds,HT.sIx]
   |some i=>
    simp only[sliceBounds,HT.sIx,Option.getD_none,show 1 > 0 by decide,if_true]
    by_cases h:i<0
    . simp only[h,if_true]<;>omega
    . simp only[h,if_false]<;>omega
 . cases hi with
   |none=>simp[sliceBounds,HT.sIx]
   |some i=>
    simp only[sliceBounds,HT.sIx,Option.getD_none,show 1 > 0 by decide,if_true]
    by_cases h:i<0
    . simp only[h,if_true]<;>omega
    . simp only[h,if_false]<;>omega
def GI(its:List Value)(lo hi):slicePick its.toArray lo hi none=((its.drop<|HT.sIx its.length 0 lo).take<|HT.sIx its.length its.length hi-HT.sIx its.length 0 lo).toArray:=by
 obtain⟨h1,h2,h3⟩:=LC lo hi its.toArray.size;unfold slicePick;rw[h1,h2,h3];simp only[sliceRange_one,pick_run,zzH]<;>rfl
def jg(K:zzA):V->Option Int->Option Int->Hp->VK->Prop:=λx lo hi H Q=>∃a xs,x = .ref a/\X3 K H a xs/\∀p,H p=none->Q (.ref p) (upd H p<|.lst<|SZ xs lo hi)
def Ax:ll X (jg X.K):=by
 intro pins s σ H x v vl vu lo hi sl Q I rx hs pl pu h;obtain⟨a,xs,rfl,hx,q⟩:=h;cases rx;obtain⟨its,r,ht,hz⟩:=I.list hx;have hlen:=r.length;refine⟨"list",_,slot_list_getitem.lookup,ht.isList.typeIs, ?_⟩;refine wpAny_getItem_list_slice ht.isList hs pl pu .none (by simp) ?_ (by rw[zzH]<;>omega);rw[GI,<-hlen];refine⟨.ref s.heap.objs.size,_,I.laid (t':=s.toks) (λb ob q=>zxF _ q) (zzN _) ?_,rfl,q _<|I.hok.fresh<|zzN _⟩;exact⟨zzO (UL xs lo hi) hz,_,0,(r.drop _).take _,zxH _ rfl⟩
def Qq:Yr X (.builtin "len") (λxs H Q=>∃p ys,xs=[.ref p]/\(X3 X.K H p ys\/VP X.K H p ys)/\Q (.int ys.length) H):=by
 intro pins s σ H xs us Q I r h;obtain⟨p,ys,rfl,hq,q⟩:=h;obtain⟨u,rfl,rx⟩:=vals1 r;cases rx;have hn:=Uv
 rcases hq with hq|hq
 . obtain⟨its,r',pl,hz⟩:=I.list hq;have hlen:=r'.length;exact Calls.call_len_list pl.isList (by simp only[zzH]<;>omega) ⟨.int ys.length,H,I.tok _,⟨s.toks+1,by rw[zzH,hlen]⟩,q⟩
 . obtain⟨its,r',pl,hz⟩:=I.tuple hq;have hlen:=r'.length;exact len_tuple pl (by simp only[zzH]<;>omega) ⟨.int ys.length,H,I.tok _,⟨s.toks+1,by rw[zzH,hlen]⟩,q⟩
def Nm:Yr X (.builtin "len") (λxs H Q=>∃z,xs=[.str z]/\z.length<=sizeLine/\Q (.int z.length) H):=by
 intro pins s σ H xs us Q I r h;obtain⟨z,rfl,hz,q⟩:=h;obtain⟨u,rfl,t,rfl⟩:=vals1 r;have hn:=Uv;exact len_str (by omega) ⟨.int z.length,H,I.tok _,⟨_,rfl⟩,q⟩
def QK:Yr X (.type "list") (λxs H Q=>∃p ys,xs=[.ref p]/\(X3 X.K H p ys\/VP X.K H p ys)/\∀l,H l=none->Q (.ref l) (upd H l<|.lst ys)):=by
 intro pins s σ H xs us Q I r h;obtain⟨p,ys,rfl,hq,q⟩:=h;obtain⟨u,rfl,rx⟩:=vals1 r;cases rx;have fin:∀its,zU ys its->ys.length<=sizeLine->∀h' c',_->
  h'.get? s.heap.objs.size=some {cls:=.type "list",dict:=none,data:=.seq its.toArray c',slots:=#[]}->EP X pins σ Q _ {s with heap:=h'}:=λits r' hz h' c' kp e=>
  ⟨.ref s.heap.objs.size,_,I.laid (t':=s.toks) kp (zzN _) (show vG X.prog X.w _ h' _ (.lst ys)from⟨hz,its,c',r',e⟩),rfl,q _<|I.hok.fresh<|zzN _⟩
 rcases hq with hq|hq
 . obtain⟨its,r',pl,hz⟩:=I.list hq;have hlen:=r'.length;obtain⟨o,ho,hc,n,hd⟩:=pl.isList;exact call_list_seq p (.inl rfl) ho hc hd (λh' c' kp e=>fin its r' hz h' c' kp e) (by simp only[zzH]<;>omega)
 . obtain⟨its,r',pl,hz⟩:=I.tuple hq;have hlen:=r'.length;obtain⟨o,ho,hc,n,hd⟩:=pl;exact call_list_seq p (.inr rfl) ho hc hd (λh' c' kp e=>fin its r' hz h' c' kp e) (by simp only[zzH]<;>omega)
def Vi:Yr X (.type "tuple") (λxs H Q=>∃p ys,xs=[.ref p]/\((X3 X.K H p ys/\∀l,H l=none->Q (.ref l) (upd H l<|.tup ys))\/(VP X.K H p ys/\Q (.ref p) H))):=by
 intro pins s σ H xs us Q I r h;obtain⟨p,ys,rfl,h⟩:=h;obtain⟨u,rfl,rx⟩:=vals1 r;cases rx
 rcases h with⟨hq,q⟩|⟨hq,q⟩
 . obtain⟨its,r',pl,hz⟩:=I.list hq;have hlen:=r'.length;refine call_tuple_list pl.isList (λh' kp=>?_) (by simp only[zzH]<;>omega);have I1:=I.kept (t':=s.toks) kp;have I2:=
    I1.laid (t':=s.toks) (λb o e=>zxF _ e) (zzN _) (show vG X.prog X.w _ _ _ (.tup ys)from⟨hz,its,r',IsTup.new _ _⟩)
   exact⟨.ref h'.objs.size,_,I2,rfl,q _<|I1.hok.fresh<|zzN _⟩
 . obtain⟨its,r',pl,hz⟩:=I.tuple hq;exact call_tuple_same pl ⟨.ref p,H,I,rfl,q⟩
def ix(K:zzA)(T:String)(x:V)(H:Hp):Prop:=match x with
 | .str _=>T="str"
 | .int _=>T="int"
 | .ref p=>(T="list"/\∃xs,X3 K H p xs)\/(T="tuple"/\∃o,K.lookup p=some o/\o.cls = .type "tuple"/\o.dict=none) \/
  (T="dict"/\((∃kvs,H p=some (.dK kvs))\/∃kvs,H p=some (.dT kvs)))\/(T="set"/\∃S n,H p=some (.set S n))
 |_=>False
def tu(I:Inv X pins σ H s)(r:RelV x v)(ty:ix X.K T x H):
 s.TypeIs v T/\∀a,v = .ref a->∃ob,s.heap.get? a=some ob/\ob.dict=none:=by
 cases x with
 |str z=>
  obtain⟨t,rfl⟩:=r;cases(ty);exact⟨typeIs_str s z t,λ_ e=>nomatch e⟩
 |int i=>
  obtain⟨t,rfl⟩:=r;cases(ty);exact⟨typeIs_int s i t,λ_ e=>nomatch e⟩
 |ref p=>
  cases r
  rcases ty with⟨rfl,xs,hq⟩|⟨rfl,o,hk,hc,hd⟩|⟨rfl,hk⟩|⟨rfl,S,n,hk⟩
  . obtain⟨its,_,pl,_⟩:=I.list hq;refine⟨pl.isList.typeIs,λa e=>?_⟩;cases e;obtain⟨o,n,e,c,hd,_⟩:=pl;exact⟨o,e,hd⟩
  . refine⟨⟨o,I.kIn p o hk,hc⟩,λa e=>?_⟩;cases e;exact⟨o,I.kIn _ o hk,hd⟩
  . have z:∃o,s.heap.get? p=some o/\o.ExactDict:=by
     rcases hk with⟨kvs,hk⟩|⟨kvs,hk⟩
     . obtain⟨_,_,_,_,o,_,_,e,ex,_⟩:=I.hok p _ hk;exact⟨o,e,ex⟩
     . obtain⟨_,_,_,_,o,_,_,e,ex,_⟩:=I.hok p _ hk;exact⟨o,e,ex⟩
    obtain⟨o,e,ex⟩:=z;refine⟨⟨o,e,ex.1⟩,λa e2=>?_⟩;cases e2;exact⟨o,e,ex.2.1⟩
  . obtain⟨o,_,_,_,e,ex,_⟩:=I.hok p _ hk;refine⟨⟨o,e,ex.1⟩,λa e2=>?_⟩;cases e2;exact⟨o,e,ex.2.1⟩
 |_=>exact False.elim ty
def ij(K:zzA)(T:String)(r:V->List V->Hp->VK->Prop)(to:TE)(t:TA):TE:=λσ H Q=>to σ H λx H1=>ix K T x H1/\t σ H1 λxs H2=>r x xs H2 Q
variable{o e:Expr}{es:List Expr}{to:TE}{t:TA}{name:Str}{apos cpos:Pos}{T id:String}{r:V->List V->Hp->VK->Prop}
def DP(pa:PlainAttrs T)(slot:Slot T name id)(hty:typeOf (.builtin id)=pure (.type "method_descriptor"))(hm:kM X id r)(ho:PE X o to)(ha:PA X (e::es) t)
 (hbase:attributeBase o name X.env (eval o X.env)=eval o X.env:=by rfl)
 (hfew:((backTo cpos<|starEach (e::es) X.env).all (λx=>!x.1)&&(backToKw cpos<|keywordEach [] X.env).all (λx=>x.1.isSome)
  && decide ((e::es).length+([]:List Keyword).length+(if([]:List Keyword).isEmpty then 0 else 1)<30))=true:=by rfl)
 (hline:(apos.endLine==cpos.line)=true:=by rfl) (hs:starEach (e::es) X.env=(false,eval e X.env)::starEach es X.env:=by rfl) (hplain:(backTo cpos<|starEach es X.env).any (·.1)=false:=by rfl):
 PE X (.Call (.Attribute o name apos) (e::es) [] cpos) (ij X.K T r to t):=by
 intro pins s σ H Q I h;refine wpAny_Call_method_late hbase hfew hline rfl<|wD (ho pins s σ H _ I h) λv s1 ⟨x,H1,I1,r1,ty,q1⟩=>?_;obtain⟨h1,h2⟩:=tu I1 r1 ty;refine⟨T,id,pa,slot,hty,h1,h2, ?_⟩;have hA:=ha cpos pins s1 σ H1 _ I1 q1;rw[hs]at hA ⊢;refine Calls.callWith_builtin (by show(false||(backTo cpos _).any (·.1))=false;rw[hplain]<;>rfl)<|Calls.evalArgs_plain ?_;exact wD hA λus s2 ⟨vs,H2,I2,r2,q2⟩=>hm pins s2 σ H2 x vs v us Q I2 r1 r2 q2
end
end L2
namespace L2
open PySem PySem.Spec PyProof.Rows
def m_(X:Cx)(id:String)(r:V->List V->Hp->VK->Prop):Prop:=
 ∀(pins:List (Addr×Obj)) (s:Shared) (σ:St) (H:Hp) (x:V) (xs:List V) (v:Value) (us:List Value) (Q:VK),Inv X pins σ H s->RelV x v->zU xs us->r x xs H Q->
  wpAny (model X.prog X.w) X.A (call (.builtin id) (v::us)) (EP X pins σ Q) X.xe s
def zU.one:∀{x:V}{us:List Value},zU [x] us->∃u,us=[u]/\RelV x u:=by
 intro x us h;cases h with
 |cons r t=>cases t;exact⟨_,rfl,r⟩
def zU.two:∀{x y:V}{us:List Value},zU [x,y] us->∃u v,us=[u,v]/\RelV x u/\RelV y v:=by
 intro x y us h;cases h with
 |cons r t=>
  cases t with
  |cons q t=>cases t;exact⟨_,_,rfl,r,q⟩
theorem zU.reverse(h:zU xs us):zU xs.reverse us.reverse:=by
 induction h with
 |nil=>exact .nil
 |cons r t ih=>rw[List.reverse_cons,List.reverse_cons];exact zU.append ih<|.cons r .nil
theorem zU.rep(h:zU xs us):∀k:Nat,zU (List.replicate k xs).flatten (List.replicate k us).flatten
 |0=>.nil
 |k+1=>by
  rw[List.replicate_succ,List.replicate_succ,List.flatten_cons,List.flatten_cons];exact zU.append h<|zU.rep h k
theorem foldl_rep(its):∀(k:Nat) (acc:List Value),
 List.foldl (λx1 x2=>x1++x2) acc.toArray (List.replicate k its.toArray)=(acc++(List.replicate k its).flatten).toArray
 |0,acc=>by simp
 |k+1,acc=>by
  have e:acc.toArray++its.toArray=(acc++its).toArray:=by simp
  have e2:(acc++its)++(List.replicate k its).flatten=acc++(List.replicate (k+1) its).flatten:=by
   rw[List.replicate_succ,List.flatten_cons,zxA]
  rw[<-e2,<-foldl_rep its k _,<-e,List.replicate_succ,List.foldl_cons]
section
variable{X:Cx}{pins:List (Addr×Obj)}{σ:St}{H:Hp}{s:Shared}{l b:Addr}{xs ys zs:List V}
def Inv.lset{its its':List Value}{n:Nat}{f}{t':Nat}(I:Inv X pins σ H s)(hH:H l=some (.lst xs))
 (e:s.heap.get? l=some {cls:=.type "list",data:=.seq its.toArray n}) (hf:f its.toArray=its'.toArray) (hv:zU ys its') (hz:ys.length<=sizeLine):
 Inv X pins σ (upd H l<|.lst ys) {s with heap:=s.heap.update l<|Obj.mapSeq f,toks:=t'}:=by
 have q:=PySem.IsL.update e f;rw[hf]at q;refine I.write (by rw[hH];exact trivial) (.inl rfl) (λb' u hb hu=>(Heap.get?_update_other s.heap _<|Ne.symm hb).trans hu) ⟨_,q⟩ ?_;exact⟨hz,its',_,hv,q⟩
def Inv.lnew(I:Inv X pins σ H s)(hv:zU ys its)(hz:ys.length<=sizeLine):
 Inv X pins σ (upd H s.heap.objs.size<|.lst ys) {s with heap:=s.heap.push {cls:=.type "list",data:=.seq its.toArray},toks:=t'}:=
 I.laid (λ_ _ q=>zxF _ q) (zzN _) ⟨hz,its,0,hv,zxH _ rfl⟩
theorem Inv.fresh(I:Inv X pins σ H s):H s.heap.objs.size=none:=I.hok.fresh<|zzN _
def Inv.lstM(I:Inv X pins σ H s)(hH:H l=some (.lst xs)):xs.length<=sizeLine/\∃(its:List Value) (n:Nat),zU xs its/\xs.length=its.length/\s.heap.get? l=some {cls:=.type "list",data:=.seq its.toArray n}:=by
 obtain⟨z,its,n,r,e⟩:=I.hok l _ hH;exact⟨z,its,n,r,r.length,e⟩
def Mx(h:n<=sizeLine):Builtin.List.listTooLong n=false:=by
 unfold Builtin.List.listTooLong;exact zyG (by omega)
end
section
variable{X:Cx}
def Bu:V->List V->Hp->VK->Prop:=λx vs H Q=>∃l xs y,x = .ref l/\vs=[y]/\H l=some (.lst xs)/\xs.length<sizeLine/\Q .non (upd H l<|.lst<|xs++[y])
def YU:m_ X "list.append" Bu:=by
 intro pins s σ H x vs v us Q I rx rv h;obtain⟨l,xs,y,rfl,rfl,hH,hz,q⟩:=h;cases rx;obtain⟨u,rfl,ru⟩:=rv.one;obtain⟨z,its,n,r,hl,e⟩:=I.lstM hH;refine call_meets F.slot_list_append ⟨_,e,rfl⟩ F.entry_list_append (F.args_list_append_2 _ _) (PySem.list_append l its.toArray n u<|by rw[zzH];exact q0P hz hl) ⟨e, ?_⟩;refine⟨.non,_,I.lset (its':=its++[u]) hH e (by simp) (r.append<|.cons ru .nil) ?_,rfl,q⟩;rw[zzJ,List.length_singleton];omega
def BK:V->List V->Hp->VK->Prop:=λx vs H Q=>∃l b xs zs,x = .ref l/\vs=[.ref b]/\H l=some (.lst xs)/\H b=some (.lst zs)/\xs.length+zs.length<=sizeLine/\Q .non (upd H l<|.lst<|xs++zs)
def SG:m_ X "list.extend" BK:=by
 intro pins s σ H x vs v us Q I rx rv h;obtain⟨l,b,xs,zs,rfl,rfl,hH,hB,hz,q⟩:=h;cases rx;obtain⟨u,rfl,ru⟩:=rv.one;cases ru;obtain⟨z,its,n,r,hl,e⟩:=I.lstM hH;obtain⟨z2,its2,n2,r2,hl2,e2⟩:=I.lstM hB;have hsz:its.toArray.size+its2.toArray.size<=sizeLine:=by rw[zzH,zzH];omega
 have hlong:¬(!its.toArray.isEmpty&&Builtin.List.listTooLong (its.toArray.size+its2.toArray.size))=true:=by
  rw[Mx hsz,Bool.and_false];exact zyV
 refine call_meets F.slot_list_extend ⟨_,e,rfl⟩ F.entry_list_extend (F.args_list_extend_2 _ _)
  (AutoSeq1.list_extend_list_list_0 l its.toArray n b its2.toArray n2 hlong (by rw[zzH];exact q0f hl z)<|by omega) ⟨e,e2, ?_⟩
 refine⟨.non,_,I.lset (its':=its++its2) hH e (by simp) (r.append r2) ?_,rfl,q⟩;rw[zzJ];omega
def len_rep(xs:List α)(k:Nat):(List.replicate k xs).flatten.length=k*xs.length:=by
 induction k with
 |zero=>simp
 |succ k ih=>rw[List.replicate_succ,List.flatten_cons,zzJ,ih,Nat.succ_mul,Nat.add_comm]
end
end L2
namespace Att
open PySem PySem.W PySem.Calls PyProof.Rows
def RC:∀(ns:List Int) (vs:List Value),WellAll P h vs (ns.map WData.int)->IntsAre vs ns:=by
 intro ns
 induction ns with
 |nil=>
  intro vs w;rw[List.map_nil]at w;cases w;exact .nil
 |cons n ns ih=>
  intro vs w;rw[zyS]at w;cases w with
  |cons a b=>
   cases a;exact .cons _ _<|ih _ b
def B_{l:OpenLaw}{n:Nat}(hn:l.most=some n){P h args vals}
 (hpre:l.row.toRowW.claim.pre args=true) (hwl:WellAll P h vals args):
 ∃a vs ns,vals=[Value.ref a]/\args=[WData.list<|ns.map WData.int]/\h.get? a=some {cls:=.type "list",data:=.seq vs.toArray}/\IntsAre vs ns/\ns.length<=n:=by
 have hsh:=(pre_splitW hpre).1;have hc:l.pre.holds [] {args:=args}=true:=(pre_splitW hpre).2;obtain⟨d,r,rfl,h1,h2⟩:=hasAllW_cons hsh;obtain rfl:=hasAllW_nil h2;obtain⟨xs,rfl,h3⟩:=hasW_list h1;obtain⟨ns,rfl⟩:=items_int h3;have hlen:ns.length<=n:=by
  unfold OpenLaw.pre at hc;have h4:(WTm.not<|.lt (.lit<|.int (n:Int))<|.len<|.arg 0).holds [] {args:=[.list<|ns.map .int]}=true:=by
   have h4:=(holds_andW hc).1;rw[hn]at h4;exact h4
  have h5:=condW_of h4<|w_not<|w_lt w_lit<|w_len_list<|w_arg rfl;rw[zzB]at h5;refine Nat.le_of_not_lt λq=>?_;have q':n<(ns.length:Int):=q0e q
  first
   |(rw[zyO q']at h5;exact absurd h5 (by decide))
   |(simp at h5;omega)
 cases hwl with
 |cons w1 w2=>
  cases w2;cases w1 with
  |list ho hall=>exact⟨_,_,ns,rfl,rfl,ho,RC ns _ hall,hlen⟩
def Sk(l:OpenLaw)(args):l.row.toRowW.claim.post args (.bool true) args=true:=
 postW_of
  (show WShape.has [] _ .bool=true by first|rfl|decide|simp[WShape.has,WShape.arms,WShape.armsAll])
  (w_eq_bool (w_res rfl) w_lit) rfl
def Mh{l:OpenLaw}{n:Nat}{q loose XP YP d}
 (hn:l.most=some n) (hdf:d.params.defaults=[])
 (call:∀(w:World) (s₀ s₁:Shared) (mg mb:Str->Option Value) (fa:Addr) (o:Obj) (pm cd doc:Value) (a:Addr) (vs:List Value) (ns:List Int),
  Ground q loose [] XP w s₀ mg mb s₁.heap->YP w s₁.heap->
  s₁.heap.get? fa=some o->o.data = .func (docDef d.name d.params d.body d.scope pm cd doc)->s₁.heap.CodeRec cd d.name->mg d.name=some (.ref fa)->
  s₁.heap.get? a=some {cls:=.type "list",data:=.seq vs.toArray}->IntsAre vs ns->ns.length<=n->s₁.gens = #[]->
  codeAny (model l.prog w) callerA (.call (.ref fa) ⟨[.ref a],[]⟩) (λr s'=>r = .ok (.ret<|.bool true)/\OldK s₁.heap s'.heap/\s'.os=s₁.os/\AllBare s'.gens) s₁):
 WalkO q loose XP YP l.row.toRowW d [] (λf vs=>PySem.call f vs):=by
 intro w s₀ s₁ mg mb G Y fa o pm cd doc dV kV ho hd hcd hD hmg hg args vals as hpre hlay hrd hwl hlo;obtain rfl:dV = .none:=Dflts.none hD hdf;obtain rfl:kV = .none:=Dflts.noKw hD;obtain⟨a,vs,ns,rfl,rfl,hobj,hints,hlen⟩:=B_ hn hpre hwl;refine enter_call<|codeAny_mono (call w s₀ s₁ mg mb fa o pm cd doc a vs ns G Y ho (fd_plain hd) hcd hmg hobj hints hlen hg) λr s' hq=>?_;obtain⟨rfl,h2,h3,h4⟩:=hq;exact⟨.inl ⟨.bool true,.bool true,[],rfl,λ_=>rfl,.bool true,Sk l _,λ_=>⟨List.Pairwise.nil,λ_ hm=>(nomatch hm)⟩⟩,h2,h3,h4⟩
end Att
namespace L2
open PySem PySem.Spec PyProof.Rows
theorem Kv:∀{vs:List Value}{ns:List Int},IntsAre vs ns->zU (ns.map V.int) vs
 |_,_,.nil=>.nil
 |_,_,.cons n t h=>.cons ⟨t,rfl⟩<|Kv h
def tq(H:Hp):Prop:=∀b,H b=none\/∃o xs,H b=some (.frz o<|.lst xs)
def C7{P w K mg mb CX}{k:Nat}{fa a fd x sp s₁ vs ns}
 (KX:K.In s₁.heap) (hns:s₁.heap.Ns mainGlobals mg) (hb:s₁.heap.Ns builtinsNs mb) (hbb:∀x:Str,x≠"__name__"->mb x=bootBuiltins x) (hlim:s₁.heap.NoLimit) (hg:s₁.gens = #[])
 (ha:s₁.heap.get? a=some {cls:=.type "list",data:=.seq vs.toArray}) (hi:IntsAre vs ns) (hl:ns.length<=sizeLine) (hr:Room k callerA)
 (F:∀base:Heap,K.In base->base.Ns mainGlobals mg->FnOk P w K mg base CX k fa fd [x] sp) (hbind:∀(s:Shared) (u:Value),BindsTo s fd ⟨[u],[]⟩ [(x,u)])
 (hsp:∀H:Hp,tq H->Ik K H a (ns.map V.int)->sp [.ref a] H (λv _=>v = .bl true) λ_ _ _=>False)
 (hCX:∀H e s',CX [] H s₁ (λ_ _ _=>False) e s'->False):
 codeAny (model P w) callerA (.call (.ref fa) ⟨[.ref a],[]⟩) (λr s'=>r = .ok (.ret<|.bool true)/\OldK s₁.heap s'.heap/\s'.os=s₁.os/\AllBare s'.gens) s₁:=by
 have rv:=Kv hi;have lenV:=hi.length;have core:∀H:Hp,tq H->Ik K H a (ns.map V.int)->UW P w H s₁.heap->(∀b,H b≠none->b=a)->(H a≠none->K.lookup a=none)->
  codeAny (model P w) callerA (.call (.ref fa) ⟨[.ref a],[]⟩) (λr s'=>r = .ok (.ret<|.bool true)/\OldK s₁.heap s'.heap/\s'.os=s₁.os/\AllBare s'.gens) s₁:=by
  intro H hO hS hok hA hK;have base_of:∀{b:Addr}{o:Obj},s₁.heap.get? b=some o->H b=none->(SM s₁.heap H).get? b=some o:=λe n=>Il e n;have noA:∀{b:Addr}{o:Obj}{es:Array DictEntry}{ep:Nat},s₁.heap.get? b=some o->o.data = .dict es ep->H b=none:=λ{b o es ep} e d=>by
   cases q:H b with
   |none=>rfl
   |some u=>
    have e':b=a:=hA b (by rw[q];simp);subst e';rw[ha]at e;cases e;have d':Data.seq vs.toArray _=Data.dict es ep:=d;cases d'
  have nsK:∀{b:Addr}{m:Str->Option Value},s₁.heap.Ns b m->(SM s₁.heap H).Ns b m:=λ{b m} ⟨o,es,ep,e,d,r⟩=>⟨o,es,ep,base_of e<|noA e d,d,r⟩;have hKb:=λb o e=>base_of (KX b o e) (by
   cases q:H b with
   |none=>rfl
   |some u=>
    have e':b=a:=hA b (by rw[q];simp);subst e';rw[hK<|by rw[q];simp]at e;cases e)
  have hM:Mod K mg _:=⟨hKb,nsK hns,⟨mb,nsK hb,hbb⟩,let⟨mc,h1,h2⟩:=hlim;⟨mc,nsK h1,h2⟩⟩;have e0:Env0 P w K mg _ callerA [] s₁ H:=⟨rfl,hM,λb o e=>Ao e,Nat.le_of_eq<|Sn _ _,trivial,λb hb=>absurd (show b ∈ ([]:List Addr)from hb) (by simp),hok,.of_eq hg⟩;refine codeAny_mono ((F _ hKb<|nsK hns).run callerA [] s₁ H ⟨_,[]⟩ [.ref a] [.ref a] _ _ hr e0 (hbind s₁<|.ref a) (.cons rfl .nil)<|hsp H hO hS) λr s' h=>?_;cases r with
  |error e=>exact(hCX H e s' h).elim
  |ok fl=>
   cases fl with
   |next=>exact False.elim h
   |brk=>exact False.elim h
   |cont=>exact False.elim h
   |ret u=>
    obtain⟨v,H',os,bare,un,hok',r',q⟩:=h;have q':v = .bl true:=q;subst q';obtain rfl:u=Value.bool true:=r';refine⟨rfl,OldK.of_keep λb o e=>?_,os,bare⟩;cases q:H b with
    |none=>exact un.keep b o e q (by intro z;exact absurd (show b ∈ ([]:List Addr)from z)<|by simp) (by simp)
    |some u=>
     rcases hO b with z|⟨ob,xs,z⟩
     . rw[q]at z;cases z
     . have z2:=un.frzs b ob _ z;obtain⟨e1,_⟩:=hok b _ z;obtain⟨e2,_⟩:=hok' b _ z2;rw[e]at e1;cases e1;exact e2
 cases hk:K.lookup a with
 |some o=>
  have e:=KX a o hk;rw[ha]at e;cases e;refine core (λ_=>none) (λ_=>.inl rfl) (.inr ⟨vs.toArray,_,hk,by rw[zzH,lenV];exact hl,by simpa using rv⟩) (λb u z=>by have z':none=some u:=z;cases z') (λb z=>absurd rfl z) λz=>absurd rfl z
 |none=>
  refine core (λb=>if b=a then some _ else none) (λb=>?_) (.inl<|.inr ⟨{cls:=.type "list",data:=.seq vs.toArray},if_pos rfl⟩) (λb u z=>?_) (λb z=>?_) λ_=>hk
  . by_cases hb:b=a
    . exact .inr ⟨_,_,if_pos hb⟩
    . exact .inl<|if_neg hb
  . by_cases hb:b=a
    . have z':=(if_pos hb).symm.trans z;cases z';subst hb;exact⟨ha,by rw[zzB];exact hl,vs,_,rv,ha⟩
    . have z':=(if_neg hb).symm.trans z;cases z'
  . by_cases hb:b=a
    . exact hb
    . exact absurd (if_neg hb) z
end L2
namespace L2
open PySem PySem.Spec PyProof.Rows
def walk_of{l:PySem.W.OpenLaw}{n k:Nat}{q loose XP YP d}{K:Params->zzA}{CX:World->D7}{sp:World->Sp}{x}
 (hn:l.most=some n) (hn2:n<=sizeLine) (hdf:d.params.defaults=[]) (hr:Room k callerA)
 (hY:∀(w:World) (h:Heap),YP w h->(K w.params).In h)
 (F:∀(w:World) (mg:Str->Option Value) (fa:Addr) (h:Heap),(K w.params).In h->h.Ns mainGlobals mg->mg d.name=some (.ref fa)->
  ∃fd:FuncData,(∀(s:Shared) (u:Value),BindsTo s fd ⟨[u],[]⟩ [(x,u)])/\
   ∀base:Heap,(K w.params).In base->base.Ns mainGlobals mg->FnOk l.prog w (K w.params) mg base (CX w) k fa fd [x] (sp w))
 (hsp:∀(w:World) (H:Hp) (a:Addr) (ns:List Int),ns.length<=n->tq H->Ik (K w.params) H a (ns.map V.int)->sp w [.ref a] H (λv _=>v = .bl true) λ_ _ _=>False)
 (hCX:∀(w:World) (H:Hp) (s:Shared) (e:Value) (s':Shared),CX w [] H s (λ_ _ _=>False) e s'->False):
 PySem.W.WalkO q loose XP YP l.row.toRowW d [] (λf vs=>PySem.call f vs):=by
 refine Att.Mh hn hdf λw s₀ s₁ mg mb fa o pm cd doc a vs ns G Y ho hd hcd hmg hobj hints hlen hg=>?_;have KX:=hY w _ Y;obtain⟨fd,hb,hF⟩:=F w mg fa _ KX G.T.g hmg;exact C7 KX G.T.g G.T.b G.T.builtins G.T.nolimit hg hobj hints (zzO hlen hn2) hr hF hb (λH hO hS=>hsp w H a ns hlen hO hS) λH e s'=>hCX w H s₁ e s'
end L2
namespace L2
open PySem PySem.Spec PyProof.Rows
noncomputable def inClass(s:Stmt)(j:Nat):Stmt:=match s with
 | .ClassDef _ _ _ body _ _ _ _ _ _ _=>body.getD j (.Pass ⟨0,0,0,0⟩)
 |_=>.Pass ⟨0,0,0,0⟩
noncomputable def Pa(s:Stmt):Arguments:=match s with
 | .FunctionDef _ a _ _ _ _ _ _ _ _=>a
 |_=>{posonlyargs:=[],args:=[],vararg:=none,kwonlyargs:=[],kw_defaults:=[],kwarg:=none,defaults:=[]}
noncomputable def Ze(s:Stmt):List Stmt:=match s with
 | .FunctionDef _ _ b _ _ _ _ _ _ _=>b
 |_=>[]
noncomputable def zO(s:Stmt):Scope:=match s with
 | .FunctionDef _ _ _ _ _ _ sc _ _ _=>sc
 |_=>{kind:=.function,names:=[],isGenerator:=false,isCoroutine:=false}
abbrev XQ:D7:=λ_ _ _ _ _ _=>False
abbrev E0:XK:=λ_ _ _=>False
def yG:Z0 XQ X E0:=λ_ _ _ _ _ _ _ h=>h.elim
structure Fun(K:zzA)(x qual:Str)(st:Stmt)(f:Addr)(fd:FuncData):Prop where
 ex:∃(oc:Value) (od:Option Addr) (kV doc pm:Value) (an:Option Addr) (cdv ct:Value) (osl:Array (Option Value)),
  fd=W.fnOf x qual (Pa st) (Ze st) (zO st) .none kV doc pm an cdv ct/\K.lookup f=some ⟨oc,od,.func fd,osl⟩/\W.codeIn K cdv qual=true
 kp:W.keepIn K (.ref f)=true
section
variable{P:Program}{w:World}{K:zzA}{mg:Str->Option Value}{base:Heap}
def Fun.ok{x qual st f fd N ps}{k:Nat}{sp}(F:Fun K x qual st f fd)(S:FnScope N ps (zO st))(len:∀vs H Q E,sp vs H Q E->vs.length=ps.length)
 (hbody:∀(cdv:Value) (A:Around) (outer:List Env) (s:Shared) (H:Hp) (vs:List V) (Q:VK) (E:XK),Room k (A.deeper<|envOfC qual (zO st) s.heap.objs.size f cdv)->sp vs H Q E->
  ∃t,NH (Rb XQ P w K mg base N qual (zO st) f cdv A outer s H E).nox (Ze st) t/\t {nx:=λ_ H'=>Q .non H',rt:=Q} (start N vs) H):FnOk P w K mg base XQ (k+1) f fd ps sp:=by
 obtain⟨oc,od,kV,doc,pm,an,cdv,ct,osl,rfl,lk,hcd⟩:=F.ex;refine ng lk hcd S len λA outer s H vs Q E hr hsp=>?_;obtain⟨t,h,q⟩:=hbody cdv A outer s H vs Q E hr hsp;exact⟨t,h.nox,q⟩
def Fun.binds{x qual st f fd ps}(F:Fun K x qual st f fd)
 (h:∀(kV doc pm:Value) (an:Option Addr) (cdv ct:Value) (us:List Value),us.length=ps.length->bindArgs (W.fnOf x qual (Pa st) (Ze st) (zO st) .none kV doc pm an cdv ct) ⟨us,[]⟩=pure (ps.zip us)):Binds K fd ps []:=by
 obtain⟨oc,od,kV,doc,pm,an,cdv,ct,osl,rfl,lk,hcd⟩:=F.ex;exact .all<|h kV doc pm an cdv ct
end
def Ug(h:n<=1000):n<sizeLine:=Nat.lt_of_le_of_lt h (by decide)
section
variable{X:Cx}
def pv(i:Nat)(hN:X.N[i]? = some x:=by rfl)(hv:lK X.env.scope x:=by first|exact Or.inl rfl|exact Or.inr (Or.inl rfl)|exact Or.inr (Or.inr rfl))(hd:(x==("__debug__":Str))=false:=by decide)
 (hcd:(x==("__classdict__":Str))=false:=by decide):PE X (.Name x pos) (VL i):=O3 hN hv hd hcd
end
end L2
end
section
namespace G46
open PySem PySem.W PyProof.Rows L2
noncomputable def top(i:Nat):Stmt:=PySem.Challenge.pw_stretchdeeds_k46_walks_of_makes.main.body.getD i<|.Pass ⟨0,0,0,0⟩
abbrev Tx:Stmt:=top 10
abbrev UP:Stmt:=top 12
abbrev Xx:Stmt:=top 13
abbrev XX:Stmt:=top 14
abbrev Vu:Stmt:=top 15
abbrev Qk:Stmt:=top 16
abbrev QH:Stmt:=top 17
abbrev Wo:Stmt:=top 18
abbrev XB:Stmt:=inClass (top 20) 0
abbrev Kw:Stmt:=top 21
abbrev U3:Stmt:=inClass (top 42) 5
abbrev GV:Stmt:=top 22
abbrev GX:Stmt:=top 23
abbrev Kr:Stmt:=top 24
abbrev Vg:Stmt:=inClass (top 42) 9
abbrev VT:Stmt:=top 25
abbrev UH:Stmt:=inClass (top 42) 10
abbrev Pp:Stmt:=top 26
abbrev QC:Stmt:=top 27
abbrev P1:Stmt:=top 28
abbrev Ks:Stmt:=top 29
abbrev Ve:Stmt:=top 30
abbrev WU:Stmt:=top 31
abbrev N9:Stmt:=top 32
abbrev Wq:Stmt:=top 33
abbrev UQ:Stmt:=top 34
abbrev Vr:Stmt:=top 37
abbrev VS:Stmt:=top 38
abbrev Cw:Stmt:=top 41
abbrev Te:Stmt:=top 44
abbrev VR:Stmt:=top 45
abbrev UM:Stmt:=top 46
abbrev XD:Stmt:=top 47
abbrev XE:Stmt:=top 48
abbrev US:Stmt:=top 49
abbrev UD:Stmt:=top 50
abbrev Th:Stmt:=top 51
abbrev U1:Stmt:=top 52
abbrev Vj:Stmt:=top 53
abbrev XF:Stmt:=top 54
abbrev TM:Stmt:=top 56
abbrev Vk:Stmt:=top 55
abbrev Ko:Stmt:=top 57
abbrev PU:Stmt:=top 58
abbrev Gf:Stmt:=top 60
abbrev KG:Stmt:=top 61
abbrev XS:Stmt:=top 63
abbrev Qm:Stmt:=top 64
abbrev VX:Stmt:=top 65
abbrev U5:Stmt:=top 66
abbrev XR:Stmt:=inClass (top 39) 2
abbrev ZO:Stmt:=inClass (top 39) 4
abbrev QT:Stmt:=inClass (top 39) 1
abbrev WC:Stmt:=inClass (top 42) 2
abbrev WI:Stmt:=inClass (top 42) 8
abbrev Zd:Stmt:=inClass (top 39) 5
abbrev QF:Stmt:=inClass (top 39) 7
abbrev Wr:Stmt:=inClass (top 39) 8
abbrev U0:Stmt:=inClass (top 39) 11
abbrev X_:Stmt:=inClass (top 39) 10
abbrev Xy:Stmt:=inClass (top 42) 1
abbrev ZM:Stmt:=inClass (top 39) 3
abbrev Xz:Stmt:=inClass (top 39) 9
abbrev Pq:Stmt:=top 67
abbrev YS:Stmt:=inClass (top 39) 0
abbrev V1:Stmt:=inClass (top 39) 6
abbrev w9:Stmt:=inClass (top 42) 0
abbrev Qz:Stmt:=inClass (top 39) 15
abbrev F7:Stmt:=top 68
noncomputable abbrev hpg:=PySem.Challenge.pw_stretchdeeds_k46_walks_of_makes
noncomputable abbrev hva:Value:=.str "__main__" 164
noncomputable abbrev hvb:Value:=.str "stretchdeeds.errors" 194
noncomputable abbrev hvc:Value:=.str "stretchdeeds.terms" 319
noncomputable abbrev hvd:Value:=.str "stretchdeeds.algebras" 328
noncomputable abbrev hve:Value:=.str "stretchdeeds.trees" 404
noncomputable abbrev hvf:Value:=.str "stretchdeeds.makes" 579
noncomputable abbrev hvg:Value:=.str "stretchdeeds.ways" 790
noncomputable abbrev hvh:Value:=.str "law_stretchdeeds_k46_walks_of_makes" 910
noncomputable abbrev hem:List Value:=[(.type "ValueError"), (.type "Exception"), (.type "BaseException"), (.type "object")]
abbrev kF(n q:Str)(s:Stmt)(pm hcd:Value):Obj:=⟨.type "function",none,.func<|fnOf n q (Pa s) (Ze s) (zO s) .none .none .none pm none hcd .none,#[]⟩
noncomputable abbrev kD(es:List DictEntry)(n:Nat):Obj:=⟨.type "dict",none,.dict es.toArray n,#[]⟩
noncomputable abbrev kE(P:Params)(x:Str)(t:Nat)(v:Value):DictEntry:=⟨PyData.keyHash P x,.str x t,v⟩
abbrev kR(P:Params)(x:Str)(t:Nat)(a:Addr):DictEntry:=kE P x t<|.ref a
noncomputable abbrev hfl(c:Value)(l:List Value):Obj:=⟨c,none,.fields l.toArray,#[]⟩
abbrev hco(n q:Str)(t u:Nat)(l k g:Int)(b:Bool)(a:Nat)(r s v:Value):Obj:=hfl (.type "code") [.str n t,.str q<|t+1,.str "/claim/cut.py" (t+2),.int l 0,.int k 0,.int 0 0,.int 0 0,.int g 0,.ref a,.bool b,.int 181 0,.ref<|a+1,.none,r,s,v,.int u 0,.int l 0,.str "/claim/cut.py" (u+1)]
abbrev hc7(n q:Str)(t u:Nat)(l k:Int)(a:Nat):=hco n q t u l k 3 true a (.ref<|a+2) (.ref<|a+3)<|.ref<|a+4
abbrev hc5(n q:Str)(t:Nat)(l k:Int)(a:Nat):=hco n q t (t+3) l k 3 true a .none .none<|.ref<|a+2
noncomputable abbrev hen(P:Params):List DictEntry:=[kE P "__doc__" 166 .none,kE P "__package__" 167 .none,kE P "__loader__" 168<|.builtin "__main__.__loader__#opaque",kE P "__spec__" 169 .none,kR P "__annotations__" 170 6,kR P "__builtins__" 171 4,kE P "__file__" 173<|.str "/claim/cut.py" 172,kE P "__cached__" 174 .none,kR P "_wall" 193 21,kR P "StretchError" 213 31,kR P "NotLetBy" 238 51,kR P "NoMake" 254 63,kR P "NoStretch" 270 75,kR P "NoValue" 286 87,kR P "NoDeed" 302 99,kR P "TooGreat" 318 111,kR P "is_whole" 327 120,kR P "is_within" 338 127,kR P "nothing_fails" 348 134,kR P "parting_fails" 360 141,kR P "doing_fails" 376 148,kR P "deeds_fail" 387 155,kR P "what_fails" 395 162,kR P "check_let_by" 403 169,kR P "Knot" 446 186,kR P "leaf_of" 453 197,kR P "knot_of" 462 204,kR P "tree_of" 471 211,kR P "size_of" 478 218,kR P "both_waits" 487 225,kR P "done_all" 498 232,kR P "turned_all" 506 239,kR P "parts_of" 516 246,kR P "walk_of" 525 253,kR P "leaned_left" 536 260,kR P "leaned_right" 547 267,kR P "evened" 556 274,kR P "put_together" 566 281,kR P "parted_at" 578 288,kE P "MOST_IN_ROW" 582<|.int (300) 581,kR P "check_place" 591 295,kR P "check_size" 598 302,kR P "Makes" 789 431,kR P "firm" 797 440,kR P "Ways" 909 523,kR P "_law_draw" 923 534,kR P "_law_digits" 933 541,kR P "_law_names" 950 548,kR P "_law_part_join" 961 555,kR P "_law_part_done" 967 560,kR P "_law_parts" 975 567,kR P "_law_split" 986 574,kR P "_law_laid" 997 581,kR P "_law_order" 1007 588,kR P "_law_algebra" 1013 593,kR P "_law_by_digits" 1019 598,kR P "_law_is_good" 1025 603,kR P "_law_does" 1040 610,kR P "_law_any" 1048 617,kR P "_law_copy" 1054 622,kR P "_law_comes" 1065 629,kR P "_law_deed" 1071 634,kR P "_law_row" 1081 641,kR P "_law_is_list" 1087 646,kR P "_law_is_number" 1095 653,kR P "_law_places" 1106 660,kR P "_law_walked" 1117 667,kR P "_law_right" 1127 674,kR P "_law_step" 1144 681,kR P "law" 1157 688]
def K(P:Params):Frag:=
 (nat_lit 3,kD (kE P "__name__" 165 hvh::hen P) 71)::
 (nat_lit 119,hc7 "is_whole" "is_whole" 321 325 23 1 114)::
 (nat_lit 120,kF "is_whole" "is_whole" Tx hvc<|.ref 119)::
 (nat_lit 126,hc7 "is_within" "is_within" 330 336 26 3 121)::
 (nat_lit 127,kF "is_within" "is_within" UP hvd<|.ref 126)::
 (nat_lit 133,hc7 "nothing_fails" "nothing_fails" 339 346 28 1 128)::
 (nat_lit 134,kF "nothing_fails" "nothing_fails" Xx hvd<|.ref 133)::
 (nat_lit 140,hc7 "parting_fails" "parting_fails" 349 358 35 1 135)::
 (nat_lit 141,kF "parting_fails" "parting_fails" XX hvd<|.ref 140)::
 (nat_lit 147,hc7 "doing_fails" "doing_fails" 361 374 44 3 142)::
 (nat_lit 148,kF "doing_fails" "doing_fails" Vu hvd<|.ref 147)::
 (nat_lit 154,hc7 "deeds_fail" "deeds_fail" 377 385 55 1 149)::
 (nat_lit 155,kF "deeds_fail" "deeds_fail" Qk hvd<|.ref 154)::
 (nat_lit 161,hc7 "what_fails" "what_fails" 388 393 64 1 156)::
 (nat_lit 162,kF "what_fails" "what_fails" QH hvd<|.ref 161)::
 (nat_lit 168,hc7 "check_let_by" "check_let_by" 396 401 71 1 163)::
 (nat_lit 169,kF "check_let_by" "check_let_by" Wo hvd<|.ref 168)::
 (nat_lit 182,hc7 "__init__" "Knot.__init__" 418 428 78 7 177)::
 (nat_lit 183,kF "__init__" "Knot.__init__" XB hve<|.ref 182)::
 (nat_lit 185,kD [kE P "__module__" 413 hve,kE P "__firstlineno__" 417<|.int (76) 416,kR P "__init__" 430 183,kR P "__static_attributes__" 439 184,kR P "__dict__" 441 187,kR P "__weakref__" 443 188,kE P "__doc__" 444 .none] 4)::
 (nat_lit 186,⟨(.type "type"),none,.cls {name:="Knot",bases:=[(.type "object")],mro:=[(.ref 186),(.type "object")],ns:=185,qualname:="Knot",hasDict:=true,slotNames:=[],subclasses:=[],abstract:=false,collection:=none,hasDel:=false},#[none,none,some<|.str "Knot" 406,some<|.str "Knot" 414,some<|.builtin "object.__new__",some<|.bool true]⟩)::
 (nat_lit 196,hc7 "leaf_of" "leaf_of" 447 451 87 1 191)::
 (nat_lit 197,kF "leaf_of" "leaf_of" Kw hve<|.ref 196)::
 (nat_lit 203,hc7 "knot_of" "knot_of" 454 460 89 3 198)::
 (nat_lit 204,kF "knot_of" "knot_of" GV hve<|.ref 203)::
 (nat_lit 210,hc7 "tree_of" "tree_of" 463 469 91 2 205)::
 (nat_lit 211,kF "tree_of" "tree_of" GX hve<|.ref 210)::
 (nat_lit 217,hc7 "size_of" "size_of" 472 476 98 1 212)::
 (nat_lit 218,kF "size_of" "size_of" Kr hve<|.ref 217)::
 (nat_lit 224,hc7 "both_waits" "both_waits" 479 485 100 3 219)::
 (nat_lit 225,kF "both_waits" "both_waits" VT hve<|.ref 224)::
 (nat_lit 231,hc7 "done_all" "done_all" 488 496 106 3 226)::
 (nat_lit 232,kF "done_all" "done_all" Pp hve<|.ref 231)::
 (nat_lit 238,hc7 "turned_all" "turned_all" 499 504 114 2 233)::
 (nat_lit 239,kF "turned_all" "turned_all" QC hve<|.ref 238)::
 (nat_lit 245,hc7 "parts_of" "parts_of" 507 514 118 2 240)::
 (nat_lit 246,kF "parts_of" "parts_of" P1 hve<|.ref 245)::
 (nat_lit 252,hc7 "walk_of" "walk_of" 517 523 127 2 247)::
 (nat_lit 253,kF "walk_of" "walk_of" Ks hve<|.ref 252)::
 (nat_lit 259,hc7 "leaned_left" "leaned_left" 526 534 134 3 254)::
 (nat_lit 260,kF "leaned_left" "leaned_left" Ve hve<|.ref 259)::
 (nat_lit 266,hc7 "leaned_right" "leaned_right" 537 545 140 3 261)::
 (nat_lit 267,kF "leaned_right" "leaned_right" WU hve<|.ref 266)::
 (nat_lit 273,hc7 "evened" "evened" 548 554 146 3 268)::
 (nat_lit 274,kF "evened" "evened" N9 hve<|.ref 273)::
 (nat_lit 280,hc7 "put_together" "put_together" 557 564 152 3 275)::
 (nat_lit 281,kF "put_together" "put_together" Wq hve<|.ref 280)::
 (nat_lit 287,hc7 "parted_at" "parted_at" 567 576 164 3 282)::
 (nat_lit 288,kF "parted_at" "parted_at" UQ hve<|.ref 287)::
 (nat_lit 294,hc7 "check_place" "check_place" 583 589 178 3 289)::
 (nat_lit 295,kF "check_place" "check_place" Vr hvf<|.ref 294)::
 (nat_lit 301,hc7 "check_size" "check_size" 592 596 181 1 296)::
 (nat_lit 302,kF "check_size" "check_size" VS hvf<|.ref 301)::
 (nat_lit 315,hc7 "__init__" "Makes.__init__" 611 616 186 2 310)::
 (nat_lit 316,kF "__init__" "Makes.__init__" YS hvf<|.ref 315)::
 (nat_lit 322,hc7 "keep" "Makes.keep" 619 624 190 2 317)::
 (nat_lit 323,kF "keep" "Makes.keep" QT hvf<|.ref 322)::
 (nat_lit 329,hc7 "tree_at" "Makes.tree_at" 627 632 194 2 324)::
 (nat_lit 330,kF "tree_at" "Makes.tree_at" XR hvf<|.ref 329)::
 (nat_lit 336,hc7 "check_value" "Makes.check_value" 635 640 199 2 331)::
 (nat_lit 337,kF "check_value" "Makes.check_value" ZM hvf<|.ref 336)::
 (nat_lit 343,hc7 "three_parts" "Makes.three_parts" 643 653 203 4 338)::
 (nat_lit 344,kF "three_parts" "Makes.three_parts" ZO hvf<|.ref 343)::
 (nat_lit 350,hc7 "three_together" "Makes.three_together" 656 663 211 4 345)::
 (nat_lit 351,kF "three_together" "Makes.three_together" Zd hvf<|.ref 350)::
 (nat_lit 357,hc7 "made" "Makes.made" 666 672 214 2 352)::
 (nat_lit 358,kF "made" "Makes.made" V1 hvf<|.ref 357)::
 (nat_lit 364,hc7 "done" "Makes.done" 675 685 222 5 359)::
 (nat_lit 365,kF "done" "Makes.done" QF hvf<|.ref 364)::
 (nat_lit 371,hc7 "turned" "Makes.turned" 688 696 229 4 366)::
 (nat_lit 372,kF "turned" "Makes.turned" Wr hvf<|.ref 371)::
 (nat_lit 378,hc7 "changed" "Makes.changed" 699 708 233 4 373)::
 (nat_lit 379,kF "changed" "Makes.changed" Xz hvf<|.ref 378)::
 (nat_lit 385,hc7 "put_in" "Makes.put_in" 711 721 240 4 380)::
 (nat_lit 386,kF "put_in" "Makes.put_in" X_ hvf<|.ref 385)::
 (nat_lit 392,hc7 "cut" "Makes.cut" 724 733 248 4 387)::
 (nat_lit 393,kF "cut" "Makes.cut" U0 hvf<|.ref 392)::
 (nat_lit 420,hc7 "walk" "Makes.walk" 762 767 262 2 415)::
 (nat_lit 421,kF "walk" "Makes.walk" Qz hvf<|.ref 420)::
 (nat_lit 430,kD [kE P "__module__" 606 hvf,kE P "__firstlineno__" 610<|.int (184) 609,kR P "__init__" 618 316,kR P "keep" 626 323,kR P "tree_at" 634 330,kR P "check_value" 642 337,kR P "three_parts" 655 344,kR P "three_together" 665 351,kR P "made" 674 358,kR P "done" 687 365,kR P "turned" 698 372,kR P "changed" 710 379,kR P "put_in" 723 386,kR P "cut" 735 393,kR P "many" 743 400,kR P "listed" 751 407,kR P "asked" 761 414,kR P "walk" 769 421,kR P "first" 779 428,kR P "__static_attributes__" 782 429,kR P "__dict__" 784 432,kR P "__weakref__" 786 433,kE P "__doc__" 787 .none] 4)::
 (nat_lit 431,⟨(.type "type"),none,.cls {name:="Makes",bases:=[(.type "object")],mro:=[(.ref 431),(.type "object")],ns:=430,qualname:="Makes",hasDict:=true,slotNames:=[],subclasses:=[],abstract:=false,collection:=none,hasDel:=false},#[none,none,some<|.str "Makes" 599,some<|.str "Makes" 607,some<|.builtin "object.__new__",some<|.bool true]⟩)::
 (nat_lit 439,hc5 "firm" "firm" 792 268 1 436)::
 (nat_lit 440,kF "firm" "firm" Cw hvg<|.ref 439)::
 (nat_lit 451,hc5 "__init__" "Ways.__init__" 810 272 2 448)::
 (nat_lit 452,kF "__init__" "Ways.__init__" w9 hvg<|.ref 451)::
 (nat_lit 458,hc7 "is_value" "Ways.is_value" 816 821 281 2 453)::
 (nat_lit 459,kF "is_value" "Ways.is_value" Xy hvg<|.ref 458)::
 (nat_lit 465,hc7 "is_deed" "Ways.is_deed" 824 829 284 2 460)::
 (nat_lit 466,kF "is_deed" "Ways.is_deed" WC hvg<|.ref 465)::
 (nat_lit 486,hc7 "join" "Ways.join" 847 853 293 3 481)::
 (nat_lit 487,kF "join" "Ways.join" U3 hvg<|.ref 486)::
 (nat_lit 507,hc7 "wait_of" "Ways.wait_of" 872 877 302 2 502)::
 (nat_lit 508,kF "wait_of" "Ways.wait_of" WI hvg<|.ref 507)::
 (nat_lit 512,hc5 "behind" "Ways.behind" 880 305 3 509)::
 (nat_lit 513,kF "behind" "Ways.behind" Vg hvg<|.ref 512)::
 (nat_lit 519,hc7 "made" "Ways.made" 886 893 308 4 514)::
 (nat_lit 520,kF "made" "Ways.made" UH hvg<|.ref 519)::
 (nat_lit 522,kD [kE P "__module__" 805 hvg,kE P "__firstlineno__" 809<|.int (270) 808,kR P "__init__" 815 452,kR P "is_value" 823 459,kR P "is_deed" 831 466,kR P "is_sign" 839 473,kR P "nothing" 846 480,kR P "join" 855 487,kR P "has_sign" 864 494,kR P "idle" 871 501,kR P "wait_of" 879 508,kR P "behind" 885 513,kR P "made" 895 520,kR P "__static_attributes__" 902 521,kR P "__dict__" 904 524,kR P "__weakref__" 906 525,kE P "__doc__" 907 .none] 4)::
 (nat_lit 523,⟨(.type "type"),none,.cls {name:="Ways",bases:=[(.type "object")],mro:=[(.ref 523),(.type "object")],ns:=522,qualname:="Ways",hasDict:=true,slotNames:=[],subclasses:=[],abstract:=false,collection:=none,hasDel:=false},#[none,none,some<|.str "Ways" 798,some<|.str "Ways" 806,some<|.builtin "object.__new__",some<|.bool true]⟩)::
 (nat_lit 533,hc7 "_law_draw" "_law_draw" 912 921 311 2 528)::
 (nat_lit 534,kF "_law_draw" "_law_draw" Te hvh<|.ref 533)::
 (nat_lit 540,hc7 "_law_digits" "_law_digits" 924 931 323 2 535)::
 (nat_lit 541,kF "_law_digits" "_law_digits" VR hvh<|.ref 540)::
 (nat_lit 547,hc7 "_law_names" "_law_names" 934 948 329 2 542)::
 (nat_lit 548,kF "_law_names" "_law_names" UM hvh<|.ref 547)::
 (nat_lit 554,hc7 "_law_part_join" "_law_part_join" 951 959 344 3 549)::
 (nat_lit 555,kF "_law_part_join" "_law_part_join" XD hvh<|.ref 554)::
 (nat_lit 559,hc5 "_law_part_done" "_law_part_done" 962 353 4 556)::
 (nat_lit 560,kF "_law_part_done" "_law_part_done" XE hvh<|.ref 559)::
 (nat_lit 566,hc7 "_law_parts" "_law_parts" 968 973 364 1 561)::
 (nat_lit 567,kF "_law_parts" "_law_parts" US hvh<|.ref 566)::
 (nat_lit 573,hc7 "_law_split" "_law_split" 976 984 369 2 568)::
 (nat_lit 574,kF "_law_split" "_law_split" UD hvh<|.ref 573)::
 (nat_lit 580,hc7 "_law_laid" "_law_laid" 987 995 375 2 575)::
 (nat_lit 581,kF "_law_laid" "_law_laid" Th hvh<|.ref 580)::
 (nat_lit 587,hc7 "_law_order" "_law_order" 998 1005 380 2 582)::
 (nat_lit 588,kF "_law_order" "_law_order" U1 hvh<|.ref 587)::
 (nat_lit 592,hc5 "_law_algebra" "_law_algebra" 1008 386 2 589)::
 (nat_lit 593,kF "_law_algebra" "_law_algebra" Vj hvh<|.ref 592)::
 (nat_lit 597,hc5 "_law_by_digits" "_law_by_digits" 1014 412 1 594)::
 (nat_lit 598,kF "_law_by_digits" "_law_by_digits" XF hvh<|.ref 597)::
 (nat_lit 602,hc5 "_law_is_good" "_law_is_good" 1020 429 1 599)::
 (nat_lit 603,kF "_law_is_good" "_law_is_good" Vk hvh<|.ref 602)::
 (nat_lit 609,hc7 "_law_does" "_law_does" 1026 1038 442 5 604)::
 (nat_lit 610,kF "_law_does" "_law_does" TM hvh<|.ref 609)::
 (nat_lit 616,hc7 "_law_any" "_law_any" 1041 1046 450 1 611)::
 (nat_lit 617,kF "_law_any" "_law_any" Ko hvh<|.ref 616)::
 (nat_lit 621,hc5 "_law_copy" "_law_copy" 1049 456 1 618)::
 (nat_lit 622,kF "_law_copy" "_law_copy" PU hvh<|.ref 621)::
 (nat_lit 633,hc5 "_law_deed" "_law_deed" 1066 465 3 630)::
 (nat_lit 634,kF "_law_deed" "_law_deed" Gf hvh<|.ref 633)::
 (nat_lit 640,hc7 "_law_row" "_law_row" 1072 1079 468 3 635)::
 (nat_lit 641,kF "_law_row" "_law_row" KG hvh<|.ref 640)::
 (nat_lit 652,hc7 "_law_is_number" "_law_is_number" 1088 1093 477 2 647)::
 (nat_lit 653,kF "_law_is_number" "_law_is_number" XS hvh<|.ref 652)::
 (nat_lit 659,hc7 "_law_places" "_law_places" 1096 1104 479 2 654)::
 (nat_lit 660,kF "_law_places" "_law_places" Qm hvh<|.ref 659)::
 (nat_lit 666,hc7 "_law_walked" "_law_walked" 1107 1115 488 2 661)::
 (nat_lit 667,kF "_law_walked" "_law_walked" VX hvh<|.ref 666)::
 (nat_lit 673,hc7 "_law_right" "_law_right" 1118 1125 503 3 668)::
 (nat_lit 674,kF "_law_right" "_law_right" U5 hvh<|.ref 673)::
 (nat_lit 680,hc7 "_law_step" "_law_step" 1128 1142 508 4 675)::
 (nat_lit 681,kF "_law_step" "_law_step" Pq hvh<|.ref 680)::
 (nat_lit 687,hc7 "law" "law" 1145 1155 528 1 682)::
 (nat_lit 688,kF "law" "law" F7 hvh<|.ref 687)::
 []
noncomputable def kA:List Addr:=[3,119,120,126,127,133,134,140,141,147,148,154,155,161,162,168,169,182,183,185,186,196,197,203,204,210,211,217,218,224,225,231,232,238,239,245,246,252,253,259,260,266,267,273,274,280,281,287,288,294,295,301,302,315,316,322,323,329,330,336,337,343,344,350,351,357,358,364,365,371,372,378,379,385,386,392,393,420,421,430,431,439,440,451,452,458,459,465,466,486,487,507,508,512,513,519,520,522,523,533,534,540,541,547,548,554,555,559,560,566,567,573,574,580,581,587,588,592,593,597,598,602,603,609,610,616,617,621,622,633,634,640,641,652,653,659,660,666,667,673,674,680,681,687,688]
def qv:Program:={hpg with main:={hpg.main with body:=[0,2,3,4,5,6,7,8,10,12,13,14,15,16,17,18,20,21,22,23,24,25,26,27,28,29,30,31,32,33,34,36,37,38,39,41,42,44,45,46,47,48,49,50,51,52,53,54,55,56,57,58,59,60,61,62,63,64,65,66,67,68].map top}}
theorem kAe(P:Params):kA=(K P).map (·.1):=by kernel_rfl
set_option maxRecDepth 100000
theorem ws:PySem.Challenge.rw_stretchdeeds_k46_walks_of_makes.wellSaid=true:=by kernel_rfl
abbrev Xt(s:Shared):Bool:=xlAt qv [] s&&recOk (RowW.records<|OpenRow.toRowW PySem.Challenge.rw_stretchdeeds_k46_walks_of_makes.row) s
abbrev hk:Hook:=kHook K kA kAe
noncomputable def htp(l:List Value):Obj:=⟨.type "tuple",none,.seq l.toArray 0,#[]⟩
noncomputable def htx:Nat->List Str->List Value
 |_,[]=>[]
 |t,x::l=>.str x t::htx (t+1) l
noncomputable def hfO(a t:Nat)(r:Str)(v:Value)(s:Stmt):List Obj:=match s with
 | .FunctionDef n p b _ _ _ c _ _ o=>
  let q:=r++n;let S:Obj:=⟨.none,none,.func {name:=n,qualname:=q,params:=p,body:=.stmts b,scope:=c,globals:=0,closure:=[],defaults:=.none,kwdefaults:=.none},#[]⟩
  match localNames p c (.stmts b) with
  |some (x,_)=>[htp [],hfl .none [],htp<|htx (t+3) x,htp [],S,hc7 n q t (t+3+x.length) o.line p.args.length a,kF n q s v<|.ref<|a+5]
  |none=>[htp [],hfl .none [],S,hc5 n q t o.line p.args.length a,kF n q s v<|.ref<|a+3]
 |_=>[]
noncomputable def htk(s:Stmt):Nat:=match s with
 | .FunctionDef _ p b _ _ _ c _ _ _=>match localNames p c (.stmts b) with
  |some (x,_)=>6+x.length
  |none=>6
 |_=>0
noncomputable def hms(P:Params)(c:Str)(v:Value):Nat->Nat->List Stmt->List Obj×List DictEntry×List Value×Nat
 |_,t,[]=>([],[],[],t)
 |a,t,s::r=>match s with
  | .FunctionDef n _ _ _ _ _ _ _ _ o=>let f:=hfO a t (c++".") v s;let l:=a+f.length;let u:=t+htk s;let z:=hms P c v l u r;(f++z.1,kR P n (u-1) (l-1)::z.2.1,.int o.line 0:: .int 4 0:: .ref (l-2)::z.2.2.1,z.2.2.2)
  |_=>hms P c v a t r
noncomputable def hfm(a b:Addr)(v:Value):Obj:=⟨.type "frame",none,.plain,#[some<|.ref a,some<|.ref 3,some<|.ref b,none,some v,none,some<|.ref 0]⟩
def hbf(x:String)(v:Value):Obj:=hfl (.type "builtin_function_or_method") [.builtin x,v]
def hgd(x:Str)(t:Nat)(c:Addr)(g s:Value):Obj:=hfl (.type "getset_descriptor") [.str x t,.ref c,g,s]
noncomputable def hcO(P:Params)(a t:Nat)(v:Value)(bv mr sb:List Value)(nw:String)(d:Nat)(s:Stmt):List Obj:=match s with
 | .ClassDef n _ _ b _ _ _ _ _ sa o=>
  let m:=hms P n v (a+7) (t+12) b;let e:=a+7+m.1.length;let k:=m.2.2.2+sa.length;let z:=k+1;let C:=e+2
  let x:=kE P "__module__" (t+7) v;let f:=kE P "__firstlineno__" (t+11)<|.int o.line<|t+10;let y:=kR P "__static_attributes__" k e
  let W:=λt:Nat=>hgd "__weakref__" t C (.builtin "ExceptionGroup.__weakref__") .none
  let D:List DictEntry×List Obj:=match d with
   |0=>([],[])
   |1=>([kR P "__weakref__" (z+1)<|C+1],[W z])
   |_=>([kR P "__dict__" (z+1)<|C+1,kR P "__weakref__" (z+3)<|C+2],[hgd "__dict__" z C (.builtin "function.__dict__")<|.builtin "function.__dict__#set",W<|z+2])
  [htp bv,hbf "type.__prepare__" (.type "type"),kD (x::kE P "__qualname__" (t+9) (.str n<|t+8)::f::m.2.1++[y])<|4+m.2.1.length,htp [],hfl .none m.2.2.1,hco n n (t+2) (t+5) o.line 0 0 false (a+3) .none .none .none,hfm (a+5) (a+2) v]++m.1++[htp<|htx m.2.2.2 sa,kD (x::f::m.2.1++y::D.1++[kE P "__doc__" (z+2*d) .none])<|2+d,⟨.type "type",none,.cls {name:=n,bases:=if bv.isEmpty then [.type "object"] else bv,mro:=.ref C::mr,ns:=e+1,qualname:=n,hasDict:=true,slotNames:=[],subclasses:=sb},#[if bv.isEmpty then none else some<|.ref a,none,some<|.str n t,some<|.str n<|t+8,some<|.builtin nw,some<|.bool true]⟩]++D.2++[hfl (.type "super") [.ref C,.ref C,.ref C],hbf "object.__init_subclass__" (.ref C)]
 |_=>[]
noncomputable def hcs:List (Int×Addr):=[(1,20),(5,27),(7,40),(12,59),(14,71),(16,83),(18,95),(20,107),(23,119),(26,126),(28,133),(35,140),(44,147),(55,154),(64,161),(71,168),(76,175),(87,196),(89,203),(91,210),(98,217),(100,224),(106,231),(114,238),(118,245),(127,252),(134,259),(140,266),(146,273),(152,280),(164,287),(178,294),(181,301),(184,308),(268,439),(270,446),(311,533),(323,540),(329,547),(344,554),(353,559),(364,566),(369,573),(375,580),(380,587),(386,592),(412,597),(429,602),(442,609),(450,616),(456,621),(460,628),(465,633),(468,640),(473,645),(477,652),(479,659),(488,666),(503,673),(508,680),(528,687)]
noncomputable def hhp(P:Params)(v:Value)(g c:Nat)(l:List Obj):Heap:=⟨⟨boot_o_0 P::boot_o_1 P::boot_o_2 P::kD (kE P "__name__" 165 v::(hen P).take g) (g+1)::boot_o_4 P::boot_o_5 P::boot_o_6 P::boot_o_7 P::boot_o_8 P::boot_o_9 P::boot_o_10 P::htp []::hfl .none ((hcs.take c).flatMap λp=>[.int p.1 0,.int 0 0,.ref p.2])::hco "<module>" "<module>" 182 185 1 0 0 false 11 .none .none .none::hfm 13 3 (.str "__main__" 164)::l⟩,(boot_heap P).life⟩
abbrev hbd:=behindTheImports hpg
abbrev hev:Env:={scope:=hpg.main.scope,locals:=mainNs,globals:=mainNs,cells:=[],code:=.ref 13,frame:=some 14}
abbrev hcd:Code:=.body hbd hev
noncomputable abbrev hSh(t:Nat)(h:Heap)(o:OsState):Shared:=⟨h,⟨[]⟩,boot_drawn,t,o⟩
def hl0(P:Params):List Obj:=hfO 15 187 "" hva (top 0)++hcO P 22 196 hvb [(.type "ValueError")] hem [(.ref 51),(.ref 63),(.ref 75),(.ref 87),(.ref 99),(.ref 111)] "ValueError.__new__" 1 (top 2)++hcO P 35 214 hvb [(.ref 31)] ((.ref 31)::hem) [] "ValueError.__new__" 0 (top 3)++hcO P 54 239 hvb [(.ref 31)] ((.ref 31)::hem) [] "ValueError.__new__" 0 (top 4)++hcO P 66 255 hvb [(.ref 31)] ((.ref 31)::hem) [] "ValueError.__new__" 0 (top 5)++hcO P 78 271 hvb [(.ref 31)] ((.ref 31)::hem) [] "ValueError.__new__" 0 (top 6)++hcO P 90 287 hvb [(.ref 31)] ((.ref 31)::hem) [] "ValueError.__new__" 0 (top 7)++hcO P 102 303 hvb [(.ref 31)] ((.ref 31)::hem) [] "ValueError.__new__" 0 (top 8)
def hl1(P:Params):List Obj:=hl0 P++hfO 114 321 "" hvc (top 10)++hfO 121 330 "" hvd (top 12)++hfO 128 339 "" hvd (top 13)++hfO 135 349 "" hvd (top 14)++hfO 142 361 "" hvd (top 15)++hfO 149 377 "" hvd (top 16)++hfO 156 388 "" hvd (top 17)++hfO 163 396 "" hvd (top 18)++hcO P 170 406 hve [] [(.type "object")] [] "object.__new__" 2 (top 20)++hfO 191 447 "" hve (top 21)++hfO 198 454 "" hve (top 22)++hfO 205 463 "" hve (top 23)++hfO 212 472 "" hve (top 24)++hfO 219 479 "" hve (top 25)++hfO 226 488 "" hve (top 26)++hfO 233 499 "" hve (top 27)++hfO 240 507 "" hve (top 28)++hfO 247 517 "" hve (top 29)++hfO 254 526 "" hve (top 30)++hfO 261 537 "" hve (top 31)++hfO 268 548 "" hve (top 32)++hfO 275 557 "" hve (top 33)++hfO 282 567 "" hve (top 34)
def hl2(P:Params):List Obj:=hl1 P++hfO 289 583 "" hvf (top 37)++hfO 296 592 "" hvf (top 38)++hcO P 303 599 hvf [] [(.type "object")] [] "object.__new__" 2 (top 39)++hfO 436 792 "" hvg (top 41)
def hl3(P:Params):List Obj:=hl2 P++hcO P 441 798 hvg [] [(.type "object")] [] "object.__new__" 2 (top 42)++hfO 528 912 "" hvh (top 44)++hfO 535 924 "" hvh (top 45)++hfO 542 934 "" hvh (top 46)++hfO 549 951 "" hvh (top 47)++hfO 556 962 "" hvh (top 48)++hfO 561 968 "" hvh (top 49)++hfO 568 976 "" hvh (top 50)++hfO 575 987 "" hvh (top 51)++hfO 582 998 "" hvh (top 52)++hfO 589 1008 "" hvh (top 53)++hfO 594 1014 "" hvh (top 54)++hfO 599 1020 "" hvh (top 55)++hfO 604 1026 "" hvh (top 56)++hfO 611 1041 "" hvh (top 57)
def hl4(P:Params):List Obj:=hl3 P++hfO 618 1049 "" hvh (top 58)++hfO 623 1055 "" hvh (top 59)++hfO 630 1066 "" hvh (top 60)++hfO 635 1072 "" hvh (top 61)++hfO 642 1082 "" hvh (top 62)++hfO 647 1088 "" hvh (top 63)++hfO 654 1096 "" hvh (top 64)++hfO 661 1107 "" hvh (top 65)++hfO 668 1118 "" hvh (top 66)++hfO 675 1128 "" hvh (top 67)++hfO 682 1145 "" hvh (top 68)
theorem hr0(w:World)(o:OsState):topGo treeTable hpg w 11 (some<|.ref 6) 12 (hSh boot_toks (boot_heap w.params) o) (topStub hpg)=some (hSh 187 (hhp w.params (.str "__main__" 164) 8 0 []) o,⟨denote treeTable hcd,hcd,⟨0,0,0,0⟩,[topFrame ⟨0,0,0,0⟩]⟩):=by kernel_rfl
theorem hr1(w:World)(o:OsState):segRun treeTable hpg w 11 (some<|.ref 6) 1 1 (hSh 187 (hhp w.params (.str "__main__" 164) 8 0 []) o) (blockOf hbd hev hcd ⟨0,0,0,0⟩ [topFrame ⟨0,0,0,0⟩])=some (.next,hSh 187 (hhp w.params (.str "__main__" 164) 8 0 []) o,hcd,⟨0,0,0,0⟩):=by kernel_rfl
theorem hs0(w:World)(o:OsState):segRun treeTable hpg w 11 (some<|.ref 6) 1 1535 (hSh 187 (hhp w.params (.str "__main__" 164) 8 0 []) o) (piecesOf (hbd.take 9) hev hcd ⟨0,0,0,0⟩ [topFrame ⟨0,0,0,0⟩])=some (.next,hSh 319 (hhp w.params hvb 16 8<|hl0 w.params) o,hcd,⟨20,0,21,8⟩):=by kernel_rfl
abbrev hb0:=hbd.drop 9
theorem hs1(w:World)(o:OsState):segRun treeTable hpg w 11 (some<|.ref 6) 1 977 (hSh 319 (hhp w.params hvb 16 8<|hl0 w.params) o) (piecesOf (hb0.take 28) hev hcd ⟨20,0,21,8⟩ [topFrame ⟨0,0,0,0⟩])=some (.next,hSh 583 (hhp w.params hvf 40 31<|hl1 w.params) o,hcd,⟨177,0,177,11⟩):=by kernel_rfl
abbrev hb1:=hb0.drop 28
theorem hs2(w:World)(o:OsState):segRun treeTable hpg w 11 (some<|.ref 6) 1 864 (hSh 583 (hhp w.params hvf 40 31<|hl1 w.params) o) (piecesOf (hb1.take 5) hev hcd ⟨177,0,177,11⟩ [topFrame ⟨0,0,0,0⟩])=some (.next,hSh 798 (hhp w.params hvg 44 35<|hl2 w.params) o,hcd,⟨268,0,269,46⟩):=by kernel_rfl
abbrev hb2:=hb1.drop 5
theorem hs3(w:World)(o:OsState):segRun treeTable hpg w 11 (some<|.ref 6) 1 988 (hSh 798 (hhp w.params hvg 44 35<|hl2 w.params) o) (piecesOf (hb2.take 16) hev hcd ⟨268,0,269,46⟩ [topFrame ⟨0,0,0,0⟩])=some (.next,hSh 1049 (hhp w.params hvh 59 50<|hl3 w.params) o,hcd,⟨450,0,455,39⟩):=by kernel_rfl
abbrev hb3:=hb2.drop 16
theorem hs4(w:World)(o:OsState):topRun treeTable hpg w 11 (some<|.ref 6) 348 (hSh 1049 (hhp w.params hvh 59 50<|hl3 w.params) o) (restOf hb3 hev hcd ⟨450,0,455,39⟩ [topFrame ⟨0,0,0,0⟩])=some (hSh 1158 (hhp w.params hvh 70 61<|hl4 w.params) o):=by kernel_rfl
theorem hpa{w:World}{n N t t':Nat}{h h':Heap}{o:OsState}{r:Shared}{b:List Stmt}(m:Nat){p p':Pos}(x:segRun treeTable hpg w 11 (some<|.ref 6) 1 n (hSh t h o) (piecesOf (b.take m) hev hcd p [topFrame ⟨0,0,0,0⟩])=some (.next,hSh t' h' o,hcd,p'))(y:topRun treeTable hpg w 11 (some<|.ref 6) N (hSh t' h' o) (restOf (b.drop m) hev hcd p' [topFrame ⟨0,0,0,0⟩])=some r):topRun treeTable hpg w 11 (some<|.ref 6) (n+N) (hSh t h o) (restOf b hev hcd p [topFrame ⟨0,0,0,0⟩])=some r:=by
 have z:=piece_app x y;rwa[List.take_append_drop] at z
theorem hhr(w:World)(o:OsState):topRun treeTable hpg w 11 (some<|.ref 6) (12+(1+(1535+(977+(864+(988+348)))))) (hSh boot_toks (boot_heap w.params) o) (topStub hpg)=some (hSh 1158 (hhp w.params hvh 70 61<|hl4 w.params) o):=go_top (hr0 w o)<|piece_block (hr1 w o)<|hpa _ (hs0 w o)<|hpa _ (hs1 w o)<|hpa _ (hs2 w o)<|hpa _ (hs3 w o)<|hs4 w o
def hhf(P:Params):Heap:=hhp P hvh 70 61<|hl4 P
theorem hbz:PySem.Challenge.pw_stretchdeeds_k46_walks_of_makes.bare:=⟨rfl,rfl,rfl,rfl,rfl,by decide +kernel⟩
theorem hhq(w:World):(λo=>((staticsOk (importedModules hpg.main.body) (boot_heap w.params) (hhf w.params)&&namesBound hpg (hhf w.params)&&gensDone (hSh 1158 (hhf w.params) o)&&laidKept (boot_heap w.params) (hhf w.params)),openSeen qv [] (importedModules hpg.main.body) Xt true<|hSh 1158 (hhf w.params) o,hk.obs<|hSh 1158 (hhf w.params) o))=λ_=>(true,openGood qv [],hk.val w):=by kernel_rfl
theorem hl:LeftO PySem.Challenge.pw_stretchdeeds_k46_walks_of_makes qv [] Xt hk.obs hk.val 6000:=LeftO.of_pieces (H₀:=boot_heap) (H₁:=hhf) (boot_open (by kernel_rfl) rfl λ_=>by kernel_rfl) (λ_=>by kernel_rfl) hhr rfl hhq
end G46
end
section
namespace PF
open PySem PySem.Spec PyProof.Rows L2
abbrev St:=L2.St
structure KD where
 d:Addr->List (Key×V)->Prop
 c:Str->Addr
instance:CoeFun KD (λ_=>Addr->List (Key×V)->Prop):=⟨KD.d⟩
inductive D where
 |non|bl (b:Bool)|int (i:Int)|str (x:Str)|tup (ds:List D)|lst (ds:List D)|dct (kvs:List (Key×D))|cl (c:Str)|ob (c:Str) (ns:List Str) (ds:List D)
mutual
inductive Rp(K:zzA)(kd:KD)(O:Addr->Prop)(H:Hp):V->D->Prop
 |non:Rp K kd O H .non .non
 |bl (b:Bool):Rp K kd O H (.bl b) (.bl b)
 |int (i:Int):Rp K kd O H (.int i) (.int i)
 |str (x:Str):Rp K kd O H (.str x) (.str x)
 |tup {a:Addr}{vs:List V}{ds:List D}:¬O a->Rd H a (.tup vs)->RpL K kd O H vs ds->Rp K kd O H (.ref a) (.tup ds)
 |tupK {a:Addr}{o:Obj}{its:Array Value}{n:Nat}{vs:List V}{ds:List D}:K.lookup a=some o->o.cls = .type "tuple"->o.data = .seq its n->its.size<=sizeLine->zU vs its.toList->RpL K kd O H vs ds->Rp K kd O H (.ref a) (.tup ds)
 |lst {a:Addr}{vs:List V}{ds:List D}:¬O a->Rd H a (.lst vs)->RpL K kd O H vs ds->Rp K kd O H (.ref a) (.lst ds)
 |lstK {a:Addr}{its:Array Value}{n:Nat}{vs:List V}{ds:List D}:K.lookup a=some {cls:=.type "list",data:=.seq its n}->its.size<=sizeLine->zU vs its.toList->RpL K kd O H vs ds->Rp K kd O H (.ref a) (.lst ds)
 |dct {a:Addr}{kvs:List (Key×V)}{ds:List (Key×D)}:¬O a->Rd H a (.dK kvs)->RpM K kd O H kvs ds->Rp K kd O H (.ref a) (.dct ds)
 |dctK {a:Addr}{kvs:List (Key×V)}{ds:List (Key×D)}:kd a kvs->RpM K kd O H kvs ds->Rp K kd O H (.ref a) (.dct ds)
 |cl (c:Str):Rp K kd O H (.ref (kd.c c)) (.cl c)
 |ob {a dx:Addr}{c:Str}{ns:List Str}{vs:List V}{ds:List D}:¬O a->H a=some (.ins (kd.c c) dx (ns.zip vs))->ns.length=vs.length->RpL K kd O H vs ds->Rp K kd O H (.ref a) (.ob c ns ds)
inductive RpL(K:zzA)(kd:KD)(O:Addr->Prop)(H:Hp):List V->List D->Prop
 |nil:RpL K kd O H [] []
 |cons {v:V}{d:D}{vs:List V}{ds:List D}:Rp K kd O H v d->RpL K kd O H vs ds->RpL K kd O H (v::vs) (d::ds)
inductive RpM(K:zzA)(kd:KD)(O:Addr->Prop)(H:Hp):List (Key×V)->List (Key×D)->Prop
 |nil:RpM K kd O H [] []
 |cons {k:Key}{v:V}{d:D}{vs:List (Key×V)}{ds:List (Key×D)}:Rp K kd O H v d->RpM K kd O H vs ds->RpM K kd O H ((k,v)::vs) ((k,d)::ds)
end
structure Grow(W:Addr->Prop)(H:Hp)(W':Addr->Prop)(H':Hp):Prop where
 keep:∀b o,H b=some o->¬W b->H' b=some o
 own:∀b,W' b->W b\/H b=none
def Grow.refl:Grow W H W H:=⟨λ_ _ h _=>h,λ_ h=>.inl h⟩
def Grow.trans(a:Grow W H W1 H1)(b:Grow W1 H1 W2 H2):Grow W H W2 H2 where
 keep:=λx o h n=>b.keep x o (a.keep x o h n) λq=>(a.own x q).elim n λz=>by rw[z]at h;cases h
 own:=λx q=>by
  rcases b.own x q with h|h
  . exact a.own x h
  . cases e:H x with
    |none=>exact .inr rfl
    |some o=>
     refine .inl<|Classical.byContradiction λn=>?_;rw[a.keep x o e n]at h;cases h
def Grow.less(h:∀a,W' a->W a):Grow W H W' H:=⟨λ_ _ q _=>q,λb q=>.inl<|h b q⟩
abbrev WM(F W:Addr->Prop):Addr->Prop:=λa=>F a\/W a
section
variable{K:zzA}{kd:KD}{F W W':Addr->Prop}{H H':Hp}
def QA(g:Grow W H W' H')(n:¬W a)(h:Rd H a u):Rd H' a u:=by
 rcases h with h|⟨o,h⟩
 . exact .inl<|g.keep _ _ h n
 . exact .inr ⟨o,g.keep _ _ h n⟩
def Df(h:Rd H a u):H a≠none:=by
 rcases h with h|⟨o,h⟩<;>(rw[h];simp)
def V7(g:Grow W H W' H')(n:¬WM F W a)(h:Rd H a u):¬WM F W' a:=λq=>
 q.elim (λz=>n<|.inl z) λz=>(g.own a z).elim (λy=>n<|.inr y) λy=>Df h y
def Rp.grow(g:Grow W H W' H')(h:Rp K kd (WM F W) H v d):Rp K kd (WM F W') H' v d:=
 Rp.rec .non .bl .int .str (λn h _ r=>.tup (V7 g n h) (QA g (λz=>n<|.inr z) h) r) (λa b c e f _ r=>.tupK a b c e f r) (λn h _ r=>.lst (V7 g n h) (QA g (λz=>n<|.inr z) h) r) (λa e f _ r=>.lstK a e f r) (λn h _ r=>.dct (V7 g n h) (QA g (λz=>n<|.inr z) h) r) (λh _ r=>.dctK h r) .cl (λn h l _ r=>.ob (V7 g n<|.inl h) (g.keep _ _ h λz=>n<|.inr z) l r) .nil (λ_ _ h r=>.cons h r) .nil (λ_ _ h r=>.cons h r) h
def RpL.ind{P:List V->List D->Prop}(h0:P [] [])(h1:∀{v d vs ds},Rp K kd O H v d->RpL K kd O H vs ds->P vs ds->P (v::vs) (d::ds))(h:RpL K kd O H vs ds):P vs ds:=
 RpL.rec (motive_1:=λ_ _ _=>True) (motive_3:=λ_ _ _=>True) ⋯ ⋯ ⋯ ⋯ (λ_ _ _ _=>⋯) (λ_ _ _ _ _ _ _=>⋯) (λ_ _ _ _=>⋯) (λ_ _ _ _ _=>⋯) (λ_ _ _ _=>⋯) (λ_ _ _=>⋯) ⋯ (λ_ _ _ _ _=>⋯) h0 (λa r _ ih=>h1 a r ih) ⋯ (λ_ _ _ _=>⋯) h
def RpM.ind{P:List (Key×V)->List (Key×D)->Prop}(h0:P [] [])(h1:∀{k v d vs ds},Rp K kd O H v d->RpM K kd O H vs ds->P vs ds->P ((k,v)::vs) ((k,d)::ds))(h:RpM K kd O H vs ds):P vs ds:=
 RpM.rec (motive_1:=λ_ _ _=>True) (motive_2:=λ_ _ _=>True) ⋯ ⋯ ⋯ ⋯ (λ_ _ _ _=>⋯) (λ_ _ _ _ _ _ _=>⋯) (λ_ _ _ _=>⋯) (λ_ _ _ _ _=>⋯) (λ_ _ _ _=>⋯) (λ_ _ _=>⋯) ⋯ (λ_ _ _ _ _=>⋯) ⋯ (λ_ _ _ _=>⋯) h0 (λa r _ ih=>h1 a r ih) h
theorem RpL.grow(g:Grow W H W' H'){vs:List V}(h:RpL K kd (WM F W) H vs ds):RpL K kd (WM F W') H' vs ds:=RpL.ind .nil (λa _ r=>.cons (Rp.grow g a) r) h
theorem RpM.grow(g:Grow W H W' H'){vs:List (Key×V)}(h:RpM K kd (WM F W) H vs ds):RpM K kd (WM F W') H' vs ds:=RpM.ind .nil (λa _ r=>.cons (Rp.grow g a) r) h
def Rp.less(g:∀a,O' a->O a)(h:Rp K kd O H v d):Rp K kd O' H v d:=
 Rp.rec .non .bl .int .str (λn h _ r=>.tup (λz=>n<|g _ z) h r) (λa b c e f _ r=>.tupK a b c e f r) (λn h _ r=>.lst (λz=>n<|g _ z) h r) (λa e f _ r=>.lstK a e f r) (λn h _ r=>.dct (λz=>n<|g _ z) h r) (λh _ r=>.dctK h r) .cl (λn h l _ r=>.ob (λz=>n<|g _ z) h l r) .nil (λ_ _ h r=>.cons h r) .nil (λ_ _ h r=>.cons h r) h
theorem RpL.less{O O':Addr->Prop}(g:∀a,O' a->O a)(h:RpL K kd O H vs ds):RpL K kd O' H vs ds:=RpL.ind .nil (λa _ r=>.cons (Rp.less g a) r) h
theorem RpM.less{O O':Addr->Prop}(g:∀a,O' a->O a)(h:RpM K kd O H vs ds):RpM K kd O' H vs ds:=RpM.ind .nil (λa _ r=>.cons (Rp.less g a) r) h
theorem RpL.length{O:Addr->Prop}(h:RpL K kd O H vs ds):vs.length=ds.length:=RpL.ind (P:=λa b=>a.length=b.length) rfl (λ_ _ r=>congrArg _ r) h
theorem RpM.length{O:Addr->Prop}(h:RpM K kd O H vs ds):vs.length=ds.length:=RpM.ind (P:=λa b=>a.length=b.length) rfl (λ_ _ r=>congrArg _ r) h
def RpL.get{vs:List V}{i:Nat}(h:RpL K kd O H vs ds)(e:ds[i]? = some d):∃v,vs[i]? = some v/\Rp K kd O H v d:=
 RpL.ind (P:=λb c=>∀i,c[i]? = some d->∃v,b[i]? = some v/\Rp K kd O H v d) (λi e=>by cases e) (λa _ f i e=>by
  cases i with
  |zero=>cases e;exact⟨_,rfl,a⟩
  |succ i=>exact f i e) h i e
def RpL.append{O:Addr->Prop}(h:RpL K kd O H vs ds)(r:RpL K kd O H ws es):RpL K kd O H (vs++ws) (ds++es):=RpL.ind (P:=λb c=>RpL K kd O H (b++ws)<|c++es) r (λa _ t=>.cons a t) h
theorem RpL.take{O:Addr->Prop}(n:Nat)(h:RpL K kd O H vs ds):RpL K kd O H (vs.take n) (ds.take n):=
 RpL.ind (P:=λb c=>∀n,RpL K kd O H (b.take n)<|c.take n) (λn=>by rw[List.take_nil,List.take_nil];exact .nil) (λa _ d n=>by
  cases n with
  |zero=>exact .nil
  |succ n=>exact .cons a (d n)) h n
theorem RpL.drop{O:Addr->Prop}(n:Nat)(h:RpL K kd O H vs ds):RpL K kd O H (vs.drop n) (ds.drop n):=
 RpL.ind (P:=λc d=>∀n,RpL K kd O H (c.drop n)<|d.drop n) (λn=>by rw[List.drop_nil,List.drop_nil];exact .nil) (λa b e n=>by
  cases n with
  |zero=>exact .cons a b
  |succ n=>exact e n) h n
theorem RpL.rep(h:RpL K kd O H vs ds):∀k:Nat,RpL K kd O H (List.replicate k vs).flatten (List.replicate k ds).flatten
 |0=>.nil
 |k+1=>h.append<|RpL.rep h k
end
inductive Vw(K:zzA)(kd:KD)(O:Addr->Prop)(H:Hp):V->D->Prop
 |non:Vw K kd O H .non .non
 |bl (b:Bool):Vw K kd O H (.bl b) (.bl b)
 |int (i:Int):Vw K kd O H (.int i) (.int i)
 |str (x:Str):Vw K kd O H (.str x) (.str x)
 |tup {a:Addr}{vs:List V}{ds:List D}:Rp K kd O H (.ref a) (.tup ds)->VP K H a vs->RpL K kd O H vs ds->Vw K kd O H (.ref a) (.tup ds)
 |lst {a:Addr}{vs:List V}{ds:List D}:Ik K H a vs->RpL K kd O H vs ds->Vw K kd O H (.ref a) (.lst ds)
 |dct {a:Addr}{kvs:List (Key×V)}{ds:List (Key×D)}:(Rd H a (.dK kvs)\/kd a kvs)->RpM K kd O H kvs ds->Vw K kd O H (.ref a) (.dct ds)
 |cl (c:Str):Vw K kd O H (.ref (kd.c c)) (.cl c)
 |ob {a dx:Addr}{c:Str}{ns:List Str}{vs:List V}{ds:List D}:H a=some (.ins (kd.c c) dx (ns.zip vs))->ns.length=vs.length->RpL K kd O H vs ds->Vw K kd O H (.ref a) (.ob c ns ds)
def Rp.vw{K}(h:Rp K kd O H v d):Vw K kd O H v d:=by
 cases h with
 |non=>exact .non
 |bl b=>exact .bl b
 |int i=>exact .int i
 |str x=>exact .str x
 |tup n h r=>exact .tup (.tup n h r) (.inl h) r
 |tupK a b c e f r=>exact .tup (.tupK a b c e f r) (.inr ⟨_,_,_,a,b,c,e,f⟩) r
 |lst n h r=>exact .lst (.inl h) r
 |lstK a e f r=>exact .lst (.inr ⟨_,_,a,e,f⟩) r
 |dct n h r=>exact .dct (.inl h) r
 |dctK h r=>exact .dct (.inr h) r
 |cl c=>exact .cl c
 |ob n h l r=>exact .ob h l r
def _root_.L2.Ik.sq{K}(h:Ik K H a xs):X3 K H a xs:=by
 rcases h with h|⟨b,n,k,z,r⟩
 . exact .inl h
 . exact .inr ⟨_,b,n,k,rfl,rfl,rfl,z,r⟩
def Fh(I:Inv X pins σ H s)(h:Ik X.K H a xs):
 xs.length<=sizeLine/\∃(its:List Value) (n:Nat),zU xs its/\s.heap.get? a=some {cls:=.type "list",data:=.seq its.toArray n}:=by
 rcases h with h|⟨b,n,k,z,r⟩
 . exact h.ok I.hok
 . refine⟨by rw[r.length];simpa using z,b.toList,n,r,by simpa using I.kIn _ _ k⟩
def Rp.cl_eq{K}(h:Rp K kd O H (.ref C) (.cl c)):C=kd.c c:=by
 cases h;rfl
noncomputable def zC:D->Bool
 | .non=>true | .bl _=>true | .int _=>true | .str _=>true|_=>false
def Rp.flat{K}(h:Rp K kd O H v d)(e:zC d=true):Rp K kd O' H' v d:=by
 cases h with
 |non=>exact .non
 |bl b=>exact .bl b
 |int i=>exact .int i
 |str x=>exact .str x
 |_=>cases e
inductive Kind where
 |ls|tp|dc (ks:List Key)|ob (c:Str) (ns:List Str)
inductive O where
 |lf (st:Bool) (d:D)|nd (k:Kind) (os:List O)
abbrev Hq(st:Bool)(d:D):O:=.lf (zC d||st) d
mutual
inductive Ro(L:Bool->V->D->Prop)(N:Addr->Prop)(H:Hp):V->O->List Addr->Prop
 |lf {st:Bool}{v:V}{d:D}:L st v d->Ro L N H v (.lf st d) []
 |ls {a:Addr}{vs:List V}{os:List O}{fp:List Addr}:H a=some (.lst vs)->RoL L N H vs os fp->Ro L N H (.ref a) (.nd .ls os) (a::fp)
 |dc {a:Addr}{ks:List Key}{vs:List V}{os:List O}{fp:List Addr}:H a=some (.dK (ks.zip vs))->ks.length=vs.length->RoL L N H vs os fp->Ro L N H (.ref a) (.nd (.dc ks) os) (a::fp)
 |ob {a dx C:Addr}{c:Str}{ns:List Str}{vs:List V}{os:List O}{fp:List Addr}:L true (.ref C) (.cl c)->H a=some (.ins C dx (ns.zip vs))->ns.length=vs.length->RoL L N H vs os fp->Ro L N H (.ref a) (.nd (.ob c ns) os) (a::fp)
 |tp {a:Addr}{vs:List V}{os:List O}{fp:List Addr}:N a->H a=some (.tup vs)->RoL L N H vs os fp->Ro L N H (.ref a) (.nd .tp os) fp
inductive RoL(L:Bool->V->D->Prop)(N:Addr->Prop)(H:Hp):List V->List O->List Addr->Prop
 |nil:RoL L N H [] [] []
 |cons {v:V}{o:O}{vs:List V}{os:List O}{fp fq:List Addr}:Ro L N H v o fp->RoL L N H vs os fq->RoL L N H (v::vs) (o::os) (fp++fq)
end
mutual
def O.toD:O->D
 | .lf _ d=>d
 | .nd .ls os=>.lst<|O.toDs os
 | .nd .tp os=>.tup<|O.toDs os
 | .nd (.dc ks) os=>.dct<|ks.zip<|O.toDs os
 | .nd (.ob c ns) os=>.ob c ns<|O.toDs os
def O.toDs:List O->List D
 | []=>[]
 |o::r=>o.toD::O.toDs r
end
mutual
def O.str:O->Bool
 | .lf st _=>st
 | .nd _ os=>O.strs os
def O.strs:List O->Bool
 | []=>true
 |o::r=>o.str&&O.strs r
end
section
variable{L L':Bool->V->D->Prop}{N N':Addr->Prop}{H H':Hp}{K:zzA}{kd:KD}{Ob:Addr->Prop}
def Ro.mono(hL:∀st v d,L st v d->L' st v d)(hN:∀a vs,N a->H a=some (.tup vs)->N' a/\H' a=some (.tup vs))(k:∀a ∈ fp,∀u,H a=some u->H' a=some u)(h:Ro L N H v o fp):Ro L' N' H' v o fp:=
 Ro.rec (motive_2:=λvs os fp _=>_->RoL L' N' H' vs os fp)
  (λh _=>.lf<|hL _ _ _ h) (λh _ r k=>.ls (k _ zzF _ h)<|r λa m=>k a<|zzD _ m) (λh l _ r k=>.dc (k _ zzF _ h) l<|r λa m=>k a<|zzD _ m) (λc h l _ r k=>.ob (hL _ _ _ c) (k _ zzF _ h) l<|r λa m=>k a<|zzD _ m) (λn h _ r k=>.tp (hN _ _ n h).1 (hN _ _ n h).2<|r k)
  (λ_=>.nil) (λ_ _ h r k=>.cons (h λa m=>k a<|zzP _ m)<|r λa m=>k a<|zzL _ m) h k
def RoL.ind{P:List V->List O->List Addr->Prop}(h0:P [] [] [])(h1:∀{v o vs os fp fq},Ro L N H v o fp->RoL L N H vs os fq->P vs os fq->P (v::vs) (o::os) (fp++fq)){os}(h:RoL L N H vs os fp):P vs os fp:=
 RoL.rec (motive_1:=λ_ _ _ _=>True) (λ_=>⋯) (λ_ _ _=>⋯) (λ_ _ _ _=>⋯) (λ_ _ _ _ _=>⋯) (λ_ _ _ _=>⋯) h0 (λa r _ ih=>h1 a r ih) h
theorem RoL.mono(hL:∀st v d,L st v d->L' st v d)(hN:∀a vs,N a->H a=some (.tup vs)->N' a/\H' a=some (.tup vs)){vs:List V}{os}(k:∀a ∈ fp,∀u,H a=some u->H' a=some u)(h:RoL L N H vs os fp):RoL L' N' H' vs os fp:=
 RoL.ind (P:=λc e b=>(∀a ∈ b,∀u,H a=some u->H' a=some u)->RoL L' N' H' c e b) (λ_=>.nil) (λh _ r k=>.cons (Ro.mono hL hN (λa m=>k a<|zzP _ m) h)<|r λa m=>k a<|zzL _ m) h k
theorem Pf:∀{ks:List Key}{vs:List V}{ds:List D},RpL K kd Ob H vs ds->ks.length=vs.length->RpM K kd Ob H (ks.zip vs) (ks.zip ds)
 | [],_,_,_,_=>.nil
 |_::_,_,_,.nil,e=>by simp at e
 |_::_,_,_,.cons h r,e=>.cons h (Pf r<|by simpa using e)
def Ro.rp(b)(hL:∀st v d,(b=true->st=true)->L st v d->Rp K kd Ob H v d)(hN:∀a,N a->¬Ob a){v}(s:b=true->o.str=true)(k:∀a ∈ fp,¬Ob a)(h:Ro L N H v o fp):Rp K kd Ob H v o.toD:=
 Ro.rec (motive_2:=λi g f _=>_->_->RpL K kd Ob H i _)
  (λh s _=>hL _ _ _ s h) (λh _ r s k=>.lst (k _ zzF) (.inl h)<|r s λa m=>k a<|zzD _ m) (λh l _ r s k=>.dct (k _ zzF) (.inl h)<|Pf (r s λa m=>k a<|zzD _ m) l) (λc h l _ r s k=>by
   have e:=(hL _ _ _ (λ_=>rfl) c).cl_eq;subst e;exact .ob (k _ zzF) h l<|r s λa m=>k a<|zzD _ m) (λn h _ r s k=>.tup (hN _ n) (.inl h)<|r s k)
  (λ_ _=>.nil) (λ_ _ h r s k=>.cons (h (λz=>((zyC _ _).mp<|s z).1) λa m=>k a<|zzP _ m)<|r (λz=>((zyC _ _).mp<|s z).2) λa m=>k a<|zzL _ m) h s k
theorem RoL.rp(b:Bool)(hL:∀st v d,(b=true->st=true)->L st v d->Rp K kd Ob H v d)(hN:∀a,N a->¬Ob a){os}(s:b=true->O.strs os=true)(k:∀a ∈ fp,¬Ob a)(h:RoL L N H vs os fp):RpL K kd Ob H vs (O.toDs os):=
 RoL.ind (P:=λe c f=>(b=true->O.strs c=true)->(∀a ∈ f,¬Ob a)->RpL K kd Ob H e (O.toDs c)) (λ_ _=>.nil) (λh _ r s k=>.cons (Ro.rp b hL hN (λz=>((zyC _ _).mp<|s z).1) (λa m=>k a<|zzP _ m) h)<|r (λz=>((zyC _ _).mp<|s z).2) λa m=>k a<|zzL _ m) h s k
theorem RoL.length{vs:List V}{os}(h:RoL L N H vs os fp):vs.length=os.length:=RoL.ind (P:=λa b _=>a.length=b.length) rfl (λ_ _ r=>congrArg _ r) h
theorem Yq:∀os:List O,(O.toDs os).length=os.length
 | []=>rfl
 |_::r=>congrArg _<|Yq r
def RoL.append{vs ws:List V}{os ps}(h:RoL L N H vs os f)(r:RoL L N H ws ps g):RoL L N H (vs++ws) (os++ps) (f++g):=RoL.ind (P:=λa b f=>RoL L N H (a++ws) (b++ps)<|f++g) r (λh _ t=>by rw[zxA];exact .cons h t) h
def RoL.one(h:Ro L N H v o f):RoL L N H [v] [o] f:=by
 have:=RoL.cons h<|RoL.nil
 rwa [zyE]at this
def RoL.part(k:Nat):∀{vs:List V}{os:List O}{fp:List Addr},RoL L N H vs os fp->∃f g,fp=f++g/\RoL L N H (vs.take k) (os.take k) f/\RoL L N H (vs.drop k) (os.drop k) g:=by
 induction k with
 |zero=>intro b c a h;exact⟨[],a,rfl,.nil,h⟩
 |succ k d=>
  intro b c a h;cases h with
  |nil=>exact⟨[],[],rfl,.nil,.nil⟩
  |cons h r=>
   obtain⟨f,g,rfl,e,i⟩:=d r;exact⟨_,g,(zxA _ _ _).symm,.cons h e,i⟩
end
abbrev AS:=List<|Option O
abbrev Ad:=Nat->List Addr
def Gw(T:List Addr)(ad:Ad):Addr->Prop:=λa=>a ∈ T\/∃i,a ∈ ad i
abbrev Lv(F B G:Addr->Prop)(st:Bool):Addr->Prop:=WM (λa=>(st=true/\F a)\/B a) G
abbrev Lf(K:zzA)(kd:KD)(F B G:Addr->Prop)(H:Hp):Bool->V->D->Prop:=λst v d=>Rp K kd (Lv F B G st) H v d
abbrev Nf(F B G:Addr->Prop):Addr->Prop:=λa=>¬Lv F B G true a
abbrev vM(K:zzA)(kd:KD)(F B G:Addr->Prop)(H:Hp):V->O->List Addr->Prop:=Ro (Lf K kd F B G H) (Nf F B G) H
abbrev v_(K:zzA)(kd:KD)(F B G:Addr->Prop)(H:Hp):List V->List O->List Addr->Prop:=RoL (Lf K kd F B G H) (Nf F B G) H
def P5(K:zzA)(kd:KD)(F B G:Addr->Prop)(H:Hp):Option O->Option (Option V)->List Addr->Prop
 |none,_,fp=>fp=[]
 |some o,s,fp=>∃v,s=some (some v)/\vM K kd F B G H v o fp
structure Rel(K:zzA)(kd:KD)(F B:Addr->Prop)(T:List Addr)(ad:Ad)(as:AS)(σ:St)(H:Hp):Prop where
 len:as.length=σ.length
 out:∀i,as.length<=i->ad i=[]
 nd:∀i,(ad i).Nodup
 inj:∀i j a,a ∈ ad i->a ∈ ad j->i=j
 tnd:T.Nodup
 dis:∀i a,a ∈ ad i->a ∉ T
 ftr:∀a,F a->H a≠none
 btr:∀a,B a->H a≠none/\¬F a/\¬Gw T ad a
 gtr:∀a,Gw T ad a->H a≠none/\¬F a
 sl:∀i s,as[i]? = some s->P5 K kd F B (Gw T ad) H s σ[i]? (ad i)
inductive RV where
 |ow (o:O)|bo (i:Nat)
def xy(K:zzA)(kd:KD)(F B:Addr->Prop)(T:List Addr)(ad:Ad)(σ:St)(H:Hp)(v:V):RV->Prop
 | .ow o=>vM K kd F B (Gw T ad) H v o T
 | .bo i=>T=[]/\σ[i]? = some (some v)
noncomputable def O.frz(o:O):O:=.lf o.str o.toD
noncomputable def RV.frz:RV->RV
 | .ow o=>.ow o.frz
 | .bo i=>.bo i
noncomputable def O.isLf:O->Bool
 | .lf _ _=>true
 |_=>false
def O.kl:O->Option Bool
 | .lf st _=>some st
 | .nd _ os=>if os.all O.isLf=true then some (O.strs os)else none
noncomputable def RV.view(as:AS):RV->Option (D×Option Bool)
 | .ow o=>some (o.toD,some o.str)
 | .bo i=>match as[i]? with
  |some (some o)=>some (o.toD,o.kl)
  |_=>none
def UO(F B G:Addr->Prop):Option Bool->Addr->Prop
 |some st=>Lv F B G st
 |none=>λ_=>False
section
variable{K:zzA}{kd:KD}{F B F' B':Addr->Prop}{G G':Addr->Prop}{T T':List Addr}{ad ad1:Ad}{as as1:AS}{σ:St}{H H1 H':Hp}{v:V}{r:RV}{o:O}{fp:List Addr}{vs:List V}{os:List O}
theorem vM.grow(g:Grow G H G' H')(k:∀a ∈ fp,∀u,H a=some u->H' a=some u)(h:vM K kd F B G H v o fp):vM K kd F B G' H' v o fp:=
 Ro.mono (λst v d r=>Rp.grow g r) (λa vs n e=>⟨λz=>z.elim (λy=>n<|.inl y) λy=>(g.own a y).elim (λw=>n<|.inr w) λw=>(by rw[w]at e;cases e),g.keep a _ e λw=>n<|.inr w⟩) k h
theorem v_.grow(g:Grow G H G' H')(k:∀a ∈ fp,∀u,H a=some u->H' a=some u)(h:v_ K kd F B G H vs os fp):v_ K kd F B G' H' vs os fp:=
 RoL.mono (λst v d r=>Rp.grow g r) (λa vs n e=>⟨λz=>z.elim (λy=>n<|.inl y) λy=>(g.own a y).elim (λw=>n<|.inr w) λw=>(by rw[w]at e;cases e),g.keep a _ e λw=>n<|.inr w⟩) k h
def vM.lv(g:∀st a,Lv F' B' G' st a->Lv F B G st a)(h:vM K kd F B G H v o fp):vM K kd F' B' G' H v o fp:=
 Ro.mono (λst v d r=>r.less<|g st) (λa vs n e=>⟨λz=>n<|g true a z,e⟩) (λ_ _ _ e=>e) h
def v_.lv(g:∀st a,Lv F' B' G' st a->Lv F B G st a)(h:v_ K kd F B G H vs os fp):v_ K kd F' B' G' H vs os fp:=
 RoL.mono (λst v d r=>r.less<|g st) (λa vs n e=>⟨λz=>n<|g true a z,e⟩) (λ_ _ _ e=>e) h
def vM.less(g:∀a,G' a->G a)(h:vM K kd F B G H v o fp):vM K kd F B G' H v o fp:=vM.lv (λ_ a z=>z.elim .inl λy=>.inr<|g a y) h
def Gw.drop:∀a,Gw [] ad a->Gw T ad a:=λ_ h=>h.elim ⋯ .inr
def Rel.trk(R:Rel K kd F B T ad as σ H)(st):∀a,Lv F B (Gw T ad) st a->H a≠none:=λa h=>by
 rcases h with(h|h)|h
 . exact R.ftr a h.2
 . exact(R.btr a h).1
 . exact(R.gtr a h).1
def Rel.tr(R:Rel K kd F B T ad as σ H)(lv):∀a,UO F B (Gw T ad) lv a->H a≠none:=λa h=>by
 cases lv with
 |none=>exact h.elim
 |some st=>exact R.trk st a h
theorem P5.lv(g:∀st a,Lv F' B' G' st a->Lv F B G st a)(h:P5 K kd F B G H s x fp):P5 K kd F' B' G' H s x fp:=by
 cases s with
 |none=>exact h
 |some o=>obtain⟨v,e,r⟩:=h;exact⟨v,e,vM.lv g r⟩
def P5.less(g:∀a,G' a->G a)(h:P5 K kd F B G H s x fp):P5 K kd F B G' H s x fp:=h.lv λ_ a z=>z.elim .inl λy=>.inr<|g a y
theorem P5.grow(g:Grow G H G' H')(k:∀a ∈ fp,∀u,H a=some u->H' a=some u)(h:P5 K kd F B G H s x fp):P5 K kd F B G' H' s x fp:=by
 cases s with
 |none=>exact h
 |some o=>obtain⟨v,e,r⟩:=h;exact⟨v,e,vM.grow g k r⟩
theorem Rel.drop(R:Rel K kd F B T ad as σ H):Rel K kd F B [] ad as σ H where
 len:=R.len
 out:=R.out
 nd:=R.nd
 inj:=R.inj
 tnd:=zyJ
 dis:=λ_ _ _ z=>nomatch z
 ftr:=R.ftr
 btr:=λa h=>let⟨h1,h2,h3⟩:=R.btr a h;⟨h1,h2,λz=>h3<|Gw.drop a z⟩
 gtr:=λa h=>R.gtr a (Gw.drop a h)
 sl:=λi s e=>(R.sl i s e).less Gw.drop
def FL(R:Rel K kd F B T ad as σ H)(h:vM K kd F B (Gw T ad) H v o T):Rp K kd (Lv F B (Gw [] ad) o.str) H v o.toD:=
 Ro.rp o.str (λst v d hs r=>r.less λa z=>z.elim (λy=>.inl<|y.elim (λx=>.inl ⟨hs x.1,x.2⟩) .inr) λy=>.inr<|Gw.drop a y)
  (λa n z=>n<|z.elim (λy=>.inl<|y.elim (λx=>.inl ⟨rfl,x.2⟩) .inr) λy=>.inr<|Gw.drop a y) id
  (λa m z=>by
   rcases z with(z|z)|z|⟨i,z⟩
   . exact(R.gtr a<|.inl m).2 z.2
   . exact(R.btr a z).2.2<|.inl m
   . cases z
   . exact R.dis i a z m) h
def xy.drop(R:Rel K kd F B T ad as σ H)(h:xy K kd F B T ad σ H v r):xy K kd F B [] ad σ H v r.frz:=by
 cases r with
 |ow o=>exact .lf (FL R h)
 |bo i=>exact⟨rfl,h.2⟩
theorem xy.grow(g:Grow (Gw [] ad) H (Gw [] ad1) H1)(h:xy K kd F B [] ad σ H v r):xy K kd F B [] ad1 σ H1 v r:=by
 cases r with
 |ow o=>exact vM.grow g ⋯ h
 |bo i=>exact h
def Hy(h:v_ K kd F B G H vs os fp):os.all O.isLf=true->fp=[]:=
 RoL.ind (P:=λ_ os fp=>os.all O.isLf=true->fp=[]) ⋯ (λh _ ih e=>by
  rw[List.all_cons,zyC]at e;rw[ih e.2];cases h with
  |lf=>rfl
  |ls=>cases e.1
  |dc=>cases e.1
  |ob=>cases e.1
  |tp=>cases e.1) h
def Qj{st}(hs:b=true->st=true):∀a,Lv F B G b a->Lv F B G st a:=λa z=>z.elim (λy=>.inl<|y.elim (λx=>.inl ⟨hs x.1,x.2⟩) .inr) .inr
def Uq(h:v_ K kd F B G H vs os fp)(e:os.all O.isLf=true):RpL K kd (Lv F B G<|O.strs os) H vs (O.toDs os):=by
 have:=Hy h e;subst this;exact RoL.rp _ (λst v d hs r=>r.less<|Qj hs) (λa n z=>n<|Qj ⋯ a z) id ⋯ h
def V5(h:v_ K kd F B G H vs os fp):RpL K kd (λ_=>False) H vs (O.toDs os):=RoL.rp false (λst v d _ r=>r.less λ_ z=>z.elim) (λ_ _ z=>z) ⋯ (λ_ _ z=>z) h
def Ud(h:vM K kd F B G H v o fp):Rp K kd (λ_=>False) H v o.toD:=Ro.rp false (λst v d _ r=>r.less λ_ z=>z.elim) (λ_ _ z=>z) ⋯ (λ_ _ z=>z) h
def Uc(h:vM K kd F B G H v o []):Rp K kd (Lv F B G o.str) H v o.toD:=
 Ro.rp o.str (λst v d hs r=>r.less<|Qj hs) (λa n z=>n<|Qj ⋯ a z) id ⋯ h
theorem vM.vw(h:vM K kd F B G H v o fp):Vw K kd (UO F B G o.kl) H v o.toD:=by
 cases h with
 |lf h=>exact h.vw
 |ls hH r=>
  rename_i a vs' os' fp';show Vw K kd (UO F B G (if os'.all O.isLf=true then some _ else none)) H _ _
  by_cases e:os'.all O.isLf=true
  . rw[if_pos e];exact .lst (.inl<|.inl hH)<|Uq r e
  . rw[if_neg e];exact .lst (.inl<|.inl hH) (V5 r)
 |dc hH l r=>
  rename_i a ks vs' os' fp';show Vw K kd (UO F B G (if os'.all O.isLf=true then some _ else none)) H _ _
  by_cases e:os'.all O.isLf=true
  . rw[if_pos e];exact .dct (.inl<|.inl hH)<|Pf (Uq r e) l
  . rw[if_neg e];exact .dct (.inl<|.inl hH) (Pf (V5 r) l)
 |ob hc hH l r=>
  rename_i a dx C c ns vs' os' fp';have ec:=hc.cl_eq;subst ec;show Vw K kd (UO F B G (if os'.all O.isLf=true then some _ else none)) H _ _
  by_cases e:os'.all O.isLf=true
  . rw[if_pos e];exact .ob hH l<|Uq r e
  . rw[if_neg e];exact .ob hH l (V5 r)
 |tp n hH r=>
  rename_i a vs' os';show Vw K kd (UO F B G (if os'.all O.isLf=true then some _ else none)) H _ _
  by_cases e:os'.all O.isLf=true
  . rw[if_pos e];have rl:=Uq r e;exact .tup (.tup (λz=>n<|Qj (λ_=>rfl) _ z) (.inl hH) rl) (.inl<|.inl hH) rl
  . rw[if_neg e];exact .tup (.tup (λz=>z) (.inl hH)<|V5 r) (.inl<|.inl hH)<|V5 r
theorem xy.vw(R:Rel K kd F B [] ad as σ H)(h:xy K kd F B [] ad σ H v r)(e:r.view as=some (d,lv)):Vw K kd (UO F B (Gw [] ad) lv) H v d:=by
 cases r with
 |ow o=>
  cases e;exact(Uc h).vw
 |bo i=>
  have e:(match as[i]? with|some (some o)=>some _|_=>none)=some _:=e;cases k:as[i]? with
  |none=>rw[k]at e;cases e
  |some s=>
   cases s with
   |none=>rw[k]at e;cases e
   |some o=>
    rw[k]at e;cases e;obtain⟨w,hw,ro⟩:=R.sl i _ k;rw[h.2]at hw;cases hw;exact ro.vw
def Rel.add(R:Rel K kd F B T ad as σ H)(hn:N.Nodup)(hl:∀a ∈ N,H a=none)(k:∀b u,H b=some u->H' b=some u)(h1:∀a ∈ N,H' a≠none):Rel K kd F B (N++T) ad as σ H'/\Grow (Gw T ad) H (Gw (N++T) ad) H':=by
 have g:Grow (Gw T ad) H (Gw _ ad) H':=⟨λb u h _=>k b u h,λb h=>by
  rcases h with h|h
  . rcases zzM.mp h with h|h
    . exact .inr<|hl b h
    . exact .inl<|.inl h
  . exact .inl<|.inr h⟩
 have kn:∀a,H a≠none->H' a≠none:=λa z=>by
  cases e:H a with
  |none=>exact absurd e z
  |some u=>rw[k a u e];simp
 refine⟨⟨R.len,R.out,R.nd,R.inj, ?_,λi a m z=>?_,λa z=>kn a<|R.ftr a z,λa z=>?_,λa z=>?_,λi s e=>(R.sl i s e).grow g λa _ u h=>k a u h⟩,g⟩
 . refine zxC.mpr ⟨hn,R.tnd,λa m b m' e=>?_⟩;subst e;exact(R.gtr a<|.inl m').1<|hl a m
 . rcases zzM.mp z with z|z
   . exact(R.gtr a<|.inr ⟨i,m⟩).1<|hl a z
   . exact R.dis i a m z
 . obtain⟨b1,b2,b3⟩:=R.btr a z;refine⟨kn a b1,b2,λy=>?_⟩
   rcases y with y|y
   . rcases zzM.mp y with y|y
     . exact b1<|hl a y
     . exact b3<|.inl y
   . exact b3<|.inr y
 . rcases z with z|z
   . rcases zzM.mp z with z|z
     . exact⟨h1 a z,λf=>R.ftr a f<|hl a z⟩
     . exact⟨kn a (R.gtr a<|.inl z).1,(R.gtr a<|.inl z).2⟩
   . exact⟨kn a (R.gtr a<|.inr z).1,(R.gtr a<|.inr z).2⟩
def Rel.more(R:Rel K kd F B T ad as σ H)(k:∀b u,H b=some u->H' b=some u):Rel K kd F B T ad as σ H'/\Grow (Gw T ad) H (Gw T ad) H':=
 R.add zyJ ⋯ k ⋯
def Rel.news(R:Rel K kd F B [] ad as σ H)(hn:T'.Nodup)(hl:∀a ∈ T',H a=none)(k:∀b u,H b=some u->H' b=some u)(h1:∀a ∈ T',H' a≠none):Rel K kd F B T' ad as σ H'/\Grow (Gw [] ad) H (Gw T' ad) H':=by
 have:=R.add hn hl k h1
 rwa [zyE]at this
end
inductive R0 where
 |im (d:D)|fl (ds:List D)|fd (kvs:List (Key×D))
def RQ(K:zzA)(kd:KD)(O:Addr->Prop)(H:Hp)(Q:VK):R0->Prop
 | .im d=>∀v H',(∀b o,H b=some o->H' b=some o)->Rp K kd O H' v d->Q v H'
 | .fl ds=>∀l vs H',H l=none->(∀b o,H b=some o->H' b=some o)->H' l=some (.lst vs)->RpL K kd (WM O (· = l)) H' vs ds->Q (.ref l) H'
 | .fd ds=>∀l vs H',H l=none->(∀b o,H b=some o->H' b=some o)->H' l=some (.dK vs)->RpM K kd (WM O (· = l)) H' vs ds->Q (.ref l) H'
def wrap(lv:Option Bool):R0->Option RV
 | .im d=>if(zC d||lv.isSome)=true then some (.ow<|Hq (lv.getD false) d)else none
 | .fl ds=>if(ds.all zC||lv.isSome)=true then some (.ow<|.nd .ls<|ds.map<|Hq<|lv.getD false)else none
 | .fd kvs=>if((kvs.map (·.2)).all zC||lv.isSome)=true then some (.ow (.nd (.dc (kvs.map (·.1))) ((kvs.map (·.2)).map<|Hq<|lv.getD false)))else none
def bS_{α β:Type}{o}{f:α->Option β}{b}(h:o.bind f=some b):∃a,o=some a/\f a=some b:=by
 cases o with
 |none=>cases h
 |some a=>exact⟨a,rfl,h⟩
def ite_some'{α:Type}{c:Prop}[Decidable c]{a}{b:α}(h:(if c then a else none)=some b):c/\a=some b:=by
 by_cases hc:c
 . rw[if_pos hc]at h;exact⟨hc,h⟩
 . rw[if_neg hc]at h;cases h
def zu{α:Type}{c:Prop}[Decidable c]{a b:α}(h:(if c then some a else none)=some b):c/\a=b:=by
 by_cases hc:c
 . rw[if_pos hc]at h;cases h;exact⟨hc,rfl⟩
 . rw[if_neg hc]at h;cases h
section
variable{K:zzA}{kd:KD}{F B:Addr->Prop}{G:Addr->Prop}{ad:Ad}{as:AS}{σ:St}{H H':Hp}{v:V}{r:R0}{rv:RV}{Q:VK}{lv:Option Bool}
def DN(h:zC d=true\/lv.isSome=true)(hO:∀st,lv=some st->∀a,Lv F B G st a->Ob a)(rp:Rp K kd Ob H v d):Lf K kd F B G H (zC d||lv.getD false) v d:=by
 cases e:zC d with
 |true=>exact rp.flat e
 |false=>
  rw[e]at h;cases lv with
  |none=>rcases h with h|h<;>cases h
  |some st=>exact rp.less (hO st rfl)
def IC(hO:∀st,lv=some st->∀a,Lv F B G st a->Ob a)(e:(ds.all zC||lv.isSome)=true)(h:RpL K kd Ob H vs ds):RoL (Lf K kd F B G H) N H vs (ds.map<|Hq<|lv.getD false) []:=
 RpL.ind (P:=λvs ds=>(ds.all zC||lv.isSome)=true->RoL _ N H vs (ds.map _) []) (λ_=>.nil) (λ{v d vs ds} h _ ih e=>by
  rw[List.all_cons]at e;have e1:zC d=true\/lv.isSome=true:=by
   cases h1:lv.isSome<;>cases h2:zC d<;>simp[h1,h2]at e ⊢
  have e2:(ds.all zC||lv.isSome)=true:=by
   cases h1:lv.isSome with
   |true=>simp
   |false=>
    rw[h1,Bool.or_false,zyC]at e;rw[Bool.or_false];exact e.2
  exact RoL.cons (.lf<|DN e1 hO h)<|ih e2) h e
def Sl{O}(h:RpM K kd O H vs ds):vs=(ds.map (·.1)).zip (vs.map (·.2))/\RpL K kd O H (vs.map (·.2)) (ds.map (·.2)):=
 RpM.ind (P:=λvs ds=>vs=(ds.map _).zip (vs.map _)/\RpL K kd O H (vs.map _) (ds.map _)) ⟨rfl,.nil⟩ (λh _ ih=>by
  obtain⟨h1,h2⟩:=ih;refine⟨?_,.cons h h2⟩
  conv=>lhs;rw[h1]
  rfl) h
def ZS(R:Rel K kd F B [] ad as σ H)(e:wrap lv r=some rv)(q:∀v T' H',Rel K kd F B T' ad as σ H'->xy K kd F B T' ad σ H' v rv->Grow (Gw [] ad) H (Gw T' ad) H'->Q v H'):RQ K kd (UO F B (Gw [] ad) lv) H Q r:=by
 have hO:∀l st,lv=some st->∀a,Lv F B (Gw l ad) st a->WM (UO F B (Gw [] ad) lv) (· ∈ l) a:=by
  intro l st e a z;subst e
  rcases z with z|z|z
  . exact .inl<|.inl z
  . exact .inr z
  . exact .inl<|.inr<|.inr z
 cases r with
 |im d=>
  obtain⟨c,rfl⟩:=zu e;intro v H' k rp;obtain⟨R',g⟩:=R.more k;refine q v [] H' R' (.lf<|DN ((Bool.or_eq_true _ _).mp c) (λst e a z=>?_) rp) g;exact(hO [] st e a z).elim id λm=>nomatch m
 |fl ds=>
  obtain⟨c,rfl⟩:=zu e;intro l vs H' hl k hl' rp;obtain⟨R',g⟩:=R.news (T':=[l]) ⋯ (λa m=>by rwa [zzR.mp m]) k (λa m=>by rw[zzR.mp m,hl'];simp);exact q _ [l] H' R' (.ls hl'<|IC (λst e a z=>(hO [l] st e a z).elim .inl λm=>.inr<|zzR.mp m) c rp) g
 |fd ds=>
  obtain⟨c,rfl⟩:=zu e;intro l vs H' hl k hl' rp;obtain⟨R',g⟩:=R.news (T':=[l]) ⋯ (λa m=>by rwa [zzR.mp m]) k (λa m=>by rw[zzR.mp m,hl'];simp);obtain⟨e1,r1⟩:=Sl rp;refine q _ [l] H' R' (.dc (by rw[hl',<-e1]) (by rw[zzB,zzB,rp.length])<|IC (λst e a z=>(hO [l] st e a z).elim .inl λm=>.inr<|zzR.mp m) c r1) g
end
abbrev EF:=AS->Option (RV×AS)
def al(K:zzA)(kd:KD)(f:EF):TE:=λσ H Q=>∃F B ad as r as',Rel K kd F B [] ad as σ H/\f as=some (r,as')/\
 ∀v T' ad' H',Rel K kd F B T' ad' as' σ H'->xy K kd F B T' ad' σ H' v r->Grow (Gw [] ad) H (Gw T' ad') H'->Q v H'
@[irreducible] def AE(X:Cx)(kd:KD)(e:Expr)(f:EF):Prop:=PE X e<|al X.K kd f
def yn(h:PE X e t)(k:∀σ H Q,t' σ H Q->t σ H Q):PE X e t':=λpins s σ H Q I q=>h pins s σ H Q I<|k σ H Q q
section
variable{K:zzA}{kd:KD}{F B:Addr->Prop}{ad:Ad}{as as1:AS}{σ:St}{H:Hp}{r:RV}{f:EF}{P:VK}
def vU(R:Rel K kd F B [] ad as σ H)(e:f as=some (r,as1))(k:∀v ad1 H1,Rel K kd F B [] ad1 as1 σ H1->xy K kd F B [] ad1 σ H1 v r.frz->Grow (Gw [] ad) H (Gw [] ad1) H1->P v H1):al K kd f σ H P:=
 ⟨F,B,ad,as,r,as1,R,e,λv T' ad' H' R' rv g=>k v ad' H' R'.drop (xy.drop R' rv)<|g.trans<|Grow.less Gw.drop⟩
end
def t_(X:Cx)(kd:KD)(f:Value->Value->Sem Value)(g:D->D->Option R0):Prop:=
 Ux X f (λx y H Q=>∃O d e r,(∀a,O a->H a≠none)/\Vw X.K kd O H x d/\Vw X.K kd O H y e/\g d e=some r/\RQ X.K kd O H Q r)
def iR(X:Cx)(kd:KD)(f:Value->Sem Value)(g:D->Option R0):Prop:=
 lR X f (λx H Q=>∃O d r,(∀a,O a->H a≠none)/\Vw X.K kd O H x d/\g d=some r/\RQ X.K kd O H Q r)
inductive VwL(K:zzA)(kd:KD)(O:Addr->Prop)(H:Hp):List V->List D->Prop
 |nil:VwL K kd O H [] []
 |cons {v:V}{d:D}{vs:List V}{ds:List D}:Vw K kd O H v d->VwL K kd O H vs ds->VwL K kd O H (v::vs) (d::ds)
def Z_(X:Cx)(kd:KD)(f:Value)(g:List D->Option R0):Prop:=
 Yr X f (λxs H Q=>∃O ds r,(∀a,O a->H a≠none)/\VwL X.K kd O H xs ds/\g ds=some r/\RQ X.K kd O H Q r)
def iX(X:Cx)(kd:KD)(g:D->D->Option R0):Prop:=
 oi X (λx y H Q=>∃O d e r,(∀a,O a->H a≠none)/\Vw X.K kd O H x d/\Vw X.K kd O H y e/\g d e=some r/\RQ X.K kd O H Q r)
noncomputable def meet:Option Bool->Option Bool->Option Bool
 |some a,some b=>some (a&&b)
 |_,_=>none
def UO.meet1:∀x,UO F B G (meet a b) x->UO F B G a x:=λx h=>by
 cases a with
 |none=>cases b<;>exact h.elim
 |some p=>
  cases b with
  |none=>exact h.elim
  |some q=>exact Qj (λz=>((zyC _ _).mp z).1) x h
def UO.meet2:∀x,UO F B G (meet a b) x->UO F B G b x:=λx h=>by
 cases a with
 |none=>cases b<;>exact h.elim
 |some p=>
  cases b with
  |none=>exact h.elim
  |some q=>exact Qj ⋯ x h
theorem Vw.less{K O O'}(g:∀a,O' a->O a)(h:Vw K kd O H v d):Vw K kd O' H v d:=by
 cases h with
 |non=>exact .non
 |bl b=>exact .bl b
 |int i=>exact .int i
 |str x=>exact .str x
 |tup r s l=>exact .tup (r.less g) s (l.less g)
 |lst h l=>exact .lst h (l.less g)
 |dct h l=>exact .dct h (l.less g)
 |cl c=>exact .cl c
 |ob h k l=>exact .ob h k (l.less g)
def f2(fa fb:EF)(g:D->D->Option R0):EF:=λas=>(fa as).bind λp=>(fb p.2).bind λq=>(p.1.frz.view q.2).bind λx=>(q.1.frz.view q.2).bind λy=>(g x.1 y.1).bind λr=>(wrap (meet x.2 y.2) r).bind λz=>some (z,q.2)
def Bp{fa fb}{as as':AS}(h:f2 fa fb g as=some (rv,as')):
 ∃p as1 q x y lx ly r,fa as=some (p,as1)/\fb as1=some (q,as')/\p.frz.view as'=some (x,lx)/\q.frz.view as'=some (y,ly)/\g x y=some r/\wrap (meet lx ly) r=some rv:=by
 obtain⟨⟨p,as1⟩,h1,h⟩:=bS_ h;obtain⟨⟨q,as2⟩,h2,h⟩:=bS_ h;obtain⟨⟨x,lx⟩,h3,h⟩:=bS_ h;obtain⟨⟨y,ly⟩,h4,h⟩:=bS_ h;obtain⟨r,h5,h⟩:=bS_ h;obtain⟨z,h6,h⟩:=bS_ h;cases h;exact⟨p,as1,q,x,y,lx,ly,r,h1,h2,h3,h4,h5,h6⟩
section
variable{X:Cx}{kd:KD}{a b c:Expr}{fa fb fc:EF}{pos:Pos}
def lh(hr:∀x y H Q,(∃O d e r,(∀a,O a->H a≠none)/\Vw X.K kd O H x d/\Vw X.K kd O H y e/\g d e=some r/\RQ X.K kd O H Q r)->R2' x y H Q)
 (h:al X.K kd (f2 fa fb g) σ H Q):nt R2' (al X.K kd fa) (al X.K kd fb) σ H Q:=by
 obtain⟨F,B,ad,as,r,as',R,e,q⟩:=h;obtain⟨p,as1,z,x,y,lx,ly,r0,h1,h2,h3,h4,h5,h6⟩:=Bp e;refine vU R h1 λv ad1 H1 R1 rv1 g1=>vU R1 h2 λu ad2 H2 R2 rv2 g2=>hr _ _ _ _ ?_;exact⟨_,x,y,r0,R2.tr _,(xy.vw R2 (rv1.grow g2) h3).less UO.meet1,(xy.vw R2 rv2 h4).less UO.meet2,h5,ZS R2 h6 λw T' H' R' rv' g'=>q w T' ad2 H' R' rv'<|(g1.trans g2).trans g'⟩
def sW(ho:t_ X kd (binaryOp op) g)(ha:AE X kd a fa)(hb':AE X kd b fb):AE X kd (.BinOp a op b pos) (f2 fa fb g):=by with_unfolding_all exact(yn (oI ho ha hb') λσ H Q h=>lh (λ_ _ _ _ z=>z) h)
def rR(ho:t_ X kd (compareOp op) g)(ha:AE X kd a fa)(hb':AE X kd b fb)(hm:behindInMarks op b=false):AE X kd (.Compare a [op] [b] pos) (f2 fa fb g):=by with_unfolding_all exact(yn (Do ho ha hb' hm) λσ H Q h=>lh (λ_ _ _ _ z=>z) h)
def ou(ho:iX X kd g)(ha:AE X kd a fa)(hb':AE X kd b fb)(hm:NC b):AE X kd (.Subscript a b pos) (f2 fa fb g):=by with_unfolding_all exact(yn (mT ho ha hb' hm) λσ H Q h=>lh (λ_ _ _ _ z=>z) h)
noncomputable def fC(d:D):EF:=λas=>some (.ow<|.lf true d,as)
noncomputable def fV(i:Nat):EF:=λas=>match as[i]? with
 |some (some (.lf st d))=>some (.ow<|.lf st d,as)
 |some (some (.nd _ _))=>some (.bo i,as)
 |_=>none
def TB(h:PE X a (tC v))(hr:∀O H,Rp X.K kd O H v d):AE X kd a (fC d):=by with_unfolding_all exact(yn h λσ H Q h=>by
 obtain⟨F,B,ad,as,r,as',R,e,q⟩:=h;cases e;exact q v [] ad H R (.lf<|hr _ _) Grow.refl)
def uK{i:Nat}(h:PE X a (VL i)):AE X kd a (fV i):=by with_unfolding_all exact(yn h λσ H Q h=>by
 obtain⟨F,B,ad,as,r,as',R,e,q⟩:=h;unfold fV at e;cases k:as[i]? with
 |none=>rw[k]at e;cases e
 |some s=>
  rw[k]at e;cases s with
  |none=>cases e
  |some o=>
   obtain⟨v,h1,h2⟩:=R.sl i _ k;cases o with
   |lf st d=>
    cases e;have e0:ad i=[]:=by
     generalize hfp:ad i=fp at h2;cases h2;rfl
    rw[e0]at h2;exact⟨v,h1,q v [] ad H R h2 Grow.refl⟩
   |nd kk os=>
    cases e;exact⟨_,h1,q _ [] ad H R ⟨rfl,h1⟩ Grow.refl⟩)
end
noncomputable def yX(ad:Ad)(i:Nat)(x:List Addr):Ad:=λj=>if j=i then x else ad j
section
variable{K:zzA}{kd:KD}{F B:Addr->Prop}{T T1 T2:List Addr}{ad ad1:Ad}{as as1:AS}{σ:St}{H H1:Hp}{v:V}{r:RV}{o:O}{i:Nat}
def zQ:yX ad i x i=x:=if_pos rfl
def zS{j:Nat}(h:j≠i):yX ad i x j=ad j:=if_neg h
def ZY:∀a,Gw T (yX ad i []) a->Gw T ad a:=λa h=>by
 rcases h with h|⟨j,h⟩
 . exact .inl h
 . by_cases e:j=i
   . subst e;rw[zQ]at h;cases h
   . rw[zS e]at h;exact .inr ⟨j,h⟩
def Xp:∀a,Gw [] (yX ad i T) a->Gw T ad a:=λa h=>by
 rcases h with h|⟨j,h⟩
 . cases h
 . by_cases e:j=i
   . subst e;rw[zQ]at h;exact .inl h
   . rw[zS e]at h;exact .inr ⟨j,h⟩
def FP:∀st a,Lv F (λa=>B a\/a ∈ T) (Gw [] ad) st a->Lv F B (Gw T ad) st a:=λst a z=>by
 rcases z with(z|z|z)|z
 . exact .inl<|.inl z
 . exact .inl<|.inr z
 . exact .inr<|.inl z
 . exact .inr<|Gw.drop a z
def Q6:∀st a,Lv F B (Gw (T1++T2) ad) st a->Lv F (λa=>B a\/a ∈ T1) (Gw T2 ad) st a:=λst a z=>by
 rcases z with(z|z)|z|z
 . exact .inl<|.inl z
 . exact .inl<|.inr<|.inl z
 . rcases zzM.mp z with z|z
   . exact .inl<|.inr<|.inr z
   . exact .inr<|.inl z
 . exact .inr<|.inr z
def Rel.hide(R:Rel K kd F B T ad as σ H):Rel K kd F (λa=>B a\/a ∈ T) [] ad as σ H where
 len:=R.len
 out:=R.out
 nd:=R.nd
 inj:=R.inj
 tnd:=zyJ
 dis:=λ_ _ _ z=>nomatch z
 ftr:=R.ftr
 btr:=λa h=>by
  rcases h with h|h
  . obtain⟨h1,h2,h3⟩:=R.btr a h;exact⟨h1,h2,λz=>h3<|Gw.drop a z⟩
  . exact⟨(R.gtr a<|.inl h).1,(R.gtr a<|.inl h).2,λz=>z.elim ⋯ λ⟨j,y⟩=>R.dis j a y h⟩
 gtr:=λa h=>R.gtr a (Gw.drop a h)
 sl:=λi s e=>(R.sl i s e).lv FP
def Rel.unhide(hn:T1.Nodup)(hb:∀a ∈ T1,¬B a)(R:Rel K kd F (λa=>B a\/a ∈ T1) T2 ad as σ H):Rel K kd F B (T1++T2) ad as σ H where
 len:=R.len
 out:=R.out
 nd:=R.nd
 inj:=R.inj
 tnd:=zxC.mpr ⟨hn,R.tnd,λa m b m' e=>by subst e;exact(R.btr a<|.inr m).2.2<|.inl m'⟩
 dis:=λi a m z=>by
  rcases zzM.mp z with z|z
  . exact(R.btr a<|.inr z).2.2<|.inr ⟨i,m⟩
  . exact R.dis i a m z
 ftr:=R.ftr
 btr:=λa h=>by
  obtain⟨h1,h2,h3⟩:=R.btr a<|.inl h;refine⟨h1,h2,λz=>?_⟩
  rcases z with z|z
  . rcases zzM.mp z with z|z
    . exact hb a z h
    . exact h3<|.inl z
  . exact h3 (.inr z)
 gtr:=λa h=>by
  rcases h with h|h
  . rcases zzM.mp h with h|h
    . exact⟨(R.btr a<|.inr h).1,(R.btr a<|.inr h).2.1⟩
    . exact R.gtr a<|.inl h
  . exact R.gtr a (.inr h)
 sl:=λi s e=>(R.sl i s e).lv Q6
theorem Rel.frz(R:Rel K kd F B T ad as σ H)(h:as[i]? = some (some o)):
 Rel K kd F B T (yX ad i []) (as.set i<|some o.frz) σ H/\∃v,σ[i]? = some (some v)/\Rp K kd (Lv F B (Gw T<|yX ad i []) o.str) H v o.toD:=by
 obtain⟨v,hv,ro⟩:=R.sl i _ h;have rp:Rp K kd (Lv F B (Gw T<|yX ad i []) o.str) H v o.toD:=
  Ro.rp o.str (λst v d hs r=>r.less λa z=>z.elim (λy=>.inl<|y.elim (λx=>.inl ⟨hs x.1,x.2⟩) .inr) λy=>.inr<|ZY a y)
   (λa n z=>n<|z.elim (λy=>.inl<|y.elim (λx=>.inl ⟨rfl,x.2⟩) .inr) λy=>.inr<|ZY a y) id
   (λa m z=>by
    rcases z with(z|z)|z|⟨j,z⟩
    . exact(R.gtr a<|.inr ⟨i,m⟩).2 z.2
    . exact(R.btr a z).2.2<|.inr ⟨i,m⟩
    . exact R.dis i a m z
    . by_cases e:j=i
      . subst e;rw[zQ]at z;cases z
      . rw[zS e]at z;exact e<|R.inj j i a z m) ro
 have hi:=(zzG.mp h).1;refine⟨⟨by rw[zzU];exact R.len,λj hj=>?_,λj=>?_,λj k a h1 h2=>?_,R.tnd,λj a h1=>?_,R.ftr,λa h1=>?_,λa h1=>R.gtr a<|ZY a h1,λj s e=>?_⟩,v,hv,rp⟩
 . rw[zzU]at hj;rw[zS ⋯];exact R.out j hj
 . by_cases e:j=i
   . subst e;rw[zQ];exact zyJ
   . rw[zS e];exact R.nd j
 . by_cases e:j=i
   . subst e;rw[zQ]at h1;cases h1
   . by_cases e':k=i
     . subst e';rw[zQ]at h2;cases h2
     . rw[zS e]at h1;rw[zS e']at h2;exact R.inj j k a h1 h2
 . by_cases e:j=i
   . subst e;rw[zQ]at h1;cases h1
   . rw[zS e]at h1;exact R.dis j a h1
 . obtain⟨b1,b2,b3⟩:=R.btr a h1;exact⟨b1,b2,λz=>b3<|ZY a z⟩
 . by_cases q:j=i
   . subst q;rw[zyK hi]at e;cases e;rw[zQ];exact⟨v,hv,.lf rp⟩
   . rw[zzY<|Ne.symm q]at e;rw[zS q];exact(R.sl j s e).less ZY
def Rel.put(R:Rel K kd F B T ad as σ H)(hi:i<as.length)(h:vM K kd F B (Gw T ad) H v o T):Rel K kd F B [] (yX ad i T) (as.set i<|some o) (σ.set i<|some v) H:=by
 have hi':i<σ.length:=by rwa [<-R.len]
 refine⟨by rw[zzU,zzU];exact R.len,λj hj=>?_,λj=>?_,λj k a h1 h2=>?_,zyJ,(λ_ _ _ z=>nomatch z),R.ftr,λa h1=>?_,λa h1=>R.gtr a<|Xp a h1,λj s e=>?_⟩
 . rw[zzU]at hj;rw[zS ⋯];exact R.out j hj
 . by_cases e:j=i
   . subst e;rw[zQ];exact R.tnd
   . rw[zS e];exact R.nd j
 . by_cases e:j=i
   . subst e;rw[zQ]at h1
     by_cases e':k=j
     . exact e'.symm
     . rw[zS e']at h2;exact(R.dis k a h2 h1).elim
   . rw[zS e]at h1
     by_cases e':k=i
     . subst e';rw[zQ]at h2;exact(R.dis j a h1 h2).elim
     . rw[zS e']at h2;exact R.inj j k a h1 h2
 . obtain⟨b1,b2,b3⟩:=R.btr a h1;exact⟨b1,b2,λz=>b3<|Xp a z⟩
 . by_cases q:j=i
   . subst q;rw[zyK hi]at e;cases e;rw[zQ,zyK hi'];exact⟨v,rfl,h.less Xp⟩
   . rw[zzY<|Ne.symm q]at e;rw[zS q,zzY<|Ne.symm q];exact(R.sl j s e).less Xp
noncomputable def JT(as:AS):RV->Option (O×AS)
 | .ow o=>some (o,as)
 | .bo i=>match as[i]? with
  |some (some o)=>some (o.frz,as.set i<|some o.frz)
  |_=>none
def Gb(R:Rel K kd F B T ad as σ H)(h:xy K kd F B T ad σ H v r)(e:JT as r=some (o,as')):∃ad',Rel K kd F B T ad' as' σ H/\vM K kd F B (Gw T ad') H v o T/\∀a,Gw T ad' a->Gw T ad a:=by
 cases r with
 |ow o'=>cases e;exact⟨ad,R,h,λ_ z=>z⟩
 |bo i=>
  have e:(match as[i]? with|some (some o)=>some _|_=>none)=some _:=e;cases k:as[i]? with
  |none=>rw[k]at e;cases e
  |some s=>
   cases s with
   |none=>rw[k]at e;cases e
   |some o1=>
    rw[k]at e;cases e;obtain⟨hT,hs⟩:=h;subst hT;obtain⟨R',w,hw,rp⟩:=R.frz k;rw[hs]at hw;cases hw;exact⟨_,R',.lf rp,ZY⟩
end
abbrev TF:=AS->Option (Bool×AS)
def Jl(K:zzA)(kd:KD)(f:TF):TT:=λσ H Q=>∃F B ad as b as',Rel K kd F B [] ad as σ H/\f as=some (b,as')/\
 ∀ad' H',Rel K kd F B [] ad' as' σ H'->Grow (Gw [] ad) H (Gw [] ad') H'->Q b H'
@[irreducible] def AT(X:Cx)(kd:KD)(e:Expr)(f:TF):Prop:=PT X e<|Jl X.K kd f
@[irreducible] def AW(X:Cx)(kd:KD)(e:Expr)(f:TF):Prop:=PW X e<|Jl X.K kd f
noncomputable def truth:D->Option Bool
 | .non=>some false
 | .bl b=>some b
 | .int i=>some<|i != 0
 | .str x=>if x.length<=sizeLine then some ((x.length:Int) != 0)else none
 | .tup ds=>some<|!ds.isEmpty
 | .lst ds=>some (!ds.isEmpty)
 |_=>none
def fT(f:EF):TF:=λas=>(f as).bind λp=>(p.1.frz.view p.2).bind λx=>(truth x.1).bind λb=>some (b,p.2)
noncomputable def Bz(f g:TF):TF:=λas=>(f as).bind λp=>if p.1=true then g p.2 else some (false,p.2)
noncomputable def Gv(f g:TF):TF:=λas=>(f as).bind λp=>if p.1=true then some (true,p.2)else g p.2
noncomputable def ZP(f:TF):TF:=λas=>(f as).bind λp=>some (!p.1,p.2)
noncomputable def Dz(c:TF)(f g:EF):EF:=λas=>(c as).bind λp=>if p.1=true then f p.2 else g p.2
noncomputable def BE:D->Option Int
 | .int i=>some i
 |_=>none
noncomputable def i9:D->Option Str
 | .str i=>some i
 |_=>none
noncomputable def uo:D->Option (List D)
 | .lst i=>some i
 |_=>none
noncomputable def lS:D->Option (List D)
 | .tup i=>some i
 |_=>none
def Q7(e:uo d=some i):d = .lst i:=by
 cases d with
 |lst j=>cases e;rfl
 |_=>cases e
def Oe(e:lS d=some i):d = .tup i:=by
 cases d with
 |tup j=>cases e;rfl
 |_=>cases e
def Ol(h:BE d=some c):d = .int c:=by
 cases d with
 |int i=>cases h;rfl
 |_=>cases h
noncomputable def j8:D->Option Bool
 | .bl i=>some i
 |_=>none
def uJ(h:j8 d=some c):d = .bl c:=by
 cases d with
 |bl i=>cases h;rfl
 |_=>cases h
noncomputable def lX:RV->Option D
 | .ow (.lf _ d)=>some d
 |_=>none
def Os(h:lX r=some d):∃st,r = .ow (.lf st d):=by
 cases r with
 |bo i=>cases h
 |ow o=>
  cases o with
  |nd k os=>cases h
  |lf st d=>cases h;exact⟨st,rfl⟩
def ko(r:RV):Option Bool:=(lX r).bind j8
def Og(h:ko r=some c):∃st,r = .ow (.lf st<|.bl c):=by
 obtain⟨d,h1,h⟩:=bS_ h;cases uJ h;exact Os h1
def i_(r:RV):Option Int:=(lX r).bind BE
def uz(h:i_ r=some c):∃st,r = .ow (.lf st<|.int c):=by
 obtain⟨d,h1,h⟩:=bS_ h;cases Ol h;exact Os h1
noncomputable def sH{α:Type}:List α->Option (α×α)
 | [a,b]=>some (a,b)
 |_=>none
def K2{α:Type}{os}{p:α×α}(h:sH os=some p):os=[p.1,p.2]:=by
 cases os with
 |nil=>cases h
 |cons x r=>
  cases r with
  |nil=>cases h
  |cons y r=>
   cases r with
   |nil=>cases h;rfl
   |cons _ _=>cases h
def lg(r:RV):Option (Bool×List D):=match r with
 | .ow (.lf s d)=>(uo d).bind λl=>some (s,l)
 |_=>none
def Ez(h:lg r=some p):r = .ow (.lf p.1<|.lst p.2):=by
 cases r with
 |bo i=>cases h
 |ow o=>
  cases o with
  |nd k os=>cases h
  |lf st d=>
   obtain⟨l,h1,h⟩:=bS_<|h;cases h;cases Q7 h1;rfl
def RP(f g:EF):EF:=λas=>(f as).bind λp=>(ko p.1).bind λc=>if c=true then g p.2 else some (.ow<|.lf true<|.bl false,p.2)
def SV(f:EF):EF:=λas=>(f as).bind λp=>(ko p.1).bind λc=>some (.ow<|.lf true<|.bl<|!c,p.2)
def f1(fa:EF)(g:D->Option R0):EF:=λas=>(fa as).bind λp=>(p.1.frz.view p.2).bind λx=>(g x.1).bind λr=>(wrap x.2 r).bind λz=>some (z,p.2)
section
variable{X:Cx}{kd:KD}{a b c:Expr}{fa fb:EF}{ta tb:TF}{pos:Pos}{es rest:List Expr}
def Ff(h:PT X e t)(k:∀σ H Q,t' σ H Q->t σ H Q):PT X e t':=λpins s σ H Q I q=>h pins s σ H Q I<|k σ H Q q
def OE(h:PW X e t)(k:∀σ H Q,t' σ H Q->t σ H Q):PW X e t':=λw pins s σ H Q I q=>h w pins s σ H Q I<|k σ H Q q
def se{O}(h:Vw X.K kd O H v d)(e:truth d=some k):sD X.K v H k:=by
 cases h with
 |non=>cases e;rfl
 |bl b=>cases e;rfl
 |int i=>cases e;rfl
 |str x=>
  have e:(if x.length<=sizeLine then some _ else none)=some k:=e
  by_cases hl:x.length<=sizeLine
  . rw[if_pos hl]at e;cases e;exact⟨hl,rfl⟩
  . rw[if_neg hl]at e;cases e
 |tup r hs hr=>
  cases e;refine .inr<|.inl ⟨_,hs, ?_⟩;cases hr<;>rfl
 |lst hs hr=>
  cases e;refine .inl ⟨_,hs.sq, ?_⟩;cases hr<;>rfl
 |dct=>cases e
 |cl=>cases e
 |ob=>cases e
def Xe(ha:AE X kd a fa)(he:∀whole,isTrue a X.env whole=(do let v <-whole;standAt a.pos;holding [v] (truthy v))):AT X kd a (fT fa):=by with_unfolding_all exact(Ff (Iu ha he) λσ H Q h=>by
 obtain⟨F,B,ad,as,bb,as',R,e,q⟩:=h;obtain⟨_,h1,e⟩:=bS_<|e;obtain⟨_,h2,e⟩:=bS_ e;obtain⟨k,h3,e⟩:=bS_ e;cases e;exact vU R h1 λv ad1 H1 R1 rv1 g1=>⟨_,se (xy.vw R1 rv1 h2) h3,q ad1 H1 R1 g1⟩)
def O1(ho:t_ X kd (compareOp op) g)(hg:∀x y r,g x y=some r->∃k,r = .im (.bl k))(ha:AE X kd a fa)(hb:AE X kd b fb)(hm:behindInMarks op b=false):
 AT X kd (.Compare a [op] [b] pos) (fT<|f2 fa fb g):=by with_unfolding_all exact(Ff (Dm ho ha hb hm) λσ H Q h=>by
 obtain⟨F,B,ad,as,bb,as',R,e,q⟩:=h;obtain⟨⟨p,as1⟩,h1,e⟩:=bS_<|e;obtain⟨_,h2,e⟩:=bS_ e;obtain⟨k,h3,e⟩:=bS_ e;cases e;obtain⟨_,_,_,x,y,_,_,r0,_,_,_,_,hp,hw⟩:=Bp h1;obtain⟨k',rfl⟩:=hg _ _ _ hp;cases hw;cases h2;cases h3;refine lh (λ_ _ _ _ z=>z) ⟨F,B,ad,as,_,_,R,h1,λv T' ad' H' R' rv g'=>?_⟩;cases rv with
 |lf rp=>
  cases rp;exact⟨_,rfl,q ad' H' R' g'⟩)
def Wv(ha:AT X kd a ta):AT X kd (.UnaryOp .Not a pos) (ZP ta):=by with_unfolding_all exact(Ff (sV ha) λσ H Q h=>by
 obtain⟨F,B,ad,as,bb,as',R,e,q⟩:=h;obtain⟨⟨p,as1⟩,h1,e⟩:=bS_<|e;cases e;exact⟨F,B,ad,as,p,_,R,h1,λad' H' R' g=>q ad' H' R' g⟩)
def ER(ha:AT X kd a ta):AW X kd (.BoolOp .And [a] pos) ta:=by with_unfolding_all exact(Ai ha)
def WV(ha:AT X kd a ta):AW X kd (.BoolOp .Or [a] pos) ta:=by with_unfolding_all exact(si ha)
def sJ(ha:AT X kd a ta)(hb:AW X kd (.BoolOp .And (b::rest) pos) tb):AW X kd (.BoolOp .And (a::b::rest) pos) (Bz ta tb):=by with_unfolding_all exact(OE (rj ha hb) λσ H Q h=>by
 obtain⟨F,B,ad,as,bb,as',R,e,q⟩:=h;obtain⟨⟨p,as1⟩,h1,e⟩:=bS_<|e;refine⟨F,B,ad,as,p,as1,R,h1,λad' H' R' g=>?_⟩;cases p with
 |true=>exact⟨F,B,ad',as1,bb,as',R',e,λad2 H2 R2 g2=>q ad2 H2 R2<|g.trans g2⟩
 |false=>cases e;exact q ad' H' R' g)
def NR(ha:AT X kd a ta)(hb:AW X kd (.BoolOp .Or (b::rest) pos) tb):AW X kd (.BoolOp .Or (a::b::rest) pos) (Gv ta tb):=by with_unfolding_all exact(OE (oP ha hb) λσ H Q h=>by
 obtain⟨F,B,ad,as,bb,as',R,e,q⟩:=h;obtain⟨⟨p,as1⟩,h1,e⟩:=bS_<|e;refine⟨F,B,ad,as,p,as1,R,h1,λad' H' R' g=>?_⟩;cases p with
 |false=>exact⟨F,B,ad',as1,bb,as',R',e,λad2 H2 R2 g2=>q ad2 H2 R2<|g.trans g2⟩
 |true=>cases e;exact q ad' H' R' g)
def AW.at_(h:AW X kd e ta):AT X kd e ta:=by with_unfolding_all exact(PW.pt h)
def CB(hc:AT X kd c ta)(ha:AE X kd a fa)(hb:AE X kd b fb):AE X kd (.IfExp c a b pos) (Dz ta fa fb):=by with_unfolding_all exact(yn (O0 hc ha hb) λσ H Q h=>by
 obtain⟨F,B,ad,as,r,as',R,e,q⟩:=h;obtain⟨⟨p,as1⟩,h1,e⟩:=bS_<|e;refine⟨F,B,ad,as,p,as1,R,h1,λad' H' R' g=>?_⟩;cases p with
 |true=>exact⟨F,B,ad',as1,r,as',R',e,λv T2 ad2 H2 R2 rv g2=>q v T2 ad2 H2 R2 rv<|g.trans g2⟩
 |false=>exact⟨F,B,ad',as1,r,as',R',e,λv T2 ad2 H2 R2 rv g2=>q v T2 ad2 H2 R2 rv<|g.trans g2⟩)
def DW{K ad st c}(h:xy K kd F B T ad σ H v (.ow<|.lf st<|.bl c)):T=[]/\v = .bl c:=by
 cases h with
 |lf rp=>cases rp;exact ⋯
def Oh(ha:AE X kd a fa):AE X kd (.BoolOp op [a] pos) fa:=by with_unfolding_all exact ⋯
def OA(ha:AE X kd a fa)(hb:AE X kd (.BoolOp .And (b::rest) pos) fb):AE X kd (.BoolOp .And (a::b::rest) pos) (RP fa fb):=by with_unfolding_all exact(yn (tL ha hb) λσ H Q h=>by
 obtain⟨F,B,ad,as,r,as',R,e,q⟩:=h;obtain⟨⟨p,as1⟩,h1,e⟩:=bS_<|e;refine⟨F,B,ad,as,p,as1,R,h1,λv T' ad' H' R' rv g=>?_⟩;obtain⟨k,e1,e⟩:=bS_ e;obtain⟨st,rfl⟩:=Og e1;obtain⟨rfl,rfl⟩:=DW rv;cases k with
 |true=>exact⟨true,rfl,⟨F,B,ad',as1,r,as',R',e,λv T2 ad2 H2 R2 rv g2=>q v T2 ad2 H2 R2 rv<|g.trans g2⟩⟩
 |false=>
  cases e;exact⟨false,rfl,q _ [] ad' H' R' (.lf<|.bl false) g⟩)
def tY(ha:AE X kd a fa):AE X kd (.UnaryOp .Not a pos) (SV fa):=by with_unfolding_all exact(yn (sM ha) λσ H Q h=>by
 obtain⟨F,B,ad,as,r,as',R,e,q⟩:=h;obtain⟨⟨p,as1⟩,h1,e⟩:=bS_<|e;refine⟨F,B,ad,as,p,as1,R,h1,λv T' ad' H' R' rv g=>?_⟩;obtain⟨k,e1,e⟩:=bS_ e;obtain⟨st,rfl⟩:=Og e1;obtain⟨rfl,rfl⟩:=DW rv;cases e;exact⟨k,rfl,q _ [] ad' H' R' (.lf<|.bl _) g⟩)
def FQ(ho:iR X kd (unaryOp op) g)(ha:AE X kd a fa):AE X kd (.UnaryOp op a pos) (f1 fa g):=by with_unfolding_all exact(yn (qr ho ha) λσ H Q h=>by
 obtain⟨F,B,ad,as,r,as',R,e,q⟩:=h;obtain⟨_,h1,e⟩:=bS_<|e;obtain⟨⟨x,lv⟩,h2,e⟩:=bS_ e;obtain⟨z,h3,e⟩:=bS_ e;obtain⟨y,h4,e⟩:=bS_ e;cases e;refine vU R h1 λv ad1 H1 R1 rv1 g1=>⟨_,x,z,R1.tr _,xy.vw R1 rv1 h2,h3,ZS R1 h4 λw T' H' R' rv' g'=>q w T' ad1 H' R' rv'<|g1.trans g'⟩)
end
abbrev AF:=AS->Option (List RV×AS)
inductive RVs(K:zzA)(kd:KD)(F B:Addr->Prop)(ad:Ad)(σ:St)(H:Hp):List V->List RV->Prop
 |nil:RVs K kd F B ad σ H [] []
 |cons {v:V}{r:RV}{vs:List V}{rs:List RV}:xy K kd F B [] ad σ H v r->RVs K kd F B ad σ H vs rs->RVs K kd F B ad σ H (v::vs) (r::rs)
def De(K:zzA)(kd:KD)(f:AF):TA:=λσ H Q=>∃F B ad as rs as',Rel K kd F B [] ad as σ H/\f as=some (rs,as')/\
 ∀vs ad' H',Rel K kd F B [] ad' as' σ H'->RVs K kd F B ad' σ H' vs rs->Grow (Gw [] ad) H (Gw [] ad') H'->Q vs H'
@[irreducible] def AA(X:Cx)(kd:KD)(es:List Expr)(f:AF):Prop:=PA X es<|De X.K kd f
noncomputable def aN:AF:=λas=>some ([],as)
noncomputable def aC(fa:EF)(fr:AF):AF:=λas=>(fa as).bind λp=>(fr p.2).bind λq=>some (p.1.frz::q.1,q.2)
def K_(h:PA X e t)(k:∀σ H Q,t' σ H Q->t σ H Q):PA X e t':=λpos pins s σ H Q I q=>h pos pins s σ H Q I<|k σ H Q q
abbrev DF:=AS->Option (List O×AS)
def i0(K:zzA)(kd:KD)(f:DF):TA:=λσ H Q=>∃F B ad as os as',Rel K kd F B [] ad as σ H/\f as=some (os,as')/\
 ∀vs T' ad' H',Rel K kd F B T' ad' as' σ H'->v_ K kd F B (Gw T' ad') H' vs os T'->Grow (Gw [] ad) H (Gw T' ad') H'->Q vs H'
@[irreducible] def AD(X:Cx)(kd:KD)(es:List Expr)(f:DF):Prop:=PA X es<|i0 X.K kd f
noncomputable def dN:DF:=λas=>some ([],as)
def dC(fa:EF)(fr:DF):DF:=λas=>(fa as).bind λp=>(JT p.2 p.1).bind λx=>(fr x.2).bind λq=>some (x.1::q.1,q.2)
def views(as:AS):List RV->Option (List D×Option Bool)
 | []=>some ([],some true)
 |r::rs=>(r.view as).bind λx=>(views as rs).bind λy=>some (x.1::y.1,meet x.2 y.2)
def fP(fr:AF)(g:List D->Option R0):EF:=λas=>(fr as).bind λp=>(views p.2 p.1).bind λx=>(g x.1).bind λr=>(wrap x.2 r).bind λz=>some (z,p.2)
def qN(as:AS):RV->Option (Bool×D)
 | .ow o=>some (zC o.toD||o.str,o.toD)
 | .bo i=>match as[i]? with
  |some (some o)=>some (false,o.toD)
  |_=>none
def Yz(as:AS):List RV->Option (List<|Bool×D)
 | []=>some []
 |r::rs=>(qN as r).bind λx=>(Yz as rs).bind λy=>some (x::y)
def zg(fr:AF)(g:List (Bool×D)->Option O):EF:=λas=>(fr as).bind λp=>(Yz p.2 p.1).bind λx=>(g x).bind λo=>some (.ow o,p.2)
def jq(K:zzA)(kd:KD)(F:Addr->Prop)(H:Hp)(Q:VK)(o:O):Prop:=
 ∀v T H',T.Nodup->(∀a ∈ T,H a=none)->(∀b u,H b=some u->H' b=some u)->(∀a ∈ T,H' a≠none)->Ro (λ_ v d=>Rp K kd (WM F (· ∈ T)) H' v d) (λa=>¬WM F (· ∈ T) a) H' v o T->Q v H'
inductive RpA(K:zzA)(kd:KD)(F:Addr->Prop)(H:Hp):List V->List (Bool×D)->Prop
 |nil:RpA K kd F H [] []
 |cons {v:V}{st:Bool}{d:D}{vs:List V}{ds:List (Bool×D)}:Rp K kd (λa=>st=true/\F a) H v d->RpA K kd F H vs ds->RpA K kd F H (v::vs) ((st,d)::ds)
def V4(K:zzA)(kd:KD)(g:List (Bool×D)->Option O):Sp:=λvs H Q _=>∃F ds o,(∀a,F a->H a≠none)/\RpA K kd F H vs ds/\g ds=some o/\jq K kd F H Q o
def XO(os:List O):O:=if os.all O.isLf=true then .lf (O.strs os) (.tup<|O.toDs os)else .nd .tp os
def yd(fr:DF):EF:=λas=>(fr as).bind λp=>if p.1.length<=sizeLine then some (.ow<|XO p.1,p.2)else none
noncomputable def zZ(fr:DF):EF:=λas=>(fr as).bind λp=>if p.1.length<=sizeLine then some (.ow<|.nd .ls p.1,p.2)else none
section
variable{X:Cx}{kd:KD}{a b c:Expr}{fa fb:EF}{ta tb:TF}{pos:Pos}{es rest:List Expr}{fr:AF}{fd:DF}
theorem RpA.length{K}(h:RpA K kd F H vs ds):vs.length=ds.length:=by
 induction h with
 |nil=>rfl
 |cons _ _ ih=>exact congrArg _ ih
def zj:AA X kd [] aN:=by with_unfolding_all exact(K_ Uo λσ H Q h=>by
 obtain⟨F,B,ad,as,rs,as',R,e,q⟩:=h;cases e;exact q [] ad H R .nil Grow.refl)
def Ak(ha:AE X kd a fa)(hr:AA X kd es fr)(hs:starEach (a::es) X.env=(false,eval a X.env)::starEach es X.env):AA X kd (a::es) (aC fa fr):=by with_unfolding_all exact(K_ (Xb ha hr hs) λσ H Q h=>by
 obtain⟨F,B,ad,as,rs,as',R,e,q⟩:=h;obtain⟨⟨p,as1⟩,h1,e⟩:=bS_<|e;obtain⟨⟨z,as2⟩,h2,e⟩:=bS_ e;cases e;refine vU R h1 λv ad1 H1 R1 rv1 g1=>⟨F,B,ad1,as1,z,_,R1,h2,λvs ad2 H2 R2 rv2 g2=>?_⟩;exact q _ ad2 H2 R2 (.cons (rv1.grow g2) rv2)<|g1.trans g2)
def yI:AD X kd [] dN:=by with_unfolding_all exact(K_ Uo λσ H Q h=>by
 obtain⟨F,B,ad,as,rs,as',R,e,q⟩:=h;cases e;exact q [] [] ad H R .nil Grow.refl)
def Jw(ha:AE X kd a fa)(hr:AD X kd es fd)(hs:starEach (a::es) X.env=(false,eval a X.env)::starEach es X.env):AD X kd (a::es) (dC fa fd):=by with_unfolding_all exact(K_ (Xb ha hr hs) λσ H Q h=>by
 obtain⟨F,B,ad,as,rs,as',R,e,q⟩:=h;obtain⟨⟨p,as1⟩,h1,e⟩:=bS_<|e;obtain⟨⟨o,as2⟩,h2,e⟩:=bS_ e;obtain⟨⟨os,as3⟩,h3,e⟩:=bS_ e;cases e;refine⟨F,B,ad,as,p,as1,R,h1,λv T1 ad1 H1 R1 rv1 g1=>?_⟩;obtain⟨ad2,R2,ro2,le2⟩:=Gb R1 rv1 h2;refine⟨F,_,ad2,as2,os,_,R2.hide,h3,λvs T3 ad3 H3 R3 ro3 g3=>?_⟩;have kT:=λa m u e=>g3.keep a u e λz=>z.elim ⋯ λ⟨i,y⟩=>R2.dis i a y m;have r1:=vM.lv Q6<|vM.grow g3 kT<|vM.lv FP ro2;have r3:=v_.lv Q6 ro3;refine q _ _ ad3 H3 (R3.unhide R2.tnd λa m z=>(R2.btr a z).2.2<|.inl m) (.cons r1 r3)<|(g1.trans<|Grow.less le2).trans ⟨λb u e n=>g3.keep b u e λz=>n<|Gw.drop b z,λb z=>?_⟩
 rcases z with z|z
 . rcases zzM.mp z with z|z
   . exact .inl<|.inl z
   . exact(g3.own b<|.inl z).elim (λy=>.inl<|Gw.drop b y) .inr
 . exact(g3.own b<|.inr z).elim (λy=>.inl<|Gw.drop b y) .inr)
def vW(h:AD X kd es fd):AE X kd (.Tuple es x1 pos) (yd fd):=by with_unfolding_all exact(yn (uY h) λσ H Q h=>by
 obtain⟨F,B,ad,as,r,as',R,e,q⟩:=h;obtain⟨⟨os,as1⟩,h1,e⟩:=bS_<|e;obtain⟨hz,e⟩:=zu e;cases e;refine⟨F,B,ad,as,os,_,R,h1,λvs T1 ad1 H1 R1 ro1 g1=>⟨by rw[ro1.length];exact hz,λp hp=>?_⟩⟩;have k:∀b o,H1 b=some o->upd H1 p (.tup vs) b=some o:=λb o hb=>by rwa [zK<|z9 hb hp]
 obtain⟨R2,g2⟩:=R1.more k;have ro2:=v_.grow g2 (λa _ u h=>k a u h) ro1;have np:=λst z=>R1.trk st p z hp;refine q _ T1 ad1 _ R2 ?_<|g1.trans g2;unfold XO
 by_cases hl:os.all O.isLf=true
 . rw[if_pos hl];have:=Hy ro2 hl;subst this;exact .lf<|.tup (np _) (.inl ya)<|Uq ro2 hl
 . rw[if_neg hl];exact .tp (np _) ya ro2)
def X9(h:AD X kd es fd):AE X kd (.List es pos) (zZ fd):=by with_unfolding_all exact(yn (rD h) λσ H Q h=>by
 obtain⟨F,B,ad,as,r,as',R,e,q⟩:=h;obtain⟨⟨os,as1⟩,h1,e⟩:=bS_<|e;obtain⟨hz,e⟩:=zu e;cases e;refine⟨F,B,ad,as,os,_,R,h1,λvs T1 ad1 H1 R1 ro1 g1=>⟨by rw[ro1.length];exact hz,λp hp=>?_⟩⟩;have k:∀b o,H1 b=some o->upd H1 p (.lst vs) b=some o:=λb o hb=>by rwa [zK<|z9 hb hp]
 obtain⟨R2,g2⟩:=R1.add (N:=[p]) ⋯ (λa m=>by rwa [zzR.mp m]) k (λa m=>by rw[zzR.mp m,ya];simp);exact q _ _ ad1 _ R2 (.ls ya<|v_.grow g2 (λa _ u h=>k a u h) ro1)<|g1.trans g2)
theorem VwL.less{K O O'}(g:∀a,O' a->O a)(h:VwL K kd O H vs ds):VwL K kd O' H vs ds:=by
 induction h with
 |nil=>exact .nil
 |cons h _ ih=>exact .cons (h.less g) ih
def Y_{K ad}(R:Rel K kd F B [] ad as σ H)(h:RVs K kd F B ad σ H vs rs)(e:views as rs=some (ds,lv)):VwL K kd (UO F B (Gw [] ad) lv) H vs ds:=by
 induction h generalizing ds lv with
 |nil=>cases e;exact .nil
 |cons h t ih=>
  obtain⟨_,h1,e⟩:=bS_<|e;obtain⟨_,h2,e⟩:=bS_ e;cases e;exact .cons ((xy.vw R h h1).less UO.meet1)<|(ih h2).less UO.meet2
def iN{R':List V->Hp->VK->Prop}(hr:∀vs H Q,(∃O ds r,(∀a,O a->H a≠none)/\VwL X.K kd O H vs ds/\g ds=some r/\RQ X.K kd O H Q r)->R' vs H Q)
 (h:al X.K kd (fP fr g) σ H Q):De X.K kd fr σ H λvs H1=>R' vs H1 Q:=by
 obtain⟨F,B,ad,as,r,as',R,e,q⟩:=h;obtain⟨⟨p,as1⟩,h1,e⟩:=bS_<|e;obtain⟨⟨ds,lv⟩,h2,e⟩:=bS_ e;obtain⟨z,h3,e⟩:=bS_ e;obtain⟨y,h4,e⟩:=bS_ e;cases e;exact⟨F,B,ad,as,p,_,R,h1,λvs ad1 H1 R1 rv1 g1=>hr _ _ _ ⟨_,ds,z,R1.tr _,Y_ R1 rv1 h2,h3,ZS R1 h4 λw T' H' R' rv' g'=>q w T' ad1 H' R' rv'<|g1.trans g'⟩⟩
def Ph{K ad}(R:Rel K kd F B [] ad as σ H)(h:RVs K kd F B ad σ H vs rs)(e:Yz as rs=some ds):RpA K kd (Lv F B (Gw [] ad) true) H vs ds:=by
 induction h generalizing ds with
 |nil=>cases e;exact .nil
 |cons h t ih=>
  rename_i v r vs rs;obtain⟨_,h1,e⟩:=bS_<|e;obtain⟨ds,h2,e⟩:=bS_ e;cases e;refine .cons ?_<|ih h2;cases r with
  |ow o=>
   cases h1;cases hf:zC o.toD with
   |true=>exact(Ud h).flat hf
   |false=>
    refine(Uc h).less λa z=>?_;have zs:o.str=true:=z.1;rw[zs];exact z.2
  |bo i=>
   have e:(match as[i]? with|some (some o)=>some _|_=>none)=some _:=h1;cases k:as[i]? with
   |none=>rw[k]at e;cases e
   |some s=>
    cases s with
    |none=>rw[k]at e;cases e
    |some o=>
     rw[k]at e;cases e;obtain⟨w,hw,ro⟩:=R.sl i _ k;rw[h.2]at hw;cases hw;exact(Ud ro).less λa z=>nomatch z.1
def EU{K ad}(R:Rel K kd F B [] ad as σ H)(q:∀v T' H',Rel K kd F B T' ad as σ H'->xy K kd F B T' ad σ H' v (.ow o)->Grow (Gw [] ad) H (Gw T' ad) H'->Q v H'):
 jq K kd (Lv F B (Gw [] ad) true) H Q o:=λv T H' hn hl k h1 ro=>by
 obtain⟨R',g⟩:=R.news hn hl k h1;have le:∀st a,Lv F B (Gw T ad) st a->WM (Lv F B (Gw [] ad) true) _ a:=λst a z=>by
  rcases z with(z|z)|z|z
  . exact .inl<|.inl<|.inl ⟨rfl,z.2⟩
  . exact .inl<|.inl<|.inr z
  . exact .inr z
  . exact .inl<|.inr<|.inr z
 exact q v T H' R' (Ro.mono (λst v d r=>r.less<|le st) (λa vs n e=>⟨λz=>n<|le true a z,e⟩) (λ_ _ _ e=>e) ro) g
def uh(h:al X.K kd (zg fr g) σ H Q):CS (V4 X.K kd g) [] E (De X.K kd fr) σ H Q:=by
 obtain⟨F,B,ad,as,r,as',R,e,q⟩:=h;obtain⟨⟨p,as1⟩,h1,e⟩:=bS_<|e;obtain⟨ds,h2,e⟩:=bS_ e;obtain⟨o,h3,e⟩:=bS_ e;cases e;refine⟨F,B,ad,as,p,_,R,h1,λvs ad1 H1 R1 rv1 g1=>?_⟩;show V4 X.K kd g _ H1 Q E;rw[zyE];exact⟨_,ds,o,R1.trk true,Ph R1 rv1 h2,h3,EU R1 λw T' H' R' rv' g'=>q w T' ad1 H' R' rv'<|g1.trans g'⟩
end
inductive Out where
 |nx (as:AS)|rt (o:O)|bk (as:AS)|ct (as:AS)
abbrev SF:=AS->Option Out
structure RetOk(K:zzA)(kd:KD)(F:Addr->Prop)(T:List Addr)(H:Hp)(v:V)(o:O):Prop where
 nd:T.Nodup
 tr:∀a ∈ T,H a≠none
 ro:Ro (λ_ v d=>Rp K kd (WM F (· ∈ T)) H v d) (λa=>¬WM F (· ∈ T) a) H v o T
def Bv(K:zzA)(kd:KD)(F B:Addr->Prop)(ad:Ad)(H:Hp)(D:Ends):Out->Prop
 | .nx as'=>∀σ' ad' H',Rel K kd F B [] ad' as' σ' H'->Grow (Gw [] ad) H (Gw [] ad') H'->D.nx σ' H'
 | .bk as'=>∀σ' ad' H',Rel K kd F B [] ad' as' σ' H'->Grow (Gw [] ad) H (Gw [] ad') H'->D.bk σ' H'
 | .ct as'=>∀σ' ad' H',Rel K kd F B [] ad' as' σ' H'->Grow (Gw [] ad) H (Gw [] ad') H'->D.ct σ' H'
 | .rt o=>∀v T H',RetOk K kd F T H' v o->Grow (Gw [] ad) H (· ∈ T) H'->D.rt v H'
def be(K:zzA)(kd:KD)(f:SF):TS:=λD σ H=>∃F B ad as o,Rel K kd F B [] ad as σ H/\f as=some o/\Bv K kd F B ad H D o
@[irreducible] def Fk(X:Cx)(kd:KD)(st:Stmt)(f:SF):Prop:=PS X st<|be X.K kd f
@[irreducible] def FW(X:Cx)(kd:KD)(st:List Stmt)(f:SF):Prop:=NH X st<|be X.K kd f
def wX(h:PS X e t)(k:∀D σ H,t' D σ H->t D σ H):PS X e t':=λa s σ H D I q=>h a s σ H D I<|k D σ H q
def Xr(h:NH X e t)(k:∀D σ H,t' D σ H->t D σ H):NH X e t':=λa s σ H D I q=>h a s σ H D I<|k D σ H q
def Bv.pre{K ad ad1 D}(g:Grow (Gw [] ad) H (Gw [] ad1) H1)(h:Bv K kd F B ad H D o):Bv K kd F B ad1 H1 D o:=by
 cases o with
 |nx as=>exact λσ' ad' H' R g'=>h σ' ad' H' R (g.trans g')
 |bk as=>exact λσ' ad' H' R g'=>h σ' ad' H' R (g.trans g')
 |ct as=>exact λσ' ad' H' R g'=>h σ' ad' H' R (g.trans g')
 |rt r=>exact λv T H' R g'=>h v T H' R<|g.trans g'
noncomputable def xj:SF:=λas=>some<|.nx as
noncomputable def zi(f g:SF):SF:=λas=>(f as).bind λo=>match o with | .nx as'=>g as'|o=>some o
noncomputable def xl(c:TF)(f g:SF):SF:=λas=>(c as).bind λp=>if p.1=true then f p.2 else g p.2
noncomputable def zW(f:EF):SF:=λas=>(f as).bind λp=>some<|.nx p.2
noncomputable def Cj(as:AS):RV->Option O
 | .ow o=>if o.str=true then some o else none
 | .bo i=>match as[i]? with
  |some (some o)=>if o.str=true then some o else none
  |_=>none
def zx(f:EF):SF:=λas=>(f as).bind λp=>(Cj p.2 p.1).bind λo=>some<|.rt o
def zr(z:Bool)(i:Nat)(f:EF):SF:=λas=>(f as).bind λp=>(JT p.2 (if z=true then p.1.frz else p.1)).bind λx=>if i<x.2.length then some (.nx<|x.2.set i<|some x.1)else none
def Ro.strong(h:Ro L N H v o fp)(e:o.str=true):Ro (λst v d=>st=true/\L st v d) N H v o fp:=
 Ro.rec (motive_2:=λvs os fp _=>O.strs os=true->RoL _ N H vs os fp)
  (λh e=>.lf ⟨e,h⟩) (λh _ r e=>.ls h<|r e) (λh l _ r e=>.dc h l<|r e) (λc h l _ r e=>.ob ⟨rfl,c⟩ h l<|r e) (λn h _ r e=>.tp n h<|r e) (λ_=>.nil) (λ_ _ h r e=>.cons (h ((zyC _ _).mp e).1)<|r ((zyC _ _).mp e).2) h e
section
variable{K:zzA}{kd:KD}{F B:Addr->Prop}{T:List Addr}{ad ad1:Ad}{as as1:AS}{σ:St}{H H1:Hp}{v:V}{r:RV}{o:O}
def Ly(R:Rel K kd F B T ad as σ H)(hn:T'.Nodup)(hs:∀a ∈ T',Gw T ad a)(h:vM K kd F B (Gw T ad) H v o T')(e:o.str=true):RetOk K kd F T' H v o:=by
 have b:∀a,WM F _ a->Lv F B _ true a:=λa z=>z.elim (λy=>.inl<|.inl ⟨rfl,y⟩) λy=>.inr<|hs a y;exact⟨hn,λa m=>(R.gtr a<|hs a m).1,Ro.mono (λc v d r=>by obtain⟨rfl,r⟩:=r;exact r.less b) (λa f n e=>⟨λz=>n<|b a z,e⟩) (λ_ _ _ e=>e)<|Ro.strong h e⟩
def Rel.ret(R:Rel K kd F B T ad as σ H)(hr:xy K kd F B T ad σ H v r)(e:Cj as r=some o):∃T',RetOk K kd F T' H v o/\∀b ∈ T',Gw T ad b:=by
 cases r with
 |ow g=>
  obtain⟨c,rfl⟩:=zu e;exact⟨T,Ly R R.tnd (λa m=>.inl m) hr c,λa m=>.inl m⟩
 |bo i=>
  have e:(match as[i]? with|some (some o)=>if o.str=true then some o else none|_=>none)=some o:=e;cases k:as[i]? with
  |none=>rw[k]at e;cases e
  |some s=>
   cases s with
   |none=>rw[k]at e;cases e
   |some h=>
    rw[k]at e;obtain⟨c,rfl⟩:=zu e;obtain⟨w,d,f⟩:=R.sl i _ k;rw[hr.2]at d;cases d;exact⟨ad i,Ly R (R.nd i) (λa m=>.inr ⟨i,m⟩) f c,λa m=>.inr ⟨i,m⟩⟩
end
section
variable{X:Cx}{kd:KD}{st:Stmt}{sts rest:List Stmt}{a b c e:Expr}{fa fb:EF}{ta:TF}{pos:Pos}{f g:SF}
def yF:FW X kd [] xj:=by with_unfolding_all exact(Xr Br λD σ H h=>by
 obtain⟨F,B,a,as,o,R,e,q⟩:=h;cases e;exact q σ a H R Grow.refl)
def yh(h1:Fk X kd st f)(h2:FW X kd rest g):FW X kd (st::rest) (zi f g):=by with_unfolding_all exact(Xr (V9 h1 h2) λD σ H h=>by
 obtain⟨F,B,ad,as,o,R,e,q⟩:=h;obtain⟨o1,e1,e⟩:=bS_<|e;refine⟨F,B,ad,as,o1,R,e1, ?_⟩;cases o1 with
 |nx as1=>exact λσ' ad' H' R' g'=>⟨F,B,ad',as1,o,R',e,q.pre g'⟩
 |bk as1=>cases e;exact q
 |ct as1=>cases e;exact q
 |rt r=>cases e;exact q)
def ye(h1:Fk X kd st f):FW X kd [st] f:=by with_unfolding_all exact(Pb h1)
noncomputable def IE:SF:=λ_=>none
def mM:Fk X kd st IE:=by with_unfolding_all exact(λa s σ H D I h=>by obtain⟨F,B,b,as,o,R,e,q⟩:=h;cases e)
def vF(hc:AT X kd c ta)(ha:FW X kd sts f)(hb:FW X kd rest g):Fk X kd (.If c sts rest pos) (xl ta f g):=by with_unfolding_all exact(wX (D2 hc ha hb) λD σ H h=>by
 obtain⟨F,B,i,as,o,R,e,q⟩:=h;obtain⟨⟨p,a⟩,j,e⟩:=bS_<|e;refine⟨F,B,i,as,p,a,R,j,λb k d g=>?_⟩;cases p with
 |true=>exact⟨F,B,b,a,o,d,e,q.pre g⟩
 |false=>exact⟨F,B,b,a,o,d,e,q.pre g⟩)
def Ny(he:AE X kd e fa)(hs:swapsWith e none pos.line X.env=pure false):Fk X kd (.Expr e pos) (zW fa):=by with_unfolding_all exact(wX (RU he hs) λD σ H h=>by
 obtain⟨F,B,c,as,o,R,e,q⟩:=h;obtain⟨⟨p,a⟩,d,e⟩:=bS_<|e;cases e;exact⟨F,B,c,as,p,a,R,d,λv j b f i k g=>q σ b f i.drop<|g.trans<|Grow.less Gw.drop⟩)
def yD(he:AE X kd e fa):Fk X kd (.Return (some e) pos) (zx fa):=by with_unfolding_all exact(wX (Ov he) λD σ H h=>by
 obtain⟨F,B,b,as,o,R,e,q⟩:=h;obtain⟨⟨p,a⟩,c,e⟩:=bS_<|e;obtain⟨r,d,e⟩:=bS_ e;cases e;refine⟨F,B,b,as,p,a,R,c,λv s f i j k g=>?_⟩;obtain⟨l,m,n⟩:=j.ret k d;exact q v l i m<|g.trans<|Grow.less n)
def EN{K ad}{i:Nat}(R:Rel K kd F B T ad as σ H)(rv:xy K kd F B T ad σ H v r)
 (h2:JT as (if z=true then r.frz else r)=some (o,as2)) (hl:i<as2.length):∃ad',Rel K kd F B [] ad' (as2.set i<|some o) (σ.set i<|some v) H/\∀a,Gw [] ad' a->Gw T ad a:=by
 cases z with
 |true=>
  obtain⟨b,c,d,e⟩:=Gb R.drop (xy.drop R rv) h2;exact⟨_,c.put hl d,λa y=>Gw.drop a<|e a<|Xp a y⟩
 |false=>
  obtain⟨b,c,d,e⟩:=Gb R rv h2;exact⟨_,c.put hl d,λa y=>e a<|Xp a y⟩
def CM(hN:X.N.Nodup)(hi:X.N[i]? = some x)(hx:Loc X.env.scope x)(he:AE X kd e fa)(hs:swapsWith e (some<|.Name x pos') pos.line X.env=pure false)(hf:X.fn x=true\/X.env.scope.names.lookup x=some .local):
 Fk X kd (.Assign [.Name x pos'] e pos) (zr z i fa):=by with_unfolding_all exact(wX (OX hN hi hx he hs hf) λD σ H h=>by
 obtain⟨F,B,c,as,o,R,e,q⟩:=h;obtain⟨⟨p,a⟩,d,e⟩:=bS_<|e;obtain⟨_,j,e⟩:=bS_ e;obtain⟨k,e⟩:=zu e;cases e;refine⟨F,B,c,as,p,a,R,d,λv t l m n r g=>?_⟩;obtain⟨b,R2,s⟩:=EN n r j k;exact q _ b m R2<|g.trans<|Grow.less s)
end
noncomputable def Zj(n:Nat)(ds:List (Bool×D)):AS:=ds.map (λx=>some<|.lf x.1 x.2)++List.replicate (n-ds.length) none
noncomputable def jm:Out->Option O
 | .nx _=>some<|.lf true .non
 | .rt o=>some o
 |_=>none
def wz(n m:Nat)(f:SF)(ds:List (Bool×D)):Option O:=if ds.length=m then(f<|Zj n ds).bind jm else none
theorem RpA.get{K}:∀{vs:List V}{ds:List (Bool×D)}{i:Nat}{x:Bool×D},RpA K kd F H vs ds->ds[i]? = some x->∃v,vs[i]? = some v/\Rp K kd (λa=>x.1=true/\F a) H v x.2
 |_,_,_,_,.nil,e=>by simp at e
 |_,_,0,_,.cons h _,e=>by simp at e;subst e;exact⟨_,rfl,h⟩
 |_,_,i+1,_,.cons _ r,e=>by
  obtain⟨v,b,c⟩:=RpA.get r ⋯;exact⟨v,⋯,c⟩
def B0{K}(ht:∀a,F a->H a≠none)(rp:RpA K kd F H vs ds):
 Rel K kd F (λ_=>False) [] (λ_=>[]) (Zj N.length ds) (L2.start N vs) H:=by
 have c:=rp.length;have f:∀a,¬Gw [] (λ_=>[]) a:=λa z=>z.elim ⋯ λ⟨_,y⟩=>nomatch y;refine⟨by unfold Zj L2.start;simp[c],λ_ _=>rfl,λ_=>zyJ,(λ_ _ _ z=>nomatch z),zyJ,(λ_ _ _ z=>nomatch z),ht,⋯,λa z=>(f a z).elim,λi s e=>?_⟩;unfold Zj at e;unfold L2.start
 by_cases g:i<ds.length
 . rw[zyP (by rwa [zzB]),zzI]at e;obtain⟨d,h,b⟩:=zzX.mp e;subst b;obtain⟨v,j,k⟩:=rp.get h;rw[zyP (by rwa [zzB,c]),zzI,j];refine⟨v,rfl,.lf<|k.less λa z=>?_⟩
   rcases z with(z|z)|z
   . exact z
   . exact z.elim
   . exact(f a z).elim
 . rw[zyR<|by rw[zzB];exact q0G g]at e;have:=zyA e;have b:=(List.mem_replicate.mp this).2;subst b;rfl
section
variable{P:Program}{w:World}{K:zzA}{mg:Str->Option Value}{base:Heap}
def HV(q:jq K kd F H Q o)(ro:RetOk K kd F T H' v o)(g:Grow (Gw [] λ_=>[]) H (· ∈ T) H'):Q v H':=by
 have c:∀a,¬Gw [] (λ_=>[]) a:=λa z=>z.elim ⋯ λ⟨_,y⟩=>nomatch y;exact q v T H' ro.nd (λa m=>(g.own a m).resolve_left<|c a) (λb u h=>g.keep b u h<|c b) ro.tr ro.ro
def O8{st}{k:Nat}(Fn:Fun K x qual st f fd)(S:FnScope N ps (zO st))
 (hb:∀(cdv:Value) (A:Around) (outer:List Env) (s:Shared) (H:Hp) (E:XK),Room k (A.deeper<|envOfC qual (zO st) s.heap.objs.size f cdv)->FW (Rb XQ P w K mg base N qual (zO st) f cdv A outer s H E).nox kd (Ze st) c):
 FnOk P w K mg base XQ (k+1) f fd ps (V4 K kd<|wz N.length ps.length c):=by
 with_unfolding_all (
 refine Fn.ok S (λvs H Q E h=>?_) λcdv A outer s H vs Q E hr h=>⟨_,hb cdv A outer s H E hr, ?_⟩
 . obtain⟨F,ds,r,_,rp,e,_⟩:=h;unfold wz at e
   by_cases hl:ds.length=ps.length
   . rw[rp.length,hl]
   . rw[if_neg hl]at e;cases e
 . obtain⟨F,ds,r,ht,rp,e,q⟩:=h;unfold wz at e
   by_cases hl:ds.length=ps.length
   . rw[if_pos hl]at e;obtain⟨o,e1,e⟩:=bS_ e;refine⟨F,λ_=>False,λ_=>[],Zj N.length ds,o,B0 ht rp,e1, ?_⟩;cases o with
     |nx as=>cases e;exact λσ' ad' H' R g=>HV q ⟨zyJ,⋯,.lf .non⟩ (g.trans<|Grow.less ⋯)
     |rt o=>cases e;exact λv T H' ro g=>HV q ro g
     |bk=>cases e
     |ct=>cases e
   . rw[if_neg hl]at e;cases e)
end
abbrev wG:=Bool×D
abbrev GF:=wG->AS->Option AS
abbrev Dr:=List wG->AS->Option AS
def kids(st:Bool)(ds:List D):List wG:=ds.map λd=>(zC d||st,d)
inductive RpI(K:zzA)(kd:KD)(F B G:Addr->Prop)(H:Hp):List V->List wG->Prop
 |nil:RpI K kd F B G H [] []
 |cons {v:V}{x:wG}{vs:List V}{ds:List wG}:Rp K kd (Lv F B G x.1) H v x.2->RpI K kd F B G H vs ds->RpI K kd F B G H (v::vs) (x::ds)
def lB(K:zzA)(kd:KD)(S:List Nat)(g:GF):TG:=λv σ H Q=>∃F B ad as x as',Rel K kd F B [] ad as σ H/\Rp K kd (Lv F B (Gw [] ad) x.1) H v x.2/\g x as=some as'/\
 ∀σ' ad' H',Rel K kd F B [] ad' as' σ' H'->Grow (Gw [] ad) H (Gw [] ad') H'->(∀j,j ∉ S->σ'[j]? = σ[j]?)->Q σ' H'
def jI(K:zzA)(kd:KD)(S:List Nat)(g:Dr):tM:=λvs σ H Q=>∃F B ad as ds as',Rel K kd F B [] ad as σ H/\RpI K kd F B (Gw [] ad) H vs ds/\g ds as=some as'/\
 ∀σ' ad' H',Rel K kd F B [] ad' as' σ' H'->Grow (Gw [] ad) H (Gw [] ad') H'->(∀j,j ∉ S->σ'[j]? = σ[j]?)->Q σ' H'
@[irreducible] def AG(X:Cx)(kd:KD)(tg:Expr)(S:List Nat)(g:GF):Prop:=PG X tg<|lB X.K kd S g
@[irreducible] def DC(X:Cx)(kd:KD)(tg:List Expr)(S:List Nat)(g:Dr):Prop:=D6 X tg<|jI X.K kd S g
def u5(h:PG X e t)(k:∀v σ H Q,t' v σ H Q->t v σ H Q):PG X e t':=λa s σ H v u Q I r q=>h a s σ H v u Q I r<|k v σ H Q q
def BW(h:D6 X e t)(k:∀v σ H Q,t' v σ H Q->t v σ H Q):D6 X e t':=λa s σ H v u Q I r q=>h a s σ H v u Q I r<|k v σ H Q q
noncomputable def gN(i:Nat):GF:=λx as=>if i<as.length then some (as.set i<|some<|.lf x.1 x.2)else none
noncomputable def Xn:Dr:=λds as=>match ds with | []=>some as|_::_=>none
noncomputable def y6(g:GF)(gs:Dr):Dr:=λds as=>match ds with | []=>none|d::r=>(g d as).bind λas1=>gs r as1
def gT(n:Nat)(gs:Dr):GF:=λx as=>match x.2 with
 | .tup ds=>if ds.length=n then gs (kids x.1 ds) as else none
 | .lst ds=>if ds.length=n then gs (kids x.1 ds) as else none
 |_=>none
section
variable{K:zzA}{kd:KD}{F B G G':Addr->Prop}{H H':Hp}
theorem RpI.length(h:RpI K kd F B G H vs ds):vs.length=ds.length:=by
 induction h with
 |nil=>rfl
 |cons _ _ a=>exact congrArg _ a
theorem RpI.grow(g:Grow G H G' H')(h:RpI K kd F B G H vs ds):RpI K kd F B G' H' vs ds:=by
 induction h with
 |nil=>exact .nil
 |cons h _ a=>exact .cons (Rp.grow g h) a
def RpI.get{i:Nat}(h:RpI K kd F B G H vs ds)(e:ds[i]? = some x):∃v,vs[i]? = some v/\Rp K kd (Lv F B G x.1) H v x.2:=by
 induction h generalizing i with
 |nil=>simp at e
 |cons h r a=>
  cases i with
  |zero=>simp at e;subst e;exact⟨_,rfl,h⟩
  |succ i=>
   obtain⟨v,b,c⟩:=a ⋯;exact⟨v,⋯,c⟩
def WZ{st}(h:RpL K kd (Lv F B G st) H vs ds):RpI K kd F B G H vs (kids st ds):=
 RpL.ind (P:=λa b=>RpI K kd F B G H a<|kids st b) .nil (λ{v d a b} h _ c=>by
  refine .cons (x:=(zC d||st,d)) ?_ c;cases e:zC d with
  |true=>exact h.flat e
  |false=>exact h) h
end
section
variable{prog:Program}{w:World}{A:Around}{E:Value->Shared->Prop}{s:Shared}
theorem KI(hne:l≠it):∀(n i:Nat) (s:Shared) (Q:List Value->Shared->Prop),s.heap.IsListIter it l i->s.heap.IsList l items->i+n<=items.size->
 (∀h',h'.IsListIter it l (i+n)->Heap.SameBut it s.heap h'->Q ((items.toList.drop i).take n) {s with heap:=h'})->wpAny (model prog w) A (draw (.ref it) n) Q E s
 |0,i,s,Q,a,_,_,f=>zxE (by simpa using f s.heap a (Heap.SameBut.refl ..))
 |n+1,i,s,Q,a,h,j,f=>by
  have b:i<items.size:=⋯;refine zxD<|wpAny_pyNext_list_item a h (x:=items[i]) ⋯ λo c d=>?_;refine zxD<|zxI<|KI hne n _ _ _ c (h.extBut d.extBut hne) ⋯ λk e g=>zxE ?_;have m:items.toList.drop i=items[i]::items.toList.drop (i+1):=by simp[zyQ,b]
  have:=f k (by rwa [show i+_=i+1+n from q0c])<|d.trans g
  rwa [m]at this
def M4(hh:A.handled=none)(ht:s.heap.IsList l items)
 (hn:targets.length=items.size) (hstar:targets.findIdx? (·.1)=none)
 (h:∀h',Heap.ExtBut s.heap.objs.size s.heap h'->wpAny (model prog w) A (assignInOrder (targets.map (·.2)) items.toList) Q E {s with heap:=h'}):
 wpAny (model prog w) A (unpack (.ref l) targets) Q E s:=by
 unfold unpack;rw[hn,hstar];refine zxD<|zxI ?_;have a:l≠s.heap.objs.size:=by obtain⟨o,k,_⟩:=ht;exact zzQ<|zxG k
 refine zxD ?_;refine zxD<|wpAny_specialOf ht.typeIs PySem.F.slot_list_iter.lookup ?_;refine zxE ?_;refine zxD<|zxI<|wpAny_pyIter_list ht ?_;refine zxD<|zxI<|KI a items.size 0 _ _ ⟨_,zxH _ rfl,rfl,rfl⟩ (ht.push _) ⋯ λm c d=>?_;have f:List.take items.size (List.drop 0 items.toList)=items.toList:=List.take_of_length_le ⋯;rw[f];rw[if_neg ⋯];have g:=(ht.push _).extBut d.extBut a;refine zxD<|zxI<|wpAny_pyNext_list_end hh c g ⋯ λn i=>?_;exact zxE<|h n λb o j e=>i b o j<|d.extBut b o j<|zxF _ e
end
section
variable{X:Cx}{kd:KD}{a b c e tg iter:Expr}{es:List Expr}{body:List Stmt}{fa fb:EF}{pos:Pos}{g:GF}{gs:Dr}{f:SF}{ta:TF}{S S1 S2:List Nat}
def kh(K:zzA)(n:Nat)(t:tM):TG:=λv σ H Q=>∃a xs,v = .ref a/\X3 K H a xs/\xs.length=n/\t xs σ H Q
def On(hc:X.calm=true)(h:D6 X es t)(hn:(assignEach es X.env).length=n)(hst:(assignEach es X.env).findIdx? (·.1)=none):PG X (.Tuple es k pos) (kh X.K n t):=by
 intro c s σ H v u Q I r d;obtain⟨a,g,i,j,l,d⟩:=d;subst i;cases r;obtain⟨m,f,p,y⟩:=I.list j;refine zxD<|wpAny_standAt<|M4 (I.ok.hd hc) p.isList (by simp[hn,<-l,f.length]) hst λq w=>?_;have x:=I.kept (t':=s.toks) λb o e=>w b o (zzQ<|zxG e) e;exact h c _ σ H g _ Q x ⋯ d
def BQ(hN:X.N.Nodup)(hi:X.N[i]? = some x)(hx:Loc X.env.scope x)(hf:X.fn x=true\/X.env.scope.names.lookup x=some .local):AG X kd (.Name x pos) [i] (gN i):=by with_unfolding_all exact(u5 (Dk hN hi hx hf) λv σ H Q h=>by
 obtain⟨F,B,f,as,y,a,R,b,e,q⟩:=h;obtain⟨c,e⟩:=zu e;cases e;exact q _ _ H (R.put c<|.lf b) (Grow.less Xp) λj d=>zzY λz=>d<|by rw[z];simp)
def Qb:DC X kd [] [] Xn:=by with_unfolding_all exact(BW IM λd σ H Q h=>by
 obtain⟨F,B,a,as,f,b,R,c,e,q⟩:=h;cases c with
 |nil=>cases e;exact⟨rfl,q σ a H R Grow.refl λ_ _=>rfl⟩
 |cons=>cases e)
def ZA(h1:AG X kd a S1 g)(h2:DC X kd es S2 gs)(hs:(assignEach (a::es) X.env).map (·.2)=assign a X.env::(assignEach es X.env).map (·.2)):DC X kd (a::es) (S1++S2) (y6 g gs):=by with_unfolding_all exact(BW (CC h1 h2 hs) λx σ H Q h=>by
 obtain⟨F,B,l,as,y,c,R,m,e,q⟩:=h;cases m with
 |nil=>cases e
 |cons r n=>
  obtain⟨b,o,e⟩:=bS_<|e;refine⟨_,_,rfl,F,B,l,as,_,b,R,r,o,λA d C p i s=>?_⟩;exact⟨F,B,d,b,_,c,p,n.grow i,e,λt f u R2 v w=>q t f u R2 (i.trans v) λj k=>(w j λz=>k<|zzL _ z).trans<|s j λz=>k<|zzP _ z⟩)
def Tu{k n:Nat}(hc:X.calm=true)(h:DC X kd es S gs)(hn:(assignEach es X.env).length=n)(hst:(assignEach es X.env).findIdx? (·.1)=none):AG X kd (.Tuple es k pos) S (gT n gs):=by
 with_unfolding_all (
 intro pins s σ H v u Q I r hw;obtain⟨F,B,ad,as,⟨st,d⟩,as',R,rp,e,q⟩:=hw;cases d with
 |tup ds=>
  have e:(if ds.length=n then gs _ as else none)=some as':=e
  by_cases hl:ds.length=n
  . rw[if_pos hl]at e;have go:∃a xs,v = .ref a/\VP X.K H a xs/\RpL X.K kd (Lv F B (Gw [] ad) st) H xs ds:=by
     cases rp with
     |tup n h r=>exact⟨_,_,rfl,.inl h,r⟩
     |tupK a b c e f r=>exact⟨_,_,rfl,.inr ⟨_,_,_,a,b,c,e,f⟩,r⟩
    obtain⟨a,xs,rfl,hs,rl⟩:=go;exact s_ hc h hn hst pins s σ H _ u Q I r ⟨a,xs,rfl,hs,by rw[rl.length,hl],F,B,ad,as,_,as',R,WZ rl,e,q⟩
  . rw[if_neg hl]at e;cases e
 |lst ds=>
  have e:(if ds.length=n then gs _ as else none)=some as':=e
  by_cases hl:ds.length=n
  . rw[if_pos hl]at e;cases rp with
    |lstK a b c r'=>exact On hc h hn hst pins s σ H _ u Q I r ⟨_,_,rfl,.inr ⟨_,_,_,a,rfl,rfl,rfl,b,c⟩,by rw[r'.length,hl],F,B,ad,as,_,as',R,WZ r',e,q⟩
    |lst n h' r'=>exact On hc h hn hst pins s σ H _ u Q I r ⟨_,_,rfl,.inl h',by rw[r'.length,hl],F,B,ad,as,_,as',R,WZ r',e,q⟩
  . rw[if_neg hl]at e;cases e
 |_=>cases e)
def VE(as:AS)(r:RV):Option (wG×AS):=(JT as r.frz).bind λx=>match x.1 with | .lf st d=>some ((st,d),x.2)|_=>none
def YM{K ad}(R:Rel K kd F B T ad as σ H)(h:xy K kd F B T ad σ H v r)(e:VE as r=some (x,as')):
 ∃ad',Rel K kd F B [] ad' as' σ H/\Rp K kd (Lv F B (Gw [] ad') x.1) H v x.2/\∀a,Gw [] ad' a->Gw T ad a:=by
 obtain⟨⟨o,c⟩,f,e⟩:=bS_ e;obtain⟨b,g,i,j⟩:=Gb R.drop (xy.drop R h) f;cases o with
 |lf l d=>
  cases e;refine⟨b,g, ?_,λa y=>Gw.drop a<|j a y⟩;have:=Uc i;exact this
 |nd k m=>cases e
def X1(f:EF)(g:GF):SF:=λas=>(f as).bind λp=>(VE p.2 p.1).bind λq=>(g q.1 q.2).bind λas'=>some<|.nx as'
def sO(he:AE X kd e fa)(hg:AG X kd tg S g)(hs:swapsWithSole [tg] e pos.line X.env=pure false)(hw:swappedStores [tg] e X.env=pure none)(h1:(assignEach [tg] X.env).map (·.2)=[assign tg X.env]):
 Fk X kd (.Assign [tg] e pos) (X1 fa g):=by with_unfolding_all exact(wX (Cf he hg hs hw h1) λD σ H h=>by
 obtain⟨F,B,ad,as,o,R,e,q⟩:=h;obtain⟨⟨p,as1⟩,h1,e⟩:=bS_<|e;obtain⟨⟨x,as2⟩,h2,e⟩:=bS_ e;obtain⟨as3,h3,e⟩:=bS_ e;cases e;refine⟨F,B,ad,as,p,as1,R,h1,λv T' ad' H' R' rv g1=>?_⟩;obtain⟨ad2,R2,rp,le⟩:=YM R' rv h2;exact⟨F,B,ad2,as2,_,as3,R2,rp,h3,λσ' ad' H' R' g' _=>q σ' ad' H' R'<|(g1.trans<|Grow.less le).trans g'⟩)
structure ItOk(K:zzA)(kd:KD)(F B:Addr->Prop)(ad:Ad)(H:Hp)(J:It)(ds:List wG):Prop where
 all:∀(ad2:Ad) (H2:Hp),Grow (Gw [] ad) H (Gw [] ad2) H2->(∀st a,Lv F B (Gw [] ad2) st a->H2 a≠none)->∀i,(i<ds.length->J.go i H2)/\(ds.length<=i->J.stop i H2)/\
  ∀v H3,J.yld i H2 v H3->(∀b o,H2 b=some o->H3 b=some o)/\∀x,ds[i]? = some x->Rp K kd (Lv F B (Gw [] ad2) x.1) H3 v x.2
abbrev IF:=AS->Option (List wG×AS)
def gk(K:zzA)(kd:KD)(f:IF):TI:=λσ H R=>∃F B ad as ds as',Rel K kd F B [] ad as σ H/\f as=some (ds,as')/\
 ∀J ad' H',Rel K kd F B [] ad' as' σ H'->Grow (Gw [] ad) H (Gw [] ad') H'->ItOk K kd F B ad' H' J ds->R J H'
@[irreducible] def AI(X:Cx)(kd:KD)(tg iter:Expr)(f:IF):Prop:=PI X tg iter<|gk X.K kd f
noncomputable def forL(g:GF)(f:SF):List wG->AS->Option Out
 | [],as=>some (.nx as)
 |d::r,as=>(g d as).bind λas1=>(f as1).bind λo=>match o with
  | .nx as'=>forL g f r as'
  | .ct as'=>forL g f r as'
  | .bk as'=>some<|.nx as'
  | .rt r=>some<|.rt r
def yL(fi:IF)(g:GF)(f:SF):SF:=λas=>(fi as).bind λp=>forL g f p.1 p.2
def EY(hp:PassesOwn (model X.prog X.w) X.A X.env X.xe)(hc:X.calm=true)(hi:AI X kd tg iter fi)(hg:AG X kd tg S g)(hb:FW X kd body f)(hs:∀x,foldedSetIterable iter X.env x=pure x):
 Fk X kd (.For tg iter body [] pos) (yL fi g f):=by with_unfolding_all exact(wX (OM hp hc hi hg hb hs) λD σ H h=>by
 obtain⟨F,B,ad,as,o,R,e,q⟩:=h;obtain⟨⟨ds,as1⟩,h1,e⟩:=bS_<|e;refine⟨F,B,ad,as,ds,as1,R,h1,λJ ad1 H1 R1 g1 it=>?_⟩;refine⟨λi m σ2 H2=>m+i=ds.length/\∃ad2 as2,Rel X.K kd F B [] ad2 as2 σ2 H2/\Grow _ H1 (Gw [] ad2) H2/\forL g f (ds.drop i) as2=some o,⟨ds.length,rfl,ad1,as1,R1,Grow.refl,e⟩, ?_⟩
 rintro i m σ2 H2 ⟨hm,ad2,as2,R2,g2,e2⟩
 obtain⟨k1,k2,k3⟩:=it.all ad2 H2 g2 R2.trk i
 by_cases hi:i<ds.length
 . refine .inr ⟨k1 hi,λσ3 H3=>∃ad3 as3,Rel X.K kd F B [] ad3 as3 σ3 H3/\Grow _ H1 _ H3/\forL g f _ as3=some o,λσ3 H3 ⟨ad3,as3,R3,g3,e3⟩=>⟨m-1,⋯,⋯,ad3,as3,R3,g3,e3⟩,λv H3 hy=>?_⟩;obtain⟨kp,rp⟩:=k3 v H3 hy;rw[zyQ hi]at e2;obtain⟨as3,e3,e2⟩:=bS_<|e2;obtain⟨o3,e4,e2⟩:=bS_ e2;obtain⟨R3,g3⟩:=R2.more kp;refine⟨F,B,ad2,as2,_,as3,R3,rp _<|zzE hi,e3,λσ4 ad4 H4 R4 g4 _=>?_⟩;refine⟨F,B,ad4,as3,o3,R4,e4, ?_⟩;have gg:=(g2.trans g3).trans g4;cases o3 with
   |nx as5=>exact λσ5 ad5 H5 R5 g5=>⟨ad5,as5,R5,gg.trans g5,e2⟩
   |ct as5=>exact λσ5 ad5 H5 R5 g5=>⟨ad5,as5,R5,gg.trans g5,e2⟩
   |bk as5=>
    cases e2;exact λσ5 ad5 H5 R5 g5=>q σ5 ad5 H5 R5 (g1.trans<|gg.trans g5)
   |rt r=>
    cases e2;exact λv T H5 ro g5=>q v T H5 ro<|g1.trans<|gg.trans g5
 . refine .inl ⟨k2 ⋯, ?_⟩;rw[List.drop_eq_nil_of_le ⋯]at e2;cases e2;exact q σ2 ad2 H2 R2<|g1.trans g2)
def UX:wG->Option (List wG)
 |(st,.lst ds)=>some (kids st ds)
 |(st,.tup ds)=>some (kids st ds)
 |_=>none
def Wc(f:EF):IF:=λas=>(f as).bind λp=>(VE p.2 p.1).bind λq=>(UX q.1).bind λds=>some (ds,q.2)
def BO{K ad a}(hs:∀(ad3:Ad) (H3:Hp),Grow (Gw [] ad) H (Gw [] ad3) H3->X3 K H3 a vs)(r:RpI K kd F B (Gw [] ad) H vs ds):ItOk K kd F B ad H (lQ K a) ds:=⟨λc j h _ i=>by
 have b:=hs c j h;have e:=r.grow h;refine⟨λf=>?_,λf=>⟨_,b,by rwa [r.length]⟩,λv o k=>?_⟩
 . obtain⟨u,g,_⟩:=r.get<|zzE f;exact⟨_,u,b,g⟩
 . obtain⟨rfl,l⟩:=k;refine⟨λ_ _ z=>z,λd m=>?_⟩;obtain⟨u,g,n⟩:=e.get m;have:=l _ b;rw[g]at this;cases this;exact n⟩
def uE{K ad a}(hs:∀(ad3:Ad) (H3:Hp),Grow (Gw [] ad) H (Gw [] ad3) H3->VP K H3 a vs)(r:RpI K kd F B (Gw [] ad) H vs ds):ItOk K kd F B ad H (lE K a) ds:=⟨λc j h _ i=>by
 have b:=hs c j h;have e:=r.grow h;refine⟨λf=>?_,λf=>⟨_,b,by rwa [r.length]⟩,λv o k=>?_⟩
 . obtain⟨u,g,_⟩:=r.get<|zzE f;exact⟨_,u,b,g⟩
 . obtain⟨rfl,l⟩:=k;refine⟨λ_ _ z=>z,λd m=>?_⟩;obtain⟨u,g,n⟩:=e.get m;have:=l _ b;rw[g]at this;cases this;exact n⟩
def CT(he:AE X kd e fa):AI X kd tg e (Wc fa):=by
 with_unfolding_all (
 intro pins s σ H R I h;obtain⟨F,B,ad,as,ds,as',Rl,e,q⟩:=h;obtain⟨⟨p,as1⟩,h1,e⟩:=bS_<|e;obtain⟨⟨⟨st,x⟩,as2⟩,h2,e⟩:=bS_ e;obtain⟨ys,h3,e⟩:=bS_ e;cases e;cases x with
 |lst xs=>
  cases h3;refine LA he pins s σ H R I ⟨F,B,ad,as,p,as1,Rl,h1,λv T1 ad1 H1 R1 rv1 g1=>?_⟩;obtain⟨ad2,R2,rp,le⟩:=YM R1 rv1 h2;cases rp with
  |lst hn hr rl=>exact⟨_,rfl,⟨_,.inl hr⟩,q _ ad2 H1 R2 (g1.trans<|Grow.less le)<|BO (λad3 H3 g3=>.inl<|QA g3 (λz=>hn<|.inr z) hr)<|WZ rl⟩
  |lstK a b c rl=>exact⟨_,rfl,⟨_,.inr ⟨_,_,_,a,rfl,rfl,rfl,b,c⟩⟩,q _ ad2 H1 R2 (g1.trans<|Grow.less le)<|BO (λad3 H3 g3=>.inr ⟨_,_,_,a,rfl,rfl,rfl,b,c⟩)<|WZ rl⟩
 |tup xs=>
  cases h3;refine EV he pins s σ H R I ⟨F,B,ad,as,p,as1,Rl,h1,λv T1 ad1 H1 R1 rv1 g1=>?_⟩;obtain⟨ad2,R2,rp,le⟩:=YM R1 rv1 h2;have go:∃a ys,v = .ref a/\(∀ad3 H3,Grow (Gw [] ad2) H1 (Gw [] ad3) H3->VP X.K H3 a ys)/\RpL X.K kd (Lv F B (Gw [] ad2) st) H1 ys xs:=by
   cases rp with
   |tup n h r=>exact⟨_,_,rfl,λad3 H3 g3=>.inl<|QA g3 (λz=>n<|.inr z) h,r⟩
   |tupK a b c e f r=>exact⟨_,_,rfl,λad3 H3 g3=>.inr ⟨_,_,_,a,b,c,e,f⟩,r⟩
  obtain⟨a,ys,rfl,hs,rl⟩:=go;exact⟨_,rfl,⟨_,hs ad2 H1 Grow.refl⟩,q _ ad2 H1 R2 (g1.trans<|Grow.less le)<|uE hs<|WZ rl⟩
 |_=>cases h3)
noncomputable def y9(lo:Int)(n:Nat):List wG:=(List.range n).map λ(i:Nat)=>(true,D.int<|lo+(i:Int))
def CL{K ad}(lo)(n:Nat):ItOk K kd F B ad H (rX lo n) (y9 lo n):=⟨λe h g _ i=>by
 have c:(y9 lo n).length=n:=by unfold y9;simp
 refine⟨λa=>by rw[c]at a;exact a,λa=>by rw[c]at a;exact a,λv j f=>?_⟩;obtain⟨rfl,rfl⟩:=f;refine⟨λ_ _ z=>z,λd b=>?_⟩;have a:i<n:=by rw[<-c];exact(zzG.mp b).1
 unfold y9 at b;rw[zzI,List.getElem?_range a]at b;cases b;exact .int _⟩
noncomputable def pq:List D->Option D
 | [x]=>some x
 |_=>none
def Ab(h:pq ds=some d):ds=[d]:=by
 cases ds with
 |nil=>cases h
 |cons x r=>
  cases r with
  |nil=>cases h;rfl
  |cons _ _=>cases h
def yV(ds:List D):Option (List wG):=((pq ds).bind BE).bind λj=>if -(2 ^ 62)<=j/\j<2 ^ 62 then some (y9 0 j.toNat)else none
def F_(h:yV ds=some xs):∃j,ds=[.int j]/\(if -(2 ^ 62)<=j/\j<2 ^ 62 then some (y9 0 j.toNat)else none)=some xs:=by
 obtain⟨j,a,h⟩:=bS_ h;obtain⟨d,b,a⟩:=bS_ a;cases Ol a;exact⟨j,Ab b,h⟩
def J8:List D->Option (List wG)
 | [.int i,.int j]=>if -(2 ^ 62)<=i/\i<2 ^ 62 /\ -(2 ^ 62)<=j/\j<2 ^ 62 then some (y9 i (j-i).toNat)else none
 |_=>none
def yt(fr:AF)(h:List D->Option (List wG)):IF:=λas=>(fr as).bind λp=>(views p.2 p.1).bind λds=>(h ds.1).bind λxs=>some (xs,p.2)
def Hn(hg:Gl X "range")(hm:X.mg "range"=none)(ha:AA X kd [a] fr)(hs:starEach [a] X.env=[(false,eval a X.env)]):AI X kd tg (.Call (.Name "range" p) [a] [] pos) (yt fr yV):=by
 with_unfolding_all (
 intro b s σ H R I h;obtain⟨F,B,k,as,A,l,m,e,q⟩:=h;obtain⟨⟨n,o⟩,r,e⟩:=bS_<|e;obtain⟨⟨C,D⟩,t,e⟩:=bS_ e;obtain⟨E,c,e⟩:=bS_ e;cases e;obtain⟨j,rfl,c⟩:=F_ c
 . obtain⟨g,u⟩:=zu c;cases u;refine Kt hg hm ha hs b s σ H R I ⟨F,B,k,as,n,_,m,r,λG d v i f w=>?_⟩;have x:=Y_ i f t;cases x with
   |cons y z=>
    cases z;cases y;exact⟨j,rfl,g.1,g.2,q _ d v i w<|CL 0 _⟩)
def KH(hg:Gl X "range")(hm:X.mg "range"=none)(ha:AA X kd [a,b] fr)(hs:starEach [a,b] X.env=[(false,eval a X.env),(false,eval b X.env)])(hs2:starEach [b] X.env=[(false,eval b X.env)]):AI X kd tg (.Call (.Name "range" p) [a,b] [] pos) (yt fr J8):=by
 with_unfolding_all (
 intro c s σ H R I h;obtain⟨F,B,n,as,o,r,t,e,q⟩:=h;obtain⟨⟨u,v⟩,w,e⟩:=bS_<|e;obtain⟨⟨x,J⟩,d,e⟩:=bS_ e;obtain⟨K,f,e⟩:=bS_ e;cases e
 match x,f,d with
 | [.int i,.int j],f,d=>
  obtain⟨y,z⟩:=zu<|f;cases z;refine Sf hg hm ha hs hs2 c s σ H R I ⟨F,B,n,as,u,_,t,w,λL g A m k C=>?_⟩;have D:=Y_ m k d;cases D with
  |cons E l=>
   cases l with
   |cons l G=>
    cases G;cases E;cases l;exact⟨i,j,rfl,y,q _ g A m C<|CL i _⟩)
def Rel.mut{K ad}{i:Nat}(R:Rel K kd F B T ad as σ H)(hi:i<as.length)(hl:ad i=l::fp)(hs:σ[i]? = some (some<|.ref l))
 (hsub:∀a ∈ fp'++fo,a ∈ fp++T) (hnd:(fp'++fo).Nodup) (hu:H l≠none)
 (ro:∀(H':Hp) (G':Addr->Prop),H' l=some u->Grow (Gw T ad) H G' H'->(∀a ∈ fp',∀w,H a=some w->H' a=some w)->vM K kd F B G' H' (.ref l) n (l::fp')):
 Rel K kd F B fo (yX ad i (l::fp')) (as.set i<|some n) σ (upd H l u)/\Grow (Gw T ad) H (Gw fo<|yX ad i (l::fp')) (upd H l u):=by
 have hli:l ∈ ad i:=by rw[hl];exact zzF
 have lT:=R.dis i l hli;have lfp:l ∉ fp:=by have:=R.nd i;rw[hl]at this;exact(zzW.mp this).1
 have lsub:∀a ∈ fp'++fo,a≠l:=λa m e=>by
  subst e
  rcases zzM.mp (hsub _ m)with z|z
  . exact lfp z
  . exact lT z
 have sub:∀a ∈ fp'++fo,Gw T ad a:=λa m=>by
  rcases zzM.mp (hsub a m)with z|z
  . exact .inr ⟨i,by rw[hl];exact zzD _ z⟩
  . exact .inl z
 have gsub:∀a,Gw fo (yX ad i (l::fp')) a->Gw T ad a:=λa z=>by
  rcases z with z|⟨j,z⟩
  . exact sub a<|zzL _ z
  . by_cases e:j=i
    . subst e;rw[zQ]at z
      rcases zzC.mp z with z|z
      . subst z;exact .inr ⟨j,hli⟩
      . exact sub a<|zzP _ z
    . rw[zS e]at z;exact .inr ⟨j,z⟩
 have g:Grow _ H _ (upd H l u):=⟨λb w h n=>by rw[zK λe=>n<|by subst e;exact .inr ⟨i,hli⟩];exact h,λb z=>.inl<|gsub b z⟩;have kn:∀a,H a≠none->upd H l u a≠none:=λa z=>by
  by_cases e:a=l
  . subst e;rw[ya];simp
  . rwa [zK e]
 obtain⟨hnd1,hnd2,hnd3⟩:=zxC.mp hnd;have inT:∀j a,j≠i->a ∈ ad j->a ∈ fp'++fo->False:=λj a hj m m'=>by
  rcases zzM.mp (hsub a m')with z|z
  . exact hj (R.inj j i a m<|by rw[hl];exact zzD _ z)
  . exact R.dis j a m z
 refine⟨⟨by rw[zzU];exact R.len,λj hj=>?_,λj=>?_,λj k a h1 h2=>?_,hnd2,λj a h1 h2=>?_,λa z=>kn a<|R.ftr a z,λa z=>?_,λa z=>⟨kn a (R.gtr a<|gsub a z).1,(R.gtr a<|gsub a z).2⟩,λj s e=>?_⟩,g⟩
 . rw[zzU]at hj;rw[zS<|(q0W hi hj)];exact R.out j hj
 . by_cases e:j=i
   . subst e;rw[zQ];exact zzW.mpr ⟨λm=>lsub l (zzP _ m) rfl,hnd1⟩
   . rw[zS e];exact R.nd j
 . by_cases e:j=i
   . subst e
     by_cases e':k=j
     . exact e'.symm
     . rw[zQ]at h1;rw[zS e']at h2
       rcases zzC.mp h1 with z|z
       . subst z;exact R.inj j k a hli h2
       . exact(inT k a e' h2<|zzP _ z).elim
   . rw[zS e]at h1
     by_cases e':k=i
     . subst e';rw[zQ]at h2
       rcases zzC.mp h2 with z|z
       . subst z;exact R.inj j k a h1 hli
       . exact(inT j a e h1<|zzP _ z).elim
     . rw[zS e']at h2;exact R.inj j k a h1 h2
 . by_cases e:j=i
   . subst e;rw[zQ]at h1
     rcases zzC.mp h1 with z|z
     . subst z;exact lsub a (zzL _ h2) rfl
     . exact hnd3 a z a h2 rfl
   . rw[zS e]at h1;exact inT j a e h1<|zzL _ h2
 . obtain⟨b1,b2,b3⟩:=R.btr a z;exact⟨kn a b1,b2,λy=>b3<|gsub a y⟩
 . by_cases q:j=i
   . subst q;rw[zyK hi]at e;cases e;rw[zQ];refine⟨_,hs,ro _ _ ya g λa m w h=>?_⟩
     rwa [zK<|lsub a<|zzP _ m]
   . rw[zzY<|Ne.symm q]at e;rw[zS q];refine(R.sl j s e).grow g λa m w h=>?_
     rwa [zK λz=>q<|R.inj j i l (by rwa [<-z]) hli]
abbrev MG:=List O->List O->Option (List O×O)
noncomputable def vL(i:Nat)(fr:DF)(g:MG):EF:=λas=>match as[i]? with
 |some (some (.nd .ls _))=>(fr as).bind λp=>match p.2[i]? with
  |some (some (.nd .ls os))=>(g os p.1).bind λz=>some (.ow z.2,p.2.set i<|some<|.nd .ls z.1)
  |_=>none
 |_=>none
def mI(X:Cx)(kd:KD)(r:V->List V->Hp->VK->Prop)(g:MG):Prop:=
 ∀(F B G:Addr->Prop) (l:Addr) (vs ws:List V) (os es os':List O) (o:O) (fp fq:List Addr) (H:Hp) (Q:VK),H l=some (.lst vs)->v_ X.K kd F B G H vs os fp->v_ X.K kd F B G H ws es fq->(fp++fq).Nodup->g os es=some (os',o)->
  (∀v vs' fp' fo,v_ X.K kd F B G H vs' os' fp'->vM X.K kd F B G H v o fo->(∀a ∈ fp'++fo,a ∈ fp++fq)->(fp'++fo).Nodup->Q v (upd H l<|.lst vs'))->r (.ref l) ws H Q
def qV{i:Nat}{fr g r}(hr:mI X kd r g)
 (h:al X.K kd (vL i fr g) σ H Q):ij X.K "list" r (VL i) (i0 X.K kd fr) σ H Q:=by
 obtain⟨F,B,U,as,z,as',R,e,q⟩:=h;unfold vL at e;cases k:as[i]? with
 |none=>rw[k]at e;cases e
 |some a0=>
  rw[k]at e
  match a0,e,k with
  |some (.nd .ls os0),e,k=>
   obtain⟨⟨G,s⟩,h1,e⟩:=bS_<|e;obtain⟨v0,f,t⟩:=R.sl i _ k;generalize W:U i=fp0 at t;cases t with
   |ls I rl0=>
   rename_i l vs0 Y;refine⟨_,f,.inl ⟨rfl,_,.inl<|.inl I⟩,F,B,U,as,G,s,R,h1,λws J x L j M g1=>?_⟩;cases p:s[i]? with
   |none=>rw[p]at e;cases e
   |some a2=>
    rw[p]at e
    match a2,e,p with
    |some (.nd .ls Z),e,p=>
     obtain⟨⟨y,o⟩,h3,e⟩:=bS_<|e;cases e;obtain⟨v1,A,C⟩:=j.sl i _ p;rw[f]at A;cases A;generalize c:x i=fp1 at C;cases C with
     |ls hH rl=>
     rename_i vs fp;have N:=zxC.mpr ⟨by have:=j.nd i;rw[c]at this;exact(zzW.mp this).2,j.tnd,λa m b m' e=>by
          subst e;exact j.dis i a (by rw[c];exact zzD _ m) m'⟩
     refine hr F B _ _ vs ws Z G y o fp J L Q hH rl M N h3 λv D fp' fo O P d E=>?_;obtain⟨R3,g3⟩:=j.mut (zzG.mp p).1 c f d E (by rw[hH];simp) λH' G' S gr kp=>.ls S<|v_.grow gr kp O;have T:∀a ∈ fo,∀w,L a=some w->upd L l (.lst D) a=some w:=λa m w h=>by
          rw[zK λe=>?_]
          . exact h
          . subst e
            rcases zzM.mp (d _<|zzL _ m)with z|z
            . have:=j.nd i;rw[c]at this;exact(zzW.mp this).1 z
            . exact j.dis i _ (by rw[c];exact zzF) z
     exact q v fo _ _ R3 (vM.grow g3 T P)<|g1.trans g3
end
end PF
end
section
set_option exponentiation.threshold 5000
namespace PF
open PySem PySem.Spec PyProof.Rows L2
section
variable{K:zzA}{kd:KD}{O:Addr->Prop}{H:Hp}{Q:VK}
def yc(q:RQ K kd O H Q (.im d))(r:Rp K kd O H v d):Q v H:=q v H (λ_ _ z=>z) r
def FU(hp:H p=none)(r:RpL K kd O H vs ds):RpL K kd (WM O (· = p)) (upd H p o) vs ds:=
 RpL.grow ⟨λb u q _=>by rw[zK<|z9 q hp];exact q,λb z=>.inr<|by rwa [z]⟩ (r.less λa z=>z.elim id False.elim)
def JO(hp:H p=none)(r:RpM K kd O H vs ds):RpM K kd (WM O (· = p)) (upd H p o) vs ds:=
 RpM.grow ⟨λb u q _=>by rw[zK<|z9 q hp];exact q,λb z=>.inr<|by rwa [z]⟩ (r.less λa z=>z.elim id False.elim)
def xT{p o}(hp:H p=none):∀b u,H b=some u->upd H p o b=some u:=λb u q=>by rwa [zK<|z9 q hp]
def Ul{vs ds}(q:RQ K kd O H Q (.fl ds))(r:RpL K kd O H vs ds):∀p,H p=none->Q (.ref p) (upd H p<|.lst vs):=λp hp=>
 q p vs _ hp (xT hp) ya (FU hp r)
def CV{vs ds}(q:RQ K kd O H Q (.fd ds))(r:RpM K kd O H vs ds):∀p,H p=none->Q (.ref p) (upd H p<|.dK vs):=λp hp=>
 q p vs _ hp (xT hp) ya (JO hp r)
def Tj{vs ds}(ht:∀a,O a->H a≠none)(q:RQ K kd O H Q (.im<|.tup ds))(r:RpL K kd O H vs ds):∀p,H p=none->Q (.ref p) (upd H p<|.tup vs):=λp hp=>
 q _ _ (xT hp) (.tup (λz=>ht p z hp) (.inl ya)<|(FU hp r).less λa z=>.inl z)
end
noncomputable def big:Nat:=2 ^ 4000
def NV(h:i.natAbs<big):Builtin.Int.intBits i<=2 ^ 20:=by
 unfold Builtin.Int.intBits
 split
 . exact Nat.zero_le _
 . have:i.natAbs.log2<4000:=by
    rcases Nat.eq_zero_or_pos i.natAbs with a|b
    . rw[a];decide
    . exact(Nat.log2_lt<|Nat.ne_of_gt b).mpr h
   omega
def Av{i}(h:i.natAbs<2 ^ 64):Builtin.Int.intBits i<=64:=by
 unfold Builtin.Int.intBits
 split
 . exact Nat.zero_le _
 . rcases Nat.eq_zero_or_pos i.natAbs with h0|hp
   . rw[h0];decide
   . exact(Nat.log2_lt<|Nat.ne_of_gt hp).mpr h
def Dv(f:Int->Int->Option R0)(x y:D):Option R0:=(BE x).bind λi=>(BE y).bind λj=>f i j
def jn(x y:D):Option R0:=match x with
 | .int i=>(BE y).bind λj=>some<|.im<|.int<|i+j
 | .str x=>(i9 y).bind λy=>if x.length+y.length<=sizeLine then some (.im<|.str<|x++y)else none
 | .lst xs=>(uo y).bind λys=>if xs.length+ys.length<=sizeLine then some (.fl<|xs++ys)else none
 | .tup xs=>(lS y).bind λys=>if xs.length+ys.length<=sizeLine then some (.im<|.tup<|xs++ys)else none
 |_=>none
def jc(x y:D):Option R0:=match x with
 | .int i=>(BE y).bind λj=>if(i.natAbs<big/\j.natAbs<big)\/j.natAbs<2 ^ 64 then some (.im<|.int<|i*j)else none
 | .lst xs=>(BE y).bind λk=>if -(2 ^ 63)<=k/\k<2 ^ 63/\xs.length*k.toNat<=sizeLine then some (.fl (List.replicate k.toNat xs).flatten)else none
 | .tup xs=>(BE y).bind λk=>if 1<=k/\k<2 ^ 63/\xs.length≠0/\xs.length*k.toNat<=sizeLine then some (.im<|.tup (List.replicate k.toNat xs).flatten)else none
 |_=>none
def Yj(o:Operator)(x y:D):Option R0:=match o with
 | .Add=>jn x y
 | .Sub=>Dv (λi j=>some<|.im<|.int<|i-j) x y
 | .Mult=>jc x y
 | .FloorDiv=>Dv (λi j=>if 0<j/\j.natAbs<big then some (.im<|.int<|i/j)else none) x y
 | .Mod=>Dv (λi j=>if 0<j then some (.im<|.int<|i%j)else none) x y
 | .Pow=>Dv (λi j=>if 0<=j/\j<=1000000/\i.natAbs<2 ^ 64 then some (.im<|.int<|i ^ j.toNat)else none) x y
 |_=>none
def Xd{K kd O H v d i}(h:Vw K kd O H v d)(e:BE d=some i):d = .int i/\v = .int i:=by
 cases h with
 |int j=>cases e;exact ⋯
 |_=>cases e
def tZ{K kd O H v d i}(h:Vw K kd O H v d)(e:i9 d=some i):d = .str i/\v = .str i:=by
 cases h with
 |str j=>cases e;exact ⋯
 |_=>cases e
def Y2{K kd O H v w d e f r}(vx:Vw K kd O H v d)(vy:Vw K kd O H w e)(h:Dv f d e=some r):∃i j,v = .int i/\w = .int j/\f i j=some r:=by
 obtain⟨i,a,h⟩:=bS_<|h;obtain⟨j,b,h⟩:=bS_ h;exact⟨i,j,(Xd vx a).2,(Xd vy b).2,h⟩
section
variable{X:Cx}{kd:KD}
def Jg:Ux X (binaryOp .Add) (λx y H Q=>∃l b xs zs,x = .ref l/\y = .ref b/\Ik X.K H l xs/\Ik X.K H b zs/\xs.length+zs.length<=sizeLine/\∀p,H p=none->Q (.ref p) (upd H p<|.lst<|xs++zs)):=by
 intro d s σ H x y v u Q I g i h;obtain⟨l,b,w,A,rfl,rfl,j,k,B,q⟩:=h;cases g;cases i;obtain⟨z,c,n,r,e⟩:=Fh I j;obtain⟨C,a,D,f,m⟩:=Fh I k;have E:=r.length;have o:=f.length;refine PySem.P.add_list e m ?_ (by rw[zzH,zzH];omega);have t:c.toArray++a.toArray=(c++a).toArray:=⋯;rw[t];exact⟨.ref _,_,I.lnew (t':=s.toks) (r.append f) (by rw[zzJ];omega),rfl,q _ I.fresh⟩
def IY:Ux X (binaryOp .Mult) (λx y H Q=>∃l k xs,x = .ref l/\y = .int k/\Ik X.K H l xs /\ -(2 ^ 63)<=k/\k<2 ^ 63/\xs.length*k.toNat<=sizeLine/\
 ∀p,H p=none->Q (.ref p) (upd H p<|.lst (List.replicate k.toNat xs).flatten)):=by
 intro w s σ H x y v u Q I B C h;obtain⟨l,k,N,rfl,rfl,D,E,G,A,q⟩:=h;cases B;obtain⟨t,rfl⟩:=C;obtain⟨z,b,n,r,e⟩:=Fh I D;have J:=r.length;have d:b.toArray.size*k.toNat<=sizeLine:=by rwa [zzH,<-J]
 have f:¬b.toArray.size*k.toNat > (2 ^ 63-1)/8:=by
  have:sizeLine<=(2 ^ 63-1)/8:=by decide
  omega
 have g:¬(!Builtin.List.listFitsIndex k)=true:=by
  rw[fitsIndex_both E G];exact zyV
 have c:¬Builtin.List.listTooLong (b.toArray.size*k.toNat)=true:=by
  rw[Mx d];exact zyV
 have i:List.foldl (λj o=>j++o) #[] (List.replicate (if b.toArray.isEmpty=true then 0 else k.toNat) b.toArray)=(List.replicate k.toNat b).flatten.toArray:=by
  have L:=λm=>by
   have:=foldl_rep b m []
   rwa [List.nil_append]at this
  rw[L];cases b with
  |nil=>simp
  |cons a O=>rw[if_neg<|by simp]
 refine wpAny_binaryOp_repeat_ref (by decide) ⟨_,e,rfl⟩ (λM=>typeIs_int M k t) noFill_list_mul F.fills_int_mul F.slot_int_rmul repeat_list F.slot_int_index.lookup
  (call_meets F.slot_int_rmul ⋯ F.entry_int_rmul ⋯ (int___rmul___int_list k t l b.toArray n)
   ⟨e,rfl,⟨_,e,rfl⟩,call_meets F.slot_list_mul ⟨_,e,rfl⟩ F.entry_list_mul (F.args_list_mul_2 _ _) (AutoListH.list___mul___list_int_3 l b.toArray n k t g f c) ⟨e, ?_⟩⟩)
 rw[i];refine⟨.ref _,_,I.lnew (t':=s.toks) (r.rep k.toNat) ?_,rfl,q _ I.fresh⟩
 rwa [len_rep,Nat.mul_comm]
def tuple_addW0(l b)(items items2)(n n2:Nat)(dd dd2)(sl sl2)(h0:items.isEmpty=true):
 Meets (Builtin.«tuple.__add__» {pos:=[.ref l,.ref b]}) (λ_ R s=>s.heap.get? l=some {cls:=.type "tuple",dict:=dd,data:=.seq items n,slots:=sl}/\s.heap.get? b=some {cls:=.type "tuple",dict:=dd2,data:=.seq items2 n2,slots:=sl2}/\R (.ok<|.ret<|.ref b) s):=
 .of_wp λa w A R s h=>by
  obtain⟨c,e,h⟩:=h;have f2:=AutoSeq1.sub_tuple_tuple
  wp_walk using wpAny_loadPart' c,wpAny_loadPart' e
  exact⟨_,rfl,h⟩
def MB(l)(items)(n:Nat)(dd)(sl)(u):
 Meets (Builtin.«tuple.__mul__» {pos:=[.ref l,.int 1 u]}) (λ_ R s=>s.heap.get? l=some {cls:=.type "tuple",dict:=dd,data:=.seq items n,slots:=sl}/\R (.ok<|.ret<|.ref l) s):=
 .of_wp λa w A R s h=>by
  obtain⟨b,h⟩:=h
  wp_walk using wpAny_loadPart' b
  exact⟨_,rfl,h⟩
def N4(l)(items its2:Array Value)(n:Nat)(dd)(sl)(x)(u)(c1:¬(decide (x < -2 ^ 63)||decide (x ≥ 2 ^ 63))=true)(c2:¬(items.isEmpty||x==1)=true)(c3:¬(decide (x<=0)||items.isEmpty)=true)
 (hcap:¬(items.size:Int)*x > (2 ^ 63-1)/8) (ht:¬Builtin.Tuple.tupleTooMany (items.size*x)=true) (hz:¬(List.foldl (λx1 x2=>x1++x2) #[] (List.replicate x.toNat items)).size > sizeLine):
 Meets (Builtin.«tuple.__mul__» {pos:=[.ref l,.int x u]}) (λ_ R s=>s.heap.get? l=some {cls:=.type "tuple",dict:=dd,data:=.seq items n,slots:=sl}/\R (.ok<|.ret<|.ref s.heap.objs.size) {s with heap:=s.heap.push {cls:=.type "tuple",data:=.seq (List.foldl (λx1 x2=>x1++x2) #[] (List.replicate x.toNat items))}}):=
 .of_wp λa w A R s h=>by
  obtain⟨b,h⟩:=h
  wp_walk using wpAny_loadPart' b
  rw[if_neg c1]
  wp_walk using wpAny_loadPart' b
  rw[if_neg hcap]
  wp_walk
  exact⟨_,rfl,h⟩
def Q5:fillsNumberSlot (Value.type "tuple") "mul"=pure false:=⋯
def Ln:seqRepeat? (Value.type "tuple")=pure (some<|Value.builtin "tuple.__mul__"):=⋯
def TY(a)(t)(l)(items)(n:Nat)(dd)(sl):
 Meets (Builtin.«int.__rmul__» {pos:=[.int a t,.ref l]}) (λ_ R s=>s.heap.get? l=some {cls:=.type "tuple",dict:=dd,data:=.seq items n,slots:=sl}/\R (.ok<|.ret .notImplemented) s):=
 .of_wp λb w A R s h=>by
  obtain⟨c,h⟩:=h
  wp_walk using wpAny_load' c,wpAny_loadPart' c
  exact⟨_,rfl,h⟩
def Jq:Ux X (binaryOp .Add) (λx y H Q=>∃a b ys,x = .ref a/\y = .ref b/\VP X.K H a []/\VP X.K H b ys/\Q (.ref b) H):=by
 intro j s σ H x y v u Q I t w h;obtain⟨a,b,M,rfl,rfl,z,A,q⟩:=h;cases t;cases w;obtain⟨B,C,D,_⟩:=I.tuple z;obtain⟨k,N,E,_⟩:=I.tuple A;cases C;obtain⟨⟨cls,G,l,J⟩,m,o,n,p⟩:=id D;obtain⟨⟨r,f,g,i⟩,c,d,L,e⟩:=id E;subst o p d e;exact concat_meets ⟨_,m,rfl⟩ ⟨_,c,rfl⟩ noFill_tuple_add seq_tuple_add PySem.F.slot_tuple_add PySem.F.entry_tuple_add (PySem.F.args_tuple_add_2 _ _) (tuple_addW0 a b _ _ n L G f J i rfl) ⟨m,c,⟨.ref b,H,I,rfl,q⟩⟩
def Jd:Ux X (binaryOp .Mult) (λx y H Q=>∃l k xs,x = .ref l/\y = .int k/\VP X.K H l xs/\xs≠[]/\1<=k/\k<2 ^ 63/\xs.length*k.toNat<=sizeLine/\(k=1->Q (.ref l) H)/\
 (2<=k->∀p,H p=none->Q (.ref p) (upd H p<|.tup (List.replicate k.toNat xs).flatten))):=by
 intro A s σ H x y v u Q I M N h;obtain⟨l,k,B,rfl,rfl,O,i,Y,Z,C,P,R⟩:=h;cases M;obtain⟨t,rfl⟩:=N;obtain⟨c,r,p,_⟩:=I.tuple O;have j:=r.length;have f:c.toArray.size*k.toNat<=sizeLine:=by rwa [zzH,<-j]
 have g:((c.toArray.size:Int)*k)=((c.toArray.size*k.toNat:Nat):Int):=by
  rw[zzV,zyY<|by omega]
 have D:c.toArray.isEmpty=false:=by
  cases c with
  |nil=>rw[List.length_nil]at j;exact absurd (List.length_eq_zero_iff.mp j) i
  |cons a r'=>rfl
 have d:List.foldl (λS V=>S++V) #[] (List.replicate k.toNat c.toArray)=(List.replicate k.toNat c).flatten.toArray:=by
  have:=foldl_rep c k.toNat [];exact this
 obtain⟨⟨cls,m,E,w⟩,e,G,n,J⟩:=id p;subst G J;refine wpAny_binaryOp_repeat_ref (by decide) ⟨_,e,rfl⟩ (λW=>typeIs_int W k t) Q5 F.fills_int_mul F.slot_int_rmul Ln F.slot_int_index.lookup
  (call_meets F.slot_int_rmul (typeIs_int s k t) F.entry_int_rmul (F.args_int_rmul_2 _ _) (TY k t l c.toArray n m w) ⟨e,rfl,⟨_,e,rfl⟩, ?_⟩)
 by_cases L:k=1
 . subst L;exact call_meets F.slot_tuple_mul ⟨_,e,rfl⟩ F.entry_tuple_mul ⋯ (MB l c.toArray n m w t) ⟨e,⟨.ref l,H,I,rfl,P rfl⟩⟩
 . have z:(List.replicate k.toNat B).flatten.length<=sizeLine:=by rwa [len_rep,Nat.mul_comm]
   refine call_meets F.slot_tuple_mul ⟨_,e,rfl⟩ F.entry_tuple_mul (F.args_tuple_mul_2 _ _) (N4 l c.toArray #[] n m w k t (by simp;omega) (by rw[D];simpa using L) (by rw[D];simp;omega) ?_ ?_ ?_) ⟨e, ?_⟩
   . rw[g];have:(sizeLine:Int)<=(2 ^ 63-1)/8:=by decide
     omega
   . unfold Builtin.Tuple.tupleTooMany;rw[g];simp only[gt_iff_lt,decide_eq_true_eq];omega
   . rw[d,zzH,len_rep,Nat.mul_comm];rw[zzH]at f;omega
   . rw[d];refine⟨.ref s.heap.objs.size,_,I.laid (t':=s.toks) (λb ob q=>zxF _ q) (zzN _) ?_,rfl,R (by omega) _<|I.hok.fresh<|zzN _⟩;exact⟨z,_,r.rep k.toNat,IsTup.new _ _⟩
def uB(op):t_ X kd (binaryOp op) (Yj op):=by
 intro pins s σ H x y v u Q I rx ry h;obtain⟨O,d,e,r,ht,vx,vy,he,q⟩:=h;cases op with
 |Add=>
  cases vx with
  |int i=>
   obtain⟨j,h1,he⟩:=bS_<|he;obtain⟨rfl,rfl⟩:=Xd vy h1;cases he;exact uA pins s σ H _ _ v u Q I rx ry ⟨_,_,rfl,rfl,yc q<|.int _⟩
  |str i=>
   obtain⟨j,h1,he⟩:=bS_<|he;obtain⟨rfl,rfl⟩:=tZ vy h1;obtain⟨c,rfl⟩:=zu he;exact Fy pins s σ H _ _ v u Q I rx ry ⟨_,_,rfl,rfl,c,yc q<|.str _⟩
  |lst hx rx'=>
   obtain⟨j,h1,he⟩:=bS_<|he;cases Q7 h1;obtain⟨c,rfl⟩:=zu he;cases vy with
   |lst hy ry'=>exact Jg pins s σ H _ _ v u Q I rx ry ⟨_,_,_,_,rfl,rfl,hx,hy,by rw[rx'.length,ry'.length];exact c,Ul q<|rx'.append ry'⟩
  | @tup a1 vs1 ds1 r1 hx rx'=>
   obtain⟨j,h1,he⟩:=bS_<|he;cases Oe h1;obtain⟨c,rfl⟩:=zu he;cases vy with
   |tup r2 hy ry'=>
    by_cases h0:vs1=([]:List V)
    . subst h0;cases rx';exact Jq pins s σ H _ _ v u Q I rx ry ⟨_,_,_,rfl,rfl,hx,hy,yc q r2⟩
    refine Di pins s σ H _ _ v u Q I rx ry ⟨_,_,_,_,rfl,rfl,hx,hy,h0,by rw[rx'.length,ry'.length];exact c,λhn=>?_,λhn=>Tj ht q<|rx'.append ry'⟩
    . subst hn;cases ry';rw[zyE]at q;exact yc q r1
  |_=>cases he
 |Sub=>
  obtain⟨i,j,rfl,rfl,he⟩:=Y2 vx vy he;cases he;exact tQ pins s σ H _ _ v u Q I rx ry ⟨_,_,rfl,rfl,yc q<|.int _⟩
 |Mult=>
  cases vx with
  |int i=>
   obtain⟨j,h1,he⟩:=bS_<|he;obtain⟨rfl,rfl⟩:=Xd vy h1;obtain⟨c,rfl⟩:=zu he;obtain⟨t,rfl⟩:=rx;obtain⟨t',rfl⟩:=ry;exact mul_int ⟨.int _,H,I.tok _,⟨_,rfl⟩,yc q<|.int _⟩ (c.elim (λc=>IntMulOk.of_bits (NV c.1)<|NV c.2) λc=>IntMulOk.of_right<|Av c)
  |lst hx rx'=>
   obtain⟨j,h1,he⟩:=bS_<|he;obtain⟨rfl,rfl⟩:=Xd vy h1;obtain⟨c,rfl⟩:=zu he;exact IY pins s σ H _ _ v u Q I rx ry ⟨_,_,_,rfl,rfl,hx,c.1,c.2.1,by rw[rx'.length];exact c.2.2,Ul q<|rx'.rep _⟩
  |tup r1 hx rx'=>
   obtain⟨j,h1,he⟩:=bS_<|he;obtain⟨rfl,rfl⟩:=Xd vy h1;obtain⟨c,rfl⟩:=zu he;refine Jd pins s σ H _ _ v u Q I rx ry ⟨_,_,_,rfl,rfl,hx,λe=>?_,c.1,c.2.1,by rw[rx'.length];exact c.2.2.2,λe=>?_,λ_=>Tj ht q<|rx'.rep _⟩
   . have:=rx'.length;rw[e]at this;exact c.2.2.1 this.symm
   . subst e;refine yc q ?_;rw[show(1:Int).toNat=1 from rfl,List.replicate_one,List.flatten_cons,List.flatten_nil,zyE];exact r1
  |_=>cases he
 |FloorDiv=>
  obtain⟨i,j,rfl,rfl,he⟩:=Y2 vx vy he;obtain⟨c,rfl⟩:=zu he;obtain⟨t,rfl⟩:=rx;obtain⟨t',rfl⟩:=ry;refine floordiv_int (by omega) ?_<|.inl<|PyProof.noPylong_of_log2 ?_
  . rw[Int.fdiv_eq_ediv_of_nonneg _<|by omega];exact⟨.int _,H,I.tok _,⟨_,rfl⟩,yc q<|.int _⟩
  . exact zzK ((Nat.log2_lt<|by have:=c.1;omega).mpr<|c.2) (by decide)
 |Mod=>
  obtain⟨i,j,rfl,rfl,he⟩:=Y2 vx vy he;obtain⟨c,rfl⟩:=zu he;exact uH pins s σ H _ _ v u Q I rx ry ⟨_,_,rfl,rfl,c,yc q<|.int _⟩
 |Pow=>
  obtain⟨i,j,rfl,rfl,he⟩:=Y2 vx vy he;obtain⟨c,rfl⟩:=zu he;exact uM pins s σ H _ _ v u Q I rx ry ⟨_,_,rfl,rfl,c,yc q<|.int _⟩
 |_=>cases he
end
noncomputable def DV(f:D->D->Option Bool):List D->List D->Option Bool
 | [],[]=>some true
 |x::r,y::t=>(f x y).bind λb=>(DV f r t).bind λc=>some (b&&c)
 |_,_=>some false
def YG:Nat->D->D->Option Bool
 |0,_,_=>none
 |_+1,.non,.non=>some true
 |_+1,.bl a,.bl b=>some (a==b)
 |_+1,.int a,.int b=>some (a==b)
 |_+1,.str a,.str b=>some (a==b)
 |_+1,.bl a,.int b=>some ((if a then 1 else 0)==b)
 |_+1,.int a,.bl b=>some (a==(if b then 1 else 0))
 |n+1,.lst xs,.lst ys=>DV (YG n) xs ys
 |n+1,.tup xs,.tup ys=>DV (YG n) xs ys
 |_+1,.dct _,_=>none
 |_+1,.cl _,_=>none
 |_+1,.ob _ _ _,_=>none
 |_+1,_,.dct _=>none
 |_+1,_,.cl _=>none
 |_+1,_,.ob _ _ _=>none
 |_+1,_,_=>some false
noncomputable def IQ(f:D->D->Option Bool)(xs ys:List D)(j:Nat):Bool:=match xs[j]?,ys[j]? with
 |some d,some e=>(f d e).getD false
 |_,_=>false
theorem TJ:∀{xs ys:List D}{b:Bool},DV f xs ys=some b->(∀(j:Nat) d e,xs[j]? = some d->ys[j]? = some e->∃c,f d e=some c)/\
 b=((List.range<|min xs.length ys.length).all (IQ f xs ys)&&xs.length==ys.length)
 | [],[],b,h=>by cases h;exact⟨λj d e h=>by simp at h,⋯⟩
 | [],y::t,b,h=>by cases h;exact⟨λj d e h=>by simp at h,⋯⟩
 |x::r,[],b,h=>by cases h;exact⟨λj d e _ h=>by simp at h,⋯⟩
 |x::r,y::t,b,h=>by
  obtain⟨b1,h1,h⟩:=bS_<|h;obtain⟨c1,h2,h⟩:=bS_ h;cases h;obtain⟨k1,k2⟩:=TJ h2;refine⟨λj d e hd he=>?_, ?_⟩
  . cases j with
    |zero=>simp at hd he;subst hd he;exact⟨b1,h1⟩
    |succ j=>exact k1 j d e ⋯ ⋯
  . have e0:min (x::r).length (y::t).length=min r.length t.length+1:=by simp only[zzT];omega
    rw[e0,List.range_succ_eq_map,List.all_cons,List.all_map,k2];have e1:IQ f (x::r) (y::t) 0=b1:=by show(f x y).getD false=b1;rw[h1];rfl
    have e2:(IQ f (x::r) (y::t)∘Nat.succ)=IQ f r t:=⋯;have e3:((x::r).length==(y::t).length)=(r.length==t.length):=⋯;rw[e1,e2,e3,Bool.and_assoc]
structure EqAll(A:Around)(s:Shared)(u v:Value)(b:Bool):Prop where
 rc:SeqAt.RcAt A s u v b
 ne:SeqAt.RcNeAt A s u v (!b)
 eq:SeqAt.EqAt A s u v b
section
variable{X:Cx}{kd:KD}{pins:List (Addr×Obj)}{σ:St}{H:Hp}{s:Shared}{O:Addr->Prop}
def BY(I:Inv X pins σ H s)(h:VP X.K H a xs)(h':X3 X.K H a ys):False:=by
 obtain⟨_,_,⟨o,e,c,_⟩,_⟩:=I.tuple h;obtain⟨_,_,⟨f,n,b,d,_⟩,_⟩:=I.list h';rw[e]at b;cases b;rw[c]at d;exact absurd d (by decide)
theorem Bj(I:Inv X pins σ H s):∀(n:Nat) (v:V) (d e:D) (b:Bool),Vw X.K kd O H v d->Vw X.K kd O H v e->YG n d e=some b->b=true
 |0,_,_,_,_,_,_,h=>by cases h
 |n+1,v,d,e,b,p,f,h=>by
  have lst:∀i (l m:List D) b,RpL X.K kd O H i l->RpL X.K kd O H i m->DV (YG n) l m=some b->b=true:=by
   intro i
   induction i with
   |nil=>intro l m b g a h;cases g;cases a;cases h;rfl
   |cons v i q=>
    intro l m b g a h;cases g with
    |cons r g=>
     cases a with
     | cons t a=>
            obtain⟨y,u,h⟩:=bS_<|h;obtain⟨z,w,h⟩:=bS_ h;cases h;rw[Bj I n _ _ _ _ r.vw t.vw u,q _ _ _ g a w];rfl
  cases p with
  |non=>cases f;cases h;rfl
  |bl x=>cases f;cases h;simp
  |int x=>cases f;cases h;simp
  |str x=>cases f;cases h;simp
  |tup g j o=>
   cases f with
   |tup a c k=>
    have:=I.tuple_inj j c;subst this;exact lst _ _ _ _ o k h
   |lst c k=>exact(BY I j c.sq).elim
   |_=>cases h
  |lst j o=>
   cases f with
   |tup a c k=>exact(BY I c j.sq).elim
   |lst c k=>
    have:=I.list_inj j.sq c.sq;subst this;exact lst _ _ _ _ o k h
   |_=>cases h
  |_=>cases h
theorem LM(I:Inv X pins σ H s):∀(n:Nat) (A:Around) (x y:V) (d e:D) (u v:Value) (b:Bool),A.units+n<cLine->Vw X.K kd O H x d->Vw X.K kd O H y e->RelV x u->RelV y v->YG n d e=some b->EqAll A s u v b
 |0,_,_,_,_,_,_,_,_,_,_,_,_,_,h=>by cases h
 |n+1,A,x,y,d,e,u,v,b,hu,h1,E,R,k,h=>by
  have f:A.units<cLine:=by omega
  have W:∀{vs ws:List V}{l g:List Value}{S T:List D},RpL X.K kd O H vs S->RpL X.K kd O H ws T->zU vs l->zU ws g->(∀(j:Nat) d e,S[j]? = some d->T[j]? = some e->∃c,YG n d e=some c)->
   ∀j h1 (E:j<g.toArray.size),SeqAt.EqAt A.in1 s l.toArray[j] g.toArray[j] (IQ (YG n) S T j):=by
   intro vs ws l g S T F q v1 v2 hd j j1 j2;have q1:j<S.length:=by rw[<-F.length,v1.length];simpa using j1
   have q2:j<T.length:=by rw[<-q.length,v2.length];simpa using j2
   obtain⟨L,ha1,ra1⟩:=F.get<|zzE q1;obtain⟨M,ha2,ra2⟩:=q.get<|zzE q2;obtain⟨u1,hu1,ru1⟩:=v1.get ha1;obtain⟨u2,hu2,ru2⟩:=v2.get ha2;obtain⟨c,hc⟩:=hd j _ _ (zzE q1)<|zzE q2;have e1:l.toArray[j]=u1:=by
    have:=(zzG.mp hu1).2;simpa using this
   have e2:g.toArray[j]=u2:=by
    have:=(zzG.mp hu2).2;simpa using this
   rw[e1,e2];have e3:IQ (YG n) S T j=c:=by
    unfold IQ;rw[zzE q1,zzE q2];show(YG n _ _).getD false=c;rw[hc];rfl
   rw[e3];exact(LM I n A.in1 L M _ _ u1 u2 c (by show A.units+1+n<cLine;omega) ra1.vw ra2.vw ru1 ru2 hc).eq
  have G:∀{a a':Addr},x = .ref a->y = .ref a'->a=a'->b=true:=by
   intro a a' e1 e2 e3;subst e1 e2 e3;exact Bj I (n+1) _ _ _ _ h1 E h
  cases h1 with
  |non=>
   cases R;cases E with
   |non=>cases k;cases h;exact⟨SeqAt.RcAt.none_none,SeqAt.RcNeAt.none_none,SeqAt.EqAt.same _⟩
   |bl=>cases k;cases h;exact⟨SeqAt.RcAt.none_bool _,SeqAt.RcNeAt.none_bool _,SeqAt.EqAt.none_bool _⟩
   |int=>obtain⟨t,rfl⟩:=k;cases h;exact⟨SeqAt.RcAt.none_int _ _,SeqAt.RcNeAt.none_int _ _,SeqAt.EqAt.none_int _ _⟩
   |str=>obtain⟨t,rfl⟩:=k;cases h;exact⟨SeqAt.RcAt.none_str _ _,SeqAt.RcNeAt.none_str _ _,SeqAt.EqAt.none_str _ _⟩
   |tup r o q=>
    cases k;cases h;obtain⟨l,J,p,_⟩:=I.tuple o;exact⟨SeqAt.RcAt.none_tuple p f,SeqAt.RcNeAt.none_tuple p f,SeqAt.EqAt.none_tuple p f⟩
   |lst o q=>
    cases k;cases h;obtain⟨l,J,p,_⟩:=I.list o.sq;exact⟨SeqAt.RcAt.none_list p.isList f,SeqAt.RcNeAt.none_list p.isList f,SeqAt.EqAt.none_list p.isList f⟩
   |_=>cases h
  |bl c=>
   cases R;cases E with
   |non=>cases k;cases h;exact⟨SeqAt.RcAt.bool_none _,SeqAt.RcNeAt.bool_none _,SeqAt.EqAt.bool_none _⟩
   |bl=>cases k;cases h;exact⟨SeqAt.RcAt.bool_bool _ _,SeqAt.RcNeAt.bool_bool _ _,SeqAt.EqAt.bool_bool _ _⟩
   |int=>obtain⟨t,rfl⟩:=k;cases h;exact⟨SeqAt.RcAt.bool_int _ _ _,SeqAt.RcNeAt.bool_int _ _ _,SeqAt.EqAt.bool_int _ _ _⟩
   |str=>obtain⟨t,rfl⟩:=k;cases h;exact⟨SeqAt.RcAt.bool_str _ _ _,SeqAt.RcNeAt.bool_str _ _ _,SeqAt.EqAt.bool_str _ _ _⟩
   |tup r o q=>
    cases k;cases h;obtain⟨l,J,p,_⟩:=I.tuple o;exact⟨SeqAt.RcAt.bool_tuple _ p f,SeqAt.RcNeAt.bool_tuple _ p f,SeqAt.EqAt.bool_tuple _ p f⟩
   |lst o q=>
    cases k;cases h;obtain⟨l,J,p,_⟩:=I.list o.sq;exact⟨SeqAt.RcAt.bool_list _ p.isList f,SeqAt.RcNeAt.bool_list _ p.isList f,SeqAt.EqAt.bool_list _ p.isList f⟩
   |_=>cases h
  |int c=>
   obtain⟨t0,rfl⟩:=R;cases E with
   |non=>cases k;cases h;exact⟨SeqAt.RcAt.int_none _ _,SeqAt.RcNeAt.int_none _ _,SeqAt.EqAt.int_none _ _⟩
   |bl=>cases k;cases h;exact⟨SeqAt.RcAt.int_bool _ _ _,SeqAt.RcNeAt.int_bool _ _ _,SeqAt.EqAt.int_bool _ _ _⟩
   |int=>obtain⟨t,rfl⟩:=k;cases h;exact⟨SeqAt.RcAt.int_int _ _ _ _,SeqAt.RcNeAt.int_int _ _ _ _,SeqAt.EqAt.int_int _ _ _ _⟩
   |str=>obtain⟨t,rfl⟩:=k;cases h;exact⟨SeqAt.RcAt.int_str _ _ _ _,SeqAt.RcNeAt.int_str _ _ _ _,SeqAt.EqAt.int_str _ _ _ _⟩
   |tup r o q=>
    cases k;cases h;obtain⟨l,J,p,_⟩:=I.tuple o;exact⟨SeqAt.RcAt.int_tuple _ _ p f,SeqAt.RcNeAt.int_tuple _ _ p f,SeqAt.EqAt.int_tuple _ _ p f⟩
   |lst o q=>
    cases k;cases h;obtain⟨l,J,p,_⟩:=I.list o.sq;exact⟨SeqAt.RcAt.int_list _ _ p.isList f,SeqAt.RcNeAt.int_list _ _ p.isList f,SeqAt.EqAt.int_list _ _ p.isList f⟩
   |_=>cases h
  |str c=>
   obtain⟨t0,rfl⟩:=R;cases E with
   |non=>cases k;cases h;exact⟨SeqAt.RcAt.str_none _ _,SeqAt.RcNeAt.str_none _ _,SeqAt.EqAt.str_none _ _⟩
   |bl=>cases k;cases h;exact⟨SeqAt.RcAt.str_bool _ _ _,SeqAt.RcNeAt.str_bool _ _ _,SeqAt.EqAt.str_bool _ _ _⟩
   |int=>obtain⟨t,rfl⟩:=k;cases h;exact⟨SeqAt.RcAt.str_int _ _ _ _,SeqAt.RcNeAt.str_int _ _ _ _,SeqAt.EqAt.str_int _ _ _ _⟩
   |str=>obtain⟨t,rfl⟩:=k;cases h;exact⟨SeqAt.RcAt.str_str _ _ _ _,SeqAt.RcNeAt.str_str _ _ _ _,SeqAt.EqAt.str_str _ _ _ _⟩
   |tup r o q=>
    cases k;cases h;obtain⟨l,J,p,_⟩:=I.tuple o;exact⟨SeqAt.RcAt.str_tuple _ _ p f,SeqAt.RcNeAt.str_tuple _ _ p f,SeqAt.EqAt.str_tuple _ _ p f⟩
   |lst o q=>
    cases k;cases h;obtain⟨l,J,p,_⟩:=I.list o.sq;exact⟨SeqAt.RcAt.str_list _ _ p.isList f,SeqAt.RcNeAt.str_list _ _ p.isList f,SeqAt.EqAt.str_list _ _ p.isList f⟩
   |_=>cases h
  | @tup L vs1 N r s1 F=>
   cases R;obtain⟨m,z,i,_⟩:=I.tuple s1;cases E with
   |non=>cases k;cases h;exact⟨SeqAt.RcAt.tuple_none i f,SeqAt.RcNeAt.tuple_none i f,SeqAt.EqAt.tuple_none i f⟩
   |bl=>cases k;cases h;exact⟨SeqAt.RcAt.tuple_bool _ i f,SeqAt.RcNeAt.tuple_bool _ i f,SeqAt.EqAt.tuple_bool _ i f⟩
   |int=>obtain⟨t,rfl⟩:=k;cases h;exact⟨SeqAt.RcAt.tuple_int _ _ i f,SeqAt.RcNeAt.tuple_int _ _ i f,SeqAt.EqAt.tuple_int _ _ i f⟩
   |str=>obtain⟨t,rfl⟩:=k;cases h;exact⟨SeqAt.RcAt.tuple_str _ _ i f,SeqAt.RcNeAt.tuple_str _ _ i f,SeqAt.EqAt.tuple_str _ _ i f⟩
   | @tup M vs2 P r' o q=>
    cases k;obtain⟨g,w,B,_⟩:=I.tuple o;obtain⟨k1,k2⟩:=TJ h;have Y:=W F q z w k1;have Z:((List.range<|min m.toArray.size g.toArray.size).all (IQ (YG n) N P)&&m.toArray.size==g.toArray.size)=b:=by
     rw[k2,zzH,zzH,<-z.length,<-w.length,F.length,q.length]
    have U:=SeqAt.RcAt.tuples i B f Y;have b2:=SeqAt.RcNeAt.tuples i B f Y;rw[Z]at U b2;refine⟨U,b2, ?_⟩
    by_cases Q:L=M
    . have hb:=G rfl rfl Q;subst Q;rw[hb];exact SeqAt.EqAt.same _
    . exact SeqAt.EqAt.of_refs Q U
   |lst o q=>
    cases k;cases h;obtain⟨l,J,p,_⟩:=I.list o.sq;exact⟨SeqAt.RcAt.tuple_list i p.isList f,SeqAt.RcNeAt.tuple_list i p.isList f,SeqAt.EqAt.tuple_list i p.isList f⟩
   |_=>cases h
  | @lst L vs1 N s1 F=>
   cases R;obtain⟨m,z,i,_⟩:=I.list s1.sq;cases E with
   |non=>cases k;cases h;exact⟨SeqAt.RcAt.list_none i.isList f,SeqAt.RcNeAt.list_none i.isList f,SeqAt.EqAt.list_none i.isList f⟩
   |bl=>cases k;cases h;exact⟨SeqAt.RcAt.list_bool _ i.isList f,SeqAt.RcNeAt.list_bool _ i.isList f,SeqAt.EqAt.list_bool _ i.isList f⟩
   |int=>obtain⟨t,rfl⟩:=k;cases h;exact⟨SeqAt.RcAt.list_int _ _ i.isList f,SeqAt.RcNeAt.list_int _ _ i.isList f,SeqAt.EqAt.list_int _ _ i.isList f⟩
   |str=>obtain⟨t,rfl⟩:=k;cases h;exact⟨SeqAt.RcAt.list_str _ _ i.isList f,SeqAt.RcNeAt.list_str _ _ i.isList f,SeqAt.EqAt.list_str _ _ i.isList f⟩
   |tup r' o q=>
    cases k;cases h;obtain⟨g,w,B,_⟩:=I.tuple o;exact⟨SeqAt.RcAt.list_tuple i.isList B f,SeqAt.RcNeAt.list_tuple i.isList B f,SeqAt.EqAt.list_tuple i.isList B f⟩
   | @lst M vs2 P o q=>
    cases k;obtain⟨g,w,B,_⟩:=I.list o.sq;obtain⟨k1,k2⟩:=TJ h;have Y:=W F q z w k1;have ez1:=zzH.trans<|z.length.symm.trans F.length;have ez2:=zzH.trans<|w.length.symm.trans q.length;have C:SeqAt.RcAt A s (.ref L) (.ref M) b/\SeqAt.RcNeAt A s (.ref L) (.ref M) (!b):=by
     by_cases hz:m.toArray.size=g.toArray.size
     . have U:=SeqAt.RcAt.lists i.isList B.isList hz f Y;have b2:=SeqAt.RcNeAt.lists i.isList B.isList hz f Y;have Z:(List.range m.toArray.size).all (IQ (YG n) N P)=b:=by
        rw[k2,<-ez1,<-ez2,<-hz,Nat.min_self];simp
       rw[Z]at U b2;exact⟨U,b2⟩
     . have hz':(m.toArray.size != g.toArray.size)=true:=by simpa using hz
       have Z:b=false:=by
        rw[k2,<-ez1,<-ez2];have:(m.toArray.size==g.toArray.size)=false:=by simpa using hz
        rw[this,Bool.and_false]
       rw[Z];exact⟨SeqAt.RcAt.lists_lengths i.isList B.isList hz' f,SeqAt.RcNeAt.lists_lengths i.isList B.isList hz' f⟩
    refine⟨C.1,C.2, ?_⟩
    by_cases Q:L=M
    . have hb:=G rfl rfl Q;subst Q;rw[hb];exact SeqAt.EqAt.same _
    . exact SeqAt.EqAt.of_refs Q C.1
   |_=>cases h
  |_=>cases h
end
structure DkAt(P:Program)(w:World)(h:Heap)(a:Addr)(kvs:List (Key×V)):Prop where
 le:kvs.length<=sizeLine
 ns:(a==sysModules)=false
 ex:∃vs,KV kvs vs/\h.DictOf (wI P w) a vs
structure KdOk(X:Cx)(kd:KD):Prop where
 inj:∀a k k',kd a k->kd a k'->k=k'
 inK:∀a k,kd a k->∃o,X.K.lookup a=some o
 at_:∀a k h,kd a k->X.K.In h->DkAt X.prog X.w h a k
section
variable{X:Cx}{kd:KD}{pins:List (Addr×Obj)}{σ:St}{H:Hp}{s:Shared}{O:Addr->Prop}
def PY(I:Inv X pins σ H s)(hk:KdOk X kd)(h:Rd H a (.dK kvs)\/kd a kvs):DkAt X.prog X.w s.heap a kvs:=by
 rcases h with h|h
 . obtain⟨z,hd,vs,rel,dd⟩:=qS I.hok h;exact⟨z,hd,vs,rel,dd⟩
 . exact hk.at_ _ _ _ h I.kIn
theorem IB(I:Inv X pins σ H s):∀(n:Nat) (v:V) (d e x:D) (b c:Bool),Vw X.K kd O H v d->Vw X.K kd O H v e->YG n d x=some b->YG n e x=some c->b=c
 |0,_,_,_,_,_,_,_,_,h,_=>by cases h
 |n+1,v,d,e,x,b,c,h1,h2,h,h'=>by
  have lst:∀vs (ds es xs:List D) (b c:Bool),RpL X.K kd O H vs ds->RpL X.K kd O H vs es->DV (YG n) ds xs=some b->DV (YG n) es xs=some c->b=c:=by
   intro vs
   induction vs with
   |nil=>intro ds es xs b c r1 r2 h h';cases r1;cases r2;exact zzZ (h.symm.trans h')
   |cons v vs ih=>
    intro ds es xs b c r1 r2 h h';cases r1 with
    |cons a1 r1=>
     cases r2 with
     | cons a2 r2=>
            cases xs with
            |nil=>cases h;cases h';rfl
            |cons x xs=>
             obtain⟨b1,k1,h⟩:=bS_<|h;obtain⟨c1,k2,h⟩:=bS_ h;obtain⟨b2,k3,h'⟩:=bS_<|h';obtain⟨c2,k4,h'⟩:=bS_ h';cases h;cases h';rw[IB I n _ _ _ _ _ _ a1.vw a2.vw k1 k3,ih _ _ _ _ _ r1 r2 k2 k4]
  cases h1 with
  |tup r1 s1 l1=>
   cases h2 with
   |tup r2 s2 l2=>
    have:=I.tuple_inj s1 s2;subst this;cases x with
    |tup xs=>exact lst _ _ _ _ _ _ l1 l2 h h'
    |_=>exact zzZ (h.symm.trans h')
   |lst s2 l2=>exact(BY I s1 s2.sq).elim
   |_=>cases h'
  |lst s1 l1=>
   cases h2 with
   |tup r2 s2 l2=>exact(BY I s2 s1.sq).elim
   |lst s2 l2=>
    have:=I.list_inj s1.sq s2.sq;subst this;cases x with
    |lst xs=>exact lst _ _ _ _ _ _ l1 l2 h h'
    |_=>exact zzZ (h.symm.trans h')
   |_=>cases h'
  |dct s1 l1=>cases h
  |cl=>cases h
  |ob=>cases h
  |_=>cases h2;exact zzZ<|h.symm.trans h'
end
noncomputable def Ac:D->Option Key
 | .int i=>some<|.inl i
 | .str x=>some (.inr x)
 |_=>none
noncomputable def QW(kvs:List (Key×D))(k:Key):Option D:=(kvs.find? λkv=>decide (kv.1=k)).map (·.2)
def LR{K O}(k)(h:RpM K kd O H vs ds):(∃v d,QY vs k=some v/\QW ds k=some d/\Rp K kd O H v d)\/(QY vs k=none/\QW ds k=none):=
 RpM.ind (P:=λvs ds=>(∃v d,QY vs k=some v/\QW ds k=some d/\Rp K kd O H v d)\/(QY vs k=none/\QW ds k=none)) (.inr ⟨rfl,rfl⟩) (λ{k' v d vs ds} a _ ih=>by
  by_cases e:k'=k
  . left;refine⟨_,_, ?_, ?_,a⟩
    . unfold QY;simp[e]
    . unfold QW;simp[e]
  . rcases ih with⟨v,d,h1,h2,h3⟩|⟨h1,h2⟩
    . left;refine⟨v,d, ?_, ?_,h3⟩
      . unfold QY at h1 ⊢;simpa[e]using h1
      . unfold QW at h2 ⊢;simpa[e]using h2
    . right;refine⟨?_, ?_⟩
      . unfold QY at h1 ⊢;simpa[e]using h1
      . unfold QW at h2 ⊢;simpa[e]using h2) h
noncomputable def anyF(f:D->Option Bool):List D->Option Bool
 | []=>some false
 |x::r=>(f x).bind λb=>(anyF f r).bind λc=>some (b||c)
noncomputable def D8(b:Bool):R0:=.im<|.bl b
def iq(x:D):D->Option Bool
 | .dct kvs=>(Ac x).bind λk=>some (QW kvs k).isSome
 |_=>none
def iqt(x:D):D->Option Bool
 | .tup ys=>anyF (λy=>YG 50 y x) ys
 |_=>none
noncomputable def jd:D->D->Option Bool
 |d,.non=>some (match d with | .non=>true|_=>false)
 |_,_=>none
def B9(f:Int->Int->Bool):D->D->Option R0:=Dv λi j=>some<|D8<|f i j
def zw(o:CmpOp)(d e:D):Option R0:=match o with
 | .Eq=>(YG 60 d e).bind λb=>some<|D8 b
 | .NotEq=>(YG 60 d e).bind λb=>some<|D8 !b
 | .Lt=>B9 (λi j=>decide (i<j)) d e
 | .LtE=>B9 (λi j=>decide (i<=j)) d e
 | .Gt=>B9 (λi j=>decide (j<i)) d e
 | .GtE=>B9 (λi j=>decide (j<=i)) d e
 | .In=>(iq d e).bind λb=>some<|D8 b
 | .NotIn=>(iqt d e).bind λb=>some<|D8 !b
 | .Is=>(jd d e).bind λb=>some<|D8 b
 | .IsNot=>(jd d e).bind λb=>some<|D8 !b
def W5{o:Option Bool}{f:Bool->Bool}(h:(o.bind λb=>some<|D8<|f b)=some r):∃k,r = .im (.bl k):=by
 obtain⟨b,_,h⟩:=bS_ h;cases h;exact⟨_,rfl⟩
def Pk(h:B9 f x y=some r):∃k,r = .im (.bl k):=by
 obtain⟨i,_,h⟩:=bS_<|h;obtain⟨j,_,h⟩:=bS_ h;cases h;exact⟨_,rfl⟩
def BZ(op:CmpOp)(x y:D)(r)(h:zw op x y=some r):∃k,r = .im (.bl k):=by
 cases op with
 |Eq=>exact W5 h
 |NotEq=>exact W5 h
 |Lt=>exact Pk h
 |LtE=>exact Pk h
 |Gt=>exact Pk h
 |GtE=>exact Pk h
 |In=>exact W5 h
 |NotIn=>exact W5 h
 |Is=>exact W5 h
 |IsNot=>exact W5 h
section
variable{X:Cx}{kd:KD}{pins:List (Addr×Obj)}{σ:St}{H:Hp}{s:Shared}{O:Addr->Prop}
noncomputable def Dx(K:zzA)(kd:KD)(O:Addr->Prop)(H:Hp)(n:Nat)(x:D)(u:Value):Bool:=@decide (∃v d,RelV v u/\Rp K kd O H v d/\YG n d x=some true)<|Classical.propDecidable _
def KW(I:Inv X pins σ H s)(hk:KdOk X kd){n:Nat}(r:RelV v u)(p:Rp X.K kd O H v d)(e:YG n d x=some b):Dx X.K kd O H n x u=b:=by
 cases b with
 |true=>exact @zyO _ (Classical.propDecidable _) ⟨v,d,r,p,e⟩
 |false=>
  refine @zyG _ (Classical.propDecidable _) λ⟨v',d',r',p',e'⟩=>?_;have:=r.inj r';subst this;exact Bool.noConfusion<|IB I n _ _ _ _ _ _ p.vw p'.vw e e'
def Pl(I:Inv X pins σ H s)(hk:KdOk X kd){n:Nat}(hv:zU vs us)(h:RpL X.K kd O H vs ds)(e:anyF (λy=>YG n y x) ds=some b):us.any (Dx X.K kd O H n x)=b:=
 RpL.ind (P:=λvs ds=>∀us b,zU vs us->anyF _ ds=some b->us.any _=b) (λus b hv e=>by cases e;cases hv;rfl) (λ{v d vs ds} a _ ih us b hv h=>by
  cases hv with
  |cons r t=>
   obtain⟨b1,h1,h⟩:=bS_<|h;obtain⟨c1,h2,h⟩:=bS_ h;cases h;rw[List.any_cons,KW I hk r a h1,ih _ _ t h2]) h us b hv e
theorem YT:∀{ds:List D}{b:Bool},anyF f ds=some b->∀d ∈ ds,∃c,f d=some c
 | [],_,_,d,hd=>by simp at hd
 |x::r,b,h,d,hd=>by
  obtain⟨b1,h1,h⟩:=bS_<|h;obtain⟨c1,h2,h⟩:=bS_ h
  rcases zzC.mp hd with e|e
  . subst e;exact⟨b1,h1⟩
  . exact YT h2 d e
def QG(I:Inv X pins σ H s)(hk:KdOk X kd){n:Nat}(hu:A.units+n<cLine)(vx:Vw X.K kd O H x d)(rx:RelV x v)(hv:zU vs us)(h:RpL X.K kd O H vs ds)(k:∀e ∈ ds,∃c,YG n e d=some c):∀u ∈ us,SeqAt.EqAt A s u v (Dx X.K kd O H n d u):=
 RpL.ind (P:=λvs ds=>∀us,zU vs us->(∀e ∈ ds,∃c,YG n e d=some c)->∀u ∈ us,SeqAt.EqAt A s u v<|Dx X.K kd O H n d u) (λus hv _ u hu=>by cases hv;simp at hu) (λa q ih us hv h u hm=>by
  cases hv with
  |cons r t=>
   rcases zzC.mp hm with e|e
   . subst e;obtain⟨c,hc⟩:=h _ zzF;rw[KW I hk r a hc];exact(LM I n A _ _ _ _ _ _ _ hu a.vw vx r rx hc).eq
   . exact ih _ t (λe he=>h e<|zzD _ he) u e) h us hv k
def Vz(hk:KdOk X kd)(hu:X.A.units+100<cLine)(op):t_ X kd (compareOp op) (zw op):=by
 intro pins s σ H x y v u Q I rx ry h;obtain⟨O,d,e,r,ht,vx,vy,he,q⟩:=h;cases op with
 |Eq=>
  obtain⟨b,h1,he⟩:=bS_<|he;cases he;exact(LM I 60 X.A x y d e v u b (q1o hu) vx vy rx ry h1).rc _ _ _ _ (wY I (yc q<|.bl _) rfl)
 |NotEq=>
  obtain⟨b,h1,he⟩:=bS_<|he;cases he;exact(LM I 60 X.A x y d e v u b (q1o hu) vx vy rx ry h1).ne _ _ _ _ (wY I (yc q<|.bl _) rfl)
 |Lt=>
  obtain⟨i,j,rfl,rfl,he⟩:=Y2 vx vy he;cases he;exact om pins s σ H _ _ v u Q I rx ry ⟨_,_,rfl,rfl,yc q<|.bl _⟩
 |LtE=>
  obtain⟨i,j,rfl,rfl,he⟩:=Y2 vx vy he;cases he;exact qp pins s σ H _ _ v u Q I rx ry ⟨_,_,rfl,rfl,yc q<|.bl _⟩
 |Gt=>
  obtain⟨i,j,rfl,rfl,he⟩:=Y2 vx vy he;cases he;exact nU pins s σ H _ _ v u Q I rx ry ⟨_,_,rfl,rfl,yc q<|.bl _⟩
 |GtE=>
  obtain⟨i,j,rfl,rfl,he⟩:=Y2 vx vy he;cases he;exact qB pins s σ H _ _ v u Q I rx ry ⟨_,_,rfl,rfl,yc q<|.bl _⟩
 |In=>
  obtain⟨b,h1,he⟩:=bS_<|he;cases he;cases vy with
  |dct hs rm=>
   cases ry;obtain⟨k,k1,h1⟩:=bS_ h1;cases h1;obtain⟨z,hd,vs,rel,dd⟩:=PY I hk hs;have ek:x=kV k:=by
    cases vx with
    |int i=>cases k1;rfl
    |str i=>cases k1;rfl
    |_=>cases k1
   subst ek;refine wpAny_in_of (Bg rx) hd dd.mapOf ?_;rw[<-(rel.val k).isSome_eq]
   rcases LR k rm with⟨v1,d1,e1,e2,_⟩|⟨e1,e2⟩
   . rw[e1];rw[e2]at q;exact wY (I.tok _) (yc q<|.bl _) rfl
   . rw[e1];rw[e2]at q;exact wY (I.tok _) (yc q<|.bl _) rfl
  |_=>cases h1
 |NotIn=>
  obtain⟨b,h1,he⟩:=bS_<|he;cases he;cases vy with
  |tup rp hs rl=>
   cases ry;obtain⟨its,rv,p,_⟩:=I.tuple hs;refine SeqAt.notIn_tupleAt _ p (λw hw=>QG I hk (by show X.A.units+1+50<cLine;exact q0d hu) vx rx rv rl (YT h1) w<|by simpa using hw) ?_;have:=Pl I hk rv rl h1;rw[show its.toArray.any _=b by rw[<-this];simp];exact wY (I) (yc q<|.bl _) rfl
  |_=>cases h1
 |Is=>
  obtain⟨b,h1,he⟩:=bS_<|he;cases he;cases vy with
  |non=>
   refine u_ pins s σ H _ _ v u Q I rx ry ⟨rfl, ?_⟩;have:decide (x=V.non)=b:=by cases vx<;>(cases h1;rfl)
   rw[this];exact yc q (.bl b)
  |_=>cases h1
 |IsNot=>
  obtain⟨b,h1,he⟩:=bS_<|he;cases he;cases vy with
  |non=>
   refine AH pins s σ H _ _ v u Q I rx ry ⟨rfl, ?_⟩;have:decide (x=V.non)=b:=by cases vx<;>(cases h1;rfl)
   rw[this];exact yc q (.bl _)
  |_=>cases h1
end
def Bx{K kd O H vs ds i d}(r:RpL K kd O H vs ds)(h:atI ds i=some d):∃v,atI vs i=some v/\Rp K kd O H v d:=by
 unfold atI at ⊢;obtain⟨j,a,b⟩:=bS_ h;rw[r.length,a];exact r.get b
noncomputable def Oj(o:Option D):Option R0:=o.bind λd=>some<|.im d
def zv(x y:D):Option R0:=match x with
 | .lst xs=>(BE y).bind λi=>Oj<|atI xs i
 | .tup xs=>(BE y).bind λi=>Oj<|atI xs i
 | .str x=>(BE y).bind λi=>if x.length<=sizeLine then(atI x.cps.toList i).bind λc=>some (.im<|.str ⟨#[c]⟩)else none
 | .dct kvs=>(Ac y).bind λk=>Oj (QW kvs k)
 |_=>none
def TH(h:Oj o=some r):∃d,o=some d/\r = .im d:=by
 obtain⟨d,a,b⟩:=bS_<|h;cases b;exact⟨d,a,rfl⟩
section
variable{X:Cx}{kd:KD}
def OQ{K O H x d k}(vx:Vw K kd O H x d)(e:Ac d=some k):x=kV k:=by
 cases vx with
 |int i=>cases e;rfl
 |str i=>cases e;rfl
 |_=>cases e
def jQ(hk:KdOk X kd):iX X kd zv:=by
 intro b f g s σ H x y v u Q I A B h C;obtain⟨O,d,e,r,U,P,D,a,q⟩:=h;cases P with
 |lst m E=>
  obtain⟨i,n,a⟩:=bS_<|a;obtain⟨rfl,rfl⟩:=Xd D n;obtain⟨d,l,rfl⟩:=TH a;obtain⟨w,p,j⟩:=Bx E l;exact JE b f g s σ H _ _ v u Q I A B ⟨_,_,_,w,rfl,rfl,m.sq,p,yc q j⟩ C
 |tup J m E=>
  obtain⟨i,n,a⟩:=bS_<|a;obtain⟨rfl,rfl⟩:=Xd D n;obtain⟨d,l,rfl⟩:=TH a;obtain⟨w,p,j⟩:=Bx E l;exact rN b f g s σ H _ _ v u Q I A B ⟨_,_,_,w,rfl,rfl,m,p,yc q j⟩ C
 |str z=>
  obtain⟨i,n,a⟩:=bS_<|a;obtain⟨rfl,rfl⟩:=Xd D n;obtain⟨R,a⟩:=ite_some' a;obtain⟨c,l,a⟩:=bS_ a;cases a;exact rA b f g s σ H _ _ v u Q I A B ⟨_,_,c,rfl,rfl,R,l,yc q<|.str _⟩ C
 |dct m S=>
  obtain⟨k,l,a⟩:=bS_<|a;obtain⟨d,K,rfl⟩:=TH a;cases A;obtain⟨z,V,T,G,L⟩:=PY I hk m;have:=OQ D l;subst this
  rcases LR k S with⟨M,W,N,t,J⟩|⟨N,t⟩
  . rw[K]at t;cases t;obtain⟨Y,p,j⟩:=Qg.some_of (by rw[<-N];exact G.val k);exact tail_any L.typeIs PySem.F.slot_dict_getitem.lookup (wpAny_getItem_of (Bg B) L.mapOf p ⟨M,H,I.tok _,j,yc q J⟩) C
  . rw[K]at t;cases t
 |_=>cases a
def cutD(xs:List D)(lo hi:Option Int):List D:=(xs.drop<|HT.sIx xs.length 0 lo).take<|HT.sIx xs.length xs.length hi-HT.sIx xs.length 0 lo
def By{K O H vs ds}(r:RpL K kd O H vs ds)(lo hi):RpL K kd O H (SZ vs lo hi) (cutD ds lo hi):=by
 unfold SZ;rw[r.length];exact(r.drop _).take _
def YF(x:D)(lo hi:Option Int):Option R0:=match x with
 | .lst xs=>some<|.fl<|cutD xs lo hi
 | .tup xs=>if HT.sIx xs.length 0 lo=0/\HT.sIx xs.length xs.length hi=xs.length then none else some (.im<|.tup<|cutD xs lo hi)
 |_=>none
abbrev OF:=AS->Option (Option Int×AS)
noncomputable def oN:OF:=λas=>some (none,as)
def oS(f:EF):OF:=λas=>(f as).bind λp=>(i_ p.1).bind λi=>some (some i,p.2)
def Yk(fa:EF)(fl fh:OF)(g:D->Option Int->Option Int->Option R0):EF:=λas=>(fa as).bind λp=>(fl p.2).bind λl=>(fh l.2).bind λh=>(p.1.frz.view h.2).bind λx=>(g x.1 l.1 h.1).bind λr=>(wrap x.2 r).bind λz=>some (z,h.2)
def gy(K:zzA)(kd:KD)(f:OF):TO:=λσ H Q=>∃F B ad as o as',Rel K kd F B [] ad as σ H/\f as=some (o,as')/\
 ∀ad' H',Rel K kd F B [] ad' as' σ H'->Grow (Gw [] ad) H (Gw [] ad') H'->Q o H'
@[irreducible] def AO(X:Cx)(kd:KD)(e:Option Expr)(f:OF):Prop:=PO X e<|gy X.K kd f
def CK(h:PO X e t)(k:∀σ H Q,t' σ H Q->t σ H Q):PO X e t':=λa s σ H Q I q=>h a s σ H Q I<|k σ H Q q
def xZ:AO X kd none oN:=by with_unfolding_all exact(CK IW λσ H Q h=>by
 obtain⟨F,B,a,as,o,b,R,e,q⟩:=h;cases e;exact q a H R Grow.refl)
def tR{K F B T ad σ H v st c}(h:xy K kd F B T ad σ H v (.ow<|.lf st<|.int c)):T=[]/\v = .int c:=by
 cases h with
 |lf a=>cases a;exact ⋯
def yq{a fa}(ha:AE X kd a fa):AO X kd (some a) (oS fa):=by with_unfolding_all exact(CK (A5 ha) λσ H Q h=>by
 obtain⟨F,B,d,as,o,f,R,e,q⟩:=h;obtain⟨⟨p,g⟩,j,e⟩:=bS_<|e;obtain⟨i,k,e⟩:=bS_ e;obtain⟨r,rfl⟩:=uz k;cases e;refine⟨F,B,d,as,_,_,R,j,λv s b l m c n=>?_⟩;obtain⟨rfl,rfl⟩:=tR c;exact⟨i,rfl,q b l m n⟩)
def jk:ll X (λx lo hi H Q=>∃O d r,(∀a,O a->H a≠none)/\Vw X.K kd O H x d/\YF d lo hi=some r/\RQ X.K kd O H Q r):=by
 intro b s σ H x v j k e f l Q I m n o p h;obtain⟨O,d,r,t,u,c,q⟩:=h;cases u with
 |lst i g=>cases c;exact Ax b s σ H _ v j k e f l Q I m n o p ⟨_,_,rfl,i.sq,Ul q<|By g e f⟩
 |tup y i g=>
  have c:(if _ then none else some _:Option R0)=_:=c
  split at c
  . cases c
  . rename_i w;cases c;exact uw b s σ H _ v j k e f l Q I m n o p ⟨_,_,rfl,i,by rw[g.length];exact w,Tj t q<|By g e f⟩
 |_=>cases c
def yy{a lo hi fa fl fh pos p2}(ha:AE X kd a fa)(hl:AO X kd lo fl)(hh:AO X kd hi fh):AE X kd (.Subscript a (.Slice lo hi none p2) pos) (Yk fa fl fh YF):=by with_unfolding_all exact(yn (O9 jk ha hl hh) λσ H Q h=>by
 obtain⟨F,B,O,as,r,s,R,e,q⟩:=h;obtain⟨⟨p,c⟩,t,e⟩:=bS_<|e;obtain⟨⟨l,b⟩,x,e⟩:=bS_ e;obtain⟨⟨u,y⟩,A,e⟩:=bS_ e;obtain⟨⟨d,P⟩,C,e⟩:=bS_ e;obtain⟨D,E,e⟩:=bS_ e;obtain⟨z,G,e⟩:=bS_ e;cases e;refine vU R t λv f S I g J=>⟨F,B,f,c,l,b,I,x,λi T R2 n=>⟨F,B,i,b,u,_,R2,A,λj U k o=>?_⟩⟩;exact⟨_,d,D,k.tr _,xy.vw k ((g.grow n).grow o) C,E,ZS k G λw K L M m N=>q w K j L M m<|((J.trans n).trans o).trans N⟩)
noncomputable def GJ:D->Option R0
 | .int i=>some (.im<|.int (-i))
 |_=>none
def AL:iR X kd (unaryOp .USub) GJ:=by
 intro a s σ H x v Q I c h;obtain⟨O,d,r,f,e,b,q⟩:=h;cases e with
 |int i=>cases b;exact uk a s σ H _ v Q I c ⟨i,rfl,yc q<|.int _⟩
 |_=>cases b
noncomputable def ni:D->String
 | .non=>"NoneType" | .bl _=>"bool" | .int _=>"int" | .str _=>"str" | .tup _=>"tuple" | .lst _=>"list" | .dct _=>"dict"|_=>""
noncomputable def AN:D->Bool
 | .cl _=>false | .ob _ _ _=>false|_=>true
noncomputable def F0(t c:String):Bool:=t==c||(t=="bool"&&c=="int")
noncomputable def QM(c:String):Bool:=c=="int"||c=="bool"||c=="str"||c=="list"||c=="tuple"||c=="dict"
def uu(K)(d)(c)(h:QM c=true)(ho:AN d=true):W.kitOne K (.type<|ni d) (.type c)=some (F0 (ni d) c):=by
 have:c="int"\/c="bool"\/c="str"\/c="list"\/c="tuple"\/c="dict":=by
  unfold QM at h;simp at h
  rcases h with((((h|h)|h)|h)|h)|h<;>simp[h]
 rcases this with rfl|rfl|rfl|rfl|rfl|rfl<;>cases d<;>first|rfl|cases ho
def sf(hk:KdOk X kd){pins σ H s O A E Q c x u d}(I:Inv X pins σ H s)(rx:RelV x u)(vx:Vw X.K kd O H x d)(hc:QM c=true)(ho:AN d=true)
 (h:∀tk,Q (.bool<|F0 (ni d) c) {s with toks:=tk}):wpAny (model X.prog X.w) A (call (.builtin "isinstance") [u,.type c]) Q E s:=by
 have e:=uu X.K d c hc ho;cases vx with
 |non=>cases rx;exact W.kia_one W.kitx_none I.kIn True.intro e ⋯ h
 |bl y=>cases rx;exact W.kia_one W.kitx_bool I.kIn True.intro e ⋯ h
 |int i=>obtain⟨t,rfl⟩:=rx;exact W.kia_one W.kitx_int I.kIn True.intro e ⋯ h
 |str y=>obtain⟨t,rfl⟩:=rx;exact W.kia_one W.kitx_str I.kIn True.intro e ⋯ h
 |lst a j=>
  cases rx;obtain⟨g,k,⟨o,n,b,f,_⟩,_⟩:=I.list a.sq;exact W.kia_one W.kitx_list I.kIn ⟨o,b,f⟩ e ⋯ h
 |tup m a j=>
  cases rx;obtain⟨g,k,⟨o,b,f,_⟩,_⟩:=I.tuple a;exact W.kia_one W.kitx_tuple I.kIn ⟨o,b,f⟩ e ⋯ h
 |dct a p=>
  cases rx;obtain⟨z,q,r,l,⟨o,v,B,b,f,_⟩⟩:=PY I hk a;exact W.kia_one W.kitx_dict I.kIn ⟨o,b,f.1⟩ e ⋯ h
 |cl=>cases ho
 |ob=>cases ho
end
noncomputable def X8:List D->Option (List Int)
 | []=>some []
 | .int i::r=>(X8 r).bind λs=>some (i::s)
 |_::_=>none
noncomputable def mS:List Int->Int
 | []=>0
 |x::r=>r.foldl (λa b=>if a<b then b else a) x
noncomputable def qx:List Int->Int
 | []=>0
 |x::r=>r.foldl (λa b=>if b<a then b else a) x
theorem Kg:∀(r:List Int) (x:Int),r.foldl (λa b=>if a<b then b else a) x ∈ x::r/\∀a ∈ x::r,a<=r.foldl (λa b=>if a<b then b else a) x
 | [],x=>⋯
 |y::r,x=>by
  rw[List.foldl_cons];obtain⟨h1,h2⟩:=Kg r _;refine⟨?_,λa ha=>?_⟩
  . rcases zzC.mp h1 with e|e
    . rw[e];split<;>simp
    . exact zzD _<|zzD _ e
  . have h3:=h2 _ zzF
    rcases zzC.mp ha with e|e
    . subst e;exact Int.le_trans ⋯ h3
    . rcases zzC.mp e with e|e
      . subst e;exact Int.le_trans ⋯ h3
      . exact h2 a<|zzD _ e
theorem Kh:∀(r:List Int) (x:Int),r.foldl (λa b=>if b<a then b else a) x ∈ x::r/\∀a ∈ x::r,r.foldl (λa b=>if b<a then b else a) x<=a
 | [],x=>⋯
 |y::r,x=>by
  rw[List.foldl_cons];obtain⟨h1,h2⟩:=Kh r _;refine⟨?_,λa ha=>?_⟩
  . rcases zzC.mp h1 with e|e
    . rw[e];split<;>simp
    . exact zzD _<|zzD _ e
  . have h3:=h2 _ zzF
    rcases zzC.mp ha with e|e
    . subst e;exact Int.le_trans h3 ⋯
    . rcases zzC.mp e with e|e
      . subst e;exact Int.le_trans h3 ⋯
      . exact h2 a<|zzD _ e
def Ja(h1:M ∈ ns)(h2:∀a ∈ ns,a<=M):mS ns=M:=by
 cases ns with
 |nil=>simp at h1
 |cons x r=>
  obtain⟨k1,k2⟩:=Kg r x;have a1:=k2 M h1;have a2:=h2 _ k1;show r.foldl _ x=M;exact q1y a2 a1
def Aw(h1:M ∈ ns)(h2:∀a ∈ ns,M<=a):qx ns=M:=by
 cases ns with
 |nil=>simp at h1
 |cons x r=>
  obtain⟨k1,k2⟩:=Kh r x;have a1:=k2 M h1;have a2:=h2 _ k1;show r.foldl _ x=M;exact q1y a1 a2
noncomputable def tV(f:D->Option R0)(ds:List D):Option R0:=match ds with
 | [x]=>f x
 |_=>none
def Ue{K O}(vl:VwL K kd O H xs ds)(h:tV f ds=some r):∃x d,xs=[x]/\Vw K kd O H x d/\f d=some r:=by
 cases vl with
 |nil=>cases h
 |cons a b=>
  cases b with
  |nil=>exact⟨_,_,rfl,a,h⟩
  |cons _ _=>cases h
def Dd:D->Option R0
 | .lst ds=>some<|.im<|.int ds.length
 | .tup ds=>some<|.im<|.int ds.length
 | .str x=>if x.length<=sizeLine then some (.im<|.int x.length)else none
 | .dct kvs=>some (.im<|.int kvs.length)
 |_=>none
def y4:List D->Option R0:=tV Dd
noncomputable def kU:D->Option R0
 | .int i=>some<|.im<|.int i
 | .bl b=>some (.im<|.int (if b then 1 else 0))
 |_=>none
noncomputable def tupP:List D->Option R0
 | [.lst ds]=>some<|.im<|.tup ds
 | [.tup ds]=>some (.im<|.tup ds)
 |_=>none
noncomputable def kG:D->Option R0
 | .lst ds=>some<|.fl ds
 | .tup ds=>some (.fl ds)
 |_=>none
def lstP:List D->Option R0:=tV kG
noncomputable def dctP:List D->Option R0
 | [.dct kvs]=>some (.fd kvs)
 |_=>none
def Rc(ds:List D):Option R0:=match ds with
 | [x,y]=>Dv (λi j=>some<|.im<|.int (if j > i then j else i)) x y
 | [x]=>(uo x).bind λds=>(X8 ds).bind λns=>if 0<ns.length then some (.im<|.int<|mS ns)else none
 |_=>none
def Gq:List D->Option R0
 | [.int i,.int j]=>some<|.im<|.int (if j<i then j else i)
 | [.lst ds]=>(X8 ds).bind λns=>if 0<ns.length then some (.im<|.int<|qx ns)else none
 |_=>none
noncomputable def Jr:List D->Option R0
 | [.int i]=>some (.im<|.int (if i<0 then -i else i))
 |_=>none
def V6{K O}(h:VwL K kd O H xs [d]):∃x,xs=[x]/\Vw K kd O H x d:=by
 cases h with
 |cons a b=>cases b;exact⟨_,rfl,a⟩
def F2{K O}(h:VwL K kd O H xs [d,e]):∃x y,xs=[x,y]/\Vw K kd O H x d/\Vw K kd O H y e:=by
 cases h with
 |cons a b=>
  cases b with
  |cons b c=>cases c;exact⟨_,_,rfl,a,b⟩
def N3{K O}(h:RpL K kd O H vs ds)(e:X8 ds=some ns):vs=ns.map V.int:=
 RpL.ind (P:=λvs ds=>∀ns,X8 ds=some ns->vs=ns.map V.int) (λns e=>by cases e;rfl) (λ{v d vs ds} a _ ih ns e=>by
  cases d with
  |int i=>
   obtain⟨s,h1,h2⟩:=bS_<|e;cases h2;cases a;rw[ih _ h1];rfl
  |_=>cases e) h ns e
section
variable{X:Cx}{kd:KD}
def yr(hk:KdOk X kd):Z_ X kd (.builtin "len") y4:=by
 intro pins s σ H xs us Q I r h;obtain⟨O,ds,z,ht,vl,he,q⟩:=h;obtain⟨x,d,rfl,vx,he⟩:=Ue vl he;cases vx with
 |lst hr rl=>cases he;exact Qq pins s σ H _ us Q I r ⟨_,_,rfl,.inl hr.sq,by rw[rl.length];exact yc q<|.int _⟩
 |tup rp hr rl=>cases he;exact Qq pins s σ H _ us Q I r ⟨_,_,rfl,.inr hr,by rw[rl.length];exact yc q<|.int _⟩
 |str y=>
  obtain⟨c,rfl⟩:=zu he;exact Nm pins s σ H _ us Q I r ⟨_,rfl,c,yc q<|.int _⟩
 |dct hr rm=>
  cases he;obtain⟨u,rfl,ru⟩:=vals1 r;cases ru;obtain⟨z,hd,vs,rel,dd⟩:=PY I hk hr;refine call_len_dict hd dd (by rw[<-rel.length];rw[sizeLine_eq]at z;omega) ?_;rw[<-rel.length,rm.length];exact⟨.int _,H,I.tok _,⟨_,rfl⟩,yc q<|.int _⟩
 |_=>cases he
def G4:Z_ X kd (.type "tuple") tupP:=by
 intro pins s σ H xs us Q I r h;obtain⟨O,ds,z,ht,vl,he,q⟩:=h;unfold tupP at he
 split at he
 . cases he;obtain⟨x,rfl,vx⟩:=V6 vl;cases vx with
   |lst hr rl=>exact Vi pins s σ H _ us Q I r ⟨_,_,rfl,.inl ⟨hr.sq,Tj ht q rl⟩⟩
 . cases he;obtain⟨x,rfl,vx⟩:=V6 vl;cases vx with
   |tup rp hr rl=>exact Vi pins s σ H _ us Q I r ⟨_,_,rfl,.inr ⟨hr,yc q rp⟩⟩
 . cases he
def Kj:Z_ X kd (.type "list") lstP:=by
 intro pins s σ H xs us Q I r h;obtain⟨O,ds,z,ht,vl,he,q⟩:=h;obtain⟨x,d,rfl,vx,he⟩:=Ue vl he;cases vx with
 |lst hr rl=>cases he;exact QK pins s σ H _ us Q I r ⟨_,_,rfl,.inl hr.sq,Ul q rl⟩
 |tup rp hr rl=>cases he;exact QK pins s σ H _ us Q I r ⟨_,_,rfl,.inr hr,Ul q rl⟩
 |_=>cases he
def B3(hk:KdOk X kd):Z_ X kd (.type "dict") dctP:=by
 intro pins s σ H xs us Q I r h;obtain⟨O,ds,z,ht,vl,he,q⟩:=h;unfold dctP at he
 split at he
 . cases he;obtain⟨x,rfl,vx⟩:=V6 vl;cases vx with
   |dct hr rm=>
    obtain⟨u,rfl,ru⟩:=vals1 r;cases ru;obtain⟨z,hd,vs,rel,dd⟩:=PY I hk hr;refine kt_call_dict hd dd (by rwa [<-rel.length]) λh' dd' hs=>?_;refine⟨.ref _,_,(I.laid (t':=s.toks) (λb q hq=>?_) (zzN _)<|Iy z (beq_eq_false_iff_ne.mpr<|Ne.symm<|zzQ I.big) rel dd'),rfl,CV q rm _<|I.hok.fresh<|zzN _⟩;exact(hs.2 b<|zzQ<|zxG hq).trans<|zxF _ hq
 . cases he
def SQ:Z_ X kd (.builtin "abs") Jr:=by
 intro pins s σ H xs us Q I r h;obtain⟨O,ds,z,ht,vl,he,q⟩:=h;unfold Jr at he
 split at he
 . cases he;obtain⟨x,rfl,vx⟩:=V6 vl;cases vx;exact CG pins s σ H _ us Q I r ⟨_,rfl,yc q<|.int _⟩
 . cases he
def W6(hc:X.calm=true):Z_ X kd (.builtin "max") Rc:=by
 intro pins s σ H xs us Q I r h;obtain⟨O,ds,z,ht,vl,he,q⟩:=h;cases vl with
 |nil=>cases he
 |cons vx vl=>
  cases vl with
  |nil=>
   obtain⟨ds,h0,he⟩:=bS_<|he;cases Q7 h0;obtain⟨ns,h1,he⟩:=bS_ he;obtain⟨c,rfl⟩:=zu he;cases vx with
   |lst hr rl=>
    obtain⟨u,rfl,ru⟩:=vals1 r;cases ru;obtain⟨its,rv,p,_⟩:=I.list hr.sq;rw[N3 rl h1]at rv;have hi:=intsAre_of rv;obtain⟨ys,e⟩:=hi.allInts.items;have hns:ns=ys.toList.map (·.1):=by rw[<-hi.numsOf,<-nums_intItems,<-e]
    have hsz:0<ys.size:=by
     have h3:=c;rwa [hns,zzB]at h3
    have hl:=p.isList;rw[e]at hl;refine max_intList (I.ok.hd hc) hl hsz λv h' tk hv kp=>?_;obtain⟨t,rfl⟩:=intItems_at hv;obtain⟨k1,k2⟩:=argBest_gt (numAt ys)<|ys.size-1;refine⟨.int _,H,I.kept kp,⟨t, ?_⟩,yc q<|.int _⟩
    congr 1
    refine(Ja ?_ λa ha=>?_).symm
    . rw[hns,numAt_eq];have hlt:argBest (λi j=>decide (numAt ys i > numAt ys j)) (ys.size-1)<(ys.toList.map (·.1)).length:=by rw[zzB,zyT];exact q1b hsz k1
      rw[zyF,zzE hlt];exact List.getElem_mem hlt
    . rw[hns]at ha;obtain⟨j,hj,rfl⟩:=List.getElem_of_mem ha;have hj':=hj;rw[zzB,zyT]at hj;have:=k2 j ⋯
      rwa [numAt_eq ys j,zyF,zzE hj']at this
  |cons vy vl=>
   cases vl with
   |nil=>
    obtain⟨i,j,rfl,rfl,he⟩:=Y2 vx vy he;cases he;exact SN hc pins s σ H _ us Q I r ⟨_,_,rfl,yc q<|.int _⟩
   |cons _ _=>cases he
def G_(hc:X.calm=true):Z_ X kd (.builtin "min") Gq:=by
 intro pins s σ H xs us Q I r h;obtain⟨O,ds,z,ht,vl,he,q⟩:=h;unfold Gq at he
 split at he
 . cases he;obtain⟨x,y,rfl,vx,vy⟩:=F2 vl;cases vx;cases vy;exact SH hc pins s σ H _ us Q I r ⟨_,_,rfl,yc q<|.int _⟩
 . obtain⟨ns,h1,he⟩:=bS_ he;obtain⟨c,rfl⟩:=zu he;obtain⟨x,rfl,vx⟩:=V6 vl;cases vx with
   |lst hr rl=>
    obtain⟨u,rfl,ru⟩:=vals1 r;cases ru;obtain⟨its,rv,p,_⟩:=I.list hr.sq;rw[N3 rl h1]at rv;have hi:=intsAre_of rv;obtain⟨ys,e⟩:=hi.allInts.items;have hns:ns=ys.toList.map (·.1):=by rw[<-hi.numsOf,<-nums_intItems,<-e]
    have hsz:0<ys.size:=by
     have h3:=c;rwa [hns,zzB]at h3
    have hl:=p.isList;rw[e]at hl;refine min_intList (I.ok.hd hc) hl hsz λv h' tk hv kp=>?_;obtain⟨t,rfl⟩:=intItems_at hv;obtain⟨k1,k2⟩:=argBest_lt (numAt ys)<|ys.size-1;refine⟨.int _,H,I.kept kp,⟨t, ?_⟩,yc q<|.int _⟩
    congr 1
    refine(Aw ?_ λa ha=>?_).symm
    . rw[hns,numAt_eq];have hlt:argBest (λi j=>decide (numAt ys i<numAt ys j)) (ys.size-1)<(ys.toList.map (·.1)).length:=by rw[zzB,zyT];exact q1b hsz k1
      rw[zyF,zzE hlt];exact List.getElem_mem hlt
    . rw[hns]at ha;obtain⟨j,hj,rfl⟩:=List.getElem_of_mem ha;have hj':=hj;rw[zzB,zyT]at hj;have:=k2 j ⋯
      rwa [numAt_eq ys j,zyF,zzE hj']at this
 . cases he
end
noncomputable def Z6(env:Env):List (Str×NameKind)->List (Str×Addr)->List (Str×Addr)
 | [],cs=>cs
 |(n,k)::r,cs=>Z6 env r (if k == .free then((n,(env.cells.lookup n).getD 0)::cs)else cs)
def Vp(h:∀x ∈ scope.names,x.2 = .free->∃c,env.cells.lookup x.1=some c):closureFor scope env=pure (Z6 env scope.names []):=by
 have s:∀b i f,
  (∀d g i,f (d,g) i=if g == .free then(do let a <-cellOf env d;pure (.yield ((d,a)::i)))else pure<|.yield i)->
  (∀x ∈ b,x.2 = .free->∃c,env.cells.lookup x.1=some c)->(forIn b i f:Sem _)=pure (Z6 env b i):=by
  intro b
  induction b with
  |nil=>intro i f _ _;rfl
  |cons x r p=>
   intro i f l m;obtain⟨n,k⟩:=x;rw[List.forIn_cons,l];unfold Z6
   by_cases j:(k == .free)=true
   . obtain⟨c,q⟩:=m _ zzF (by simpa using j);rw[if_pos j,if_pos j];have e:cellOf env n=pure c:=by unfold cellOf;rw[q]
     rw[e,q];exact p _ f l λy o=>m y<|zzD _ o
   . rw[if_neg j,if_neg j];exact p _ f l λy o=>m y<|zzD _ o
 simp only[closureFor];rw[s scope.names [] _ (λd g i=>?_) h]
 . rfl
 . rfl
theorem Kz:∀(names:List (Str×NameKind)) (cs:List (Str×Addr)) (p:Str×Addr),p ∈ Z6 env names cs->p ∈ cs\/((p.1,NameKind.free) ∈ names/\p.2=(env.cells.lookup p.1).getD 0)
 | [],_,_,h=>.inl h
 |(n,k)::r,b,p,h=>by
  rcases Kz r _ p h with h|h
  . by_cases a:(k == .free)=true
    . rw[if_pos a]at h
      rcases zzC.mp h with e|h
      . subst e;have:k = .free:=by simpa using a
        subst this;exact .inr ⟨zzF,rfl⟩
      . exact .inl h
    . rw[if_neg a]at h;exact .inl h
  . exact .inr ⟨zzD _ h.1,h.2⟩
theorem Tq:∀(names:List (Str×NameKind)) (cs:List (Str×Addr)) (p:Str×Addr),p ∈ cs->p ∈ Z6 env names cs
 | [],_,_,h=>h
 |_::r,a,p,h=>by
  refine Tq r _ p ?_
  split
  . exact zzD _ h
  . exact h
theorem G2:∀(names:List (Str×NameKind)) (cs:List (Str×Addr)) (x:Str),(x,NameKind.free) ∈ names->(x,(env.cells.lookup x).getD 0) ∈ Z6 env names cs
 |_::r,a,x,h=>by
  rcases zzC.mp h with e|h
  . cases e;exact Tq r _ _ ⋯
  . exact G2 r _ x h
theorem Yx:∀{l:List (Str×α)},(∀p ∈ l,p.1=x->p.2=a)->(∃b,(x,b) ∈ l)->l.lookup x=some a
 | [],_,h=>by obtain⟨_,h⟩:=h;cases h
 |(k,v)::r,u,h=>by
  rw[List.lookup_cons];cases hb:x==k with
  |true=>
   have:=u _ zzF (beq_iff_eq.mp hb).symm;exact congrArg some this
  |false=>
   refine Yx (λp c=>u p<|zzD _ c) ?_;obtain⟨b,h⟩:=h
   rcases zzC.mp h with e|h
   . cases e;simp at hb
   . exact⟨b,h⟩
theorem Ur:∀(names:List (Str×NameKind)) (h:Heap) (acc:List (Str×Addr)) (p:Str×Addr),p ∈ cellsFrom h.objs.size names acc->
 p ∈ acc\/((p.1,NameKind.cell) ∈ names/\(pushCells h names).IsCell p.2 none/\h.objs.size<=p.2)
 | [],_,_,_,m=>.inl m
 |(n,k)::r,h,b,p,m=>by
  unfold cellsFrom at m;unfold pushCells
  split at m
  . rename_i a;rw[if_pos a];have e:(h.push {cls:=.type "cell",data:=.cell none}).objs.size=h.objs.size+1:=zxJ ..;rw[<-e]at m
    rcases Ur r _ _ p m with m|⟨c,d,f⟩
    . rcases zzC.mp m with g|m
      . subst g;have:k = .cell:=by simpa using a
        subst this;refine .inr ⟨zzF, ?_,zzN _⟩;have z:(h.push {cls:=.type "cell",data:=.cell none}).IsCell h.objs.size none:=⟨_,zxH _ rfl,rfl⟩;exact z.keeps<|pushCells_keeps r _
      . exact .inl m
    . exact .inr ⟨zzD _ c,d,by rw[e]at f;omega⟩
  . rename_i a;rw[if_neg a]
    rcases Ur r h b p m with m|⟨c,d,f⟩
    . exact .inl m
    . exact .inr ⟨zzD _ c,d,f⟩
theorem Y4:∀(names:List (Str×NameKind)) (n:Nat) (acc:List (Str×Addr)) (p:Str×Addr),p ∈ acc->p ∈ cellsFrom n names acc
 | [],_,_,_,m=>m
 |_::r,n,a,p,m=>by
  unfold cellsFrom
  split
  . exact Y4 r _ _ p<|zzD _ m
  . exact Y4 r _ _ p m
theorem Uy:∀(names:List (Str×NameKind)) (n:Nat) (acc:List (Str×Addr)) (x:Str),(x,NameKind.cell) ∈ names->∃c,(x,c) ∈ cellsFrom n names acc
 |_::r,n,a,x,m=>by
  unfold cellsFrom
  rcases zzC.mp m with e|m
  . cases e;exact⟨n,Y4 r _ _ _ zzF⟩
  . split
    . exact Uy r _ _ x m
    . exact Uy r _ _ x m
theorem Uw:∀(names:List (Str×NameKind)) (n:Nat) (acc:List (Str×Addr)),(∀p ∈ acc,p.2<n)->(∀p ∈ acc,∀q ∈ acc,p.2=q.2->p.1=q.1)->∀p ∈ cellsFrom n names acc,∀q ∈ cellsFrom n names acc,p.2=q.2->p.1=q.1
 | [],_,_,_,h=>h
 |_::r,n,c,b,h=>by
  unfold cellsFrom
  split
  . refine Uw r _ _ (λp m=>?_) λp m q a e=>?_
    . rcases zzC.mp m with z|m
      . subst z;exact Nat.lt_succ_self _
      . exact zyZ<|b p m
    . rcases zzC.mp m with z|m
      . rcases zzC.mp a with d|a
        . rw[z,d]
        . subst z;have:=b q a;rw[<-e]at this;exact absurd this ⋯
      . rcases zzC.mp a with d|a
        . subst d;have:=b p m;rw[e]at this;exact absurd this ⋯
        . exact h p m q a e
  . exact Uw r n c b h
section
variable{M:Model}{A:Around}{E:Value->Shared->Prop}{s:Shared}
noncomputable def WS(scope:Scope)(env:Env)(cl:List (Str×Addr))(L:Addr):Env:=
 {scope:=relabel scope env,locals:=L,globals:=env.globals,cells:=cellsFrom (L+1) scope.names cl,qual:=env.qual,func:=none,code:=env.code,frame:=env.frame,builtins:=env.builtins}
def Li
 (h:∀h' env',{env' with scope:=relabel scope env}=WS scope env cl s.heap.objs.size->env'.locals=s.heap.objs.size->(∀b o,s.heap.get? b=some o->h'.get? b=some o)->h'.Ns s.heap.objs.size (λ_=>none)->
  (∀p ∈ cellsFrom (s.heap.objs.size+1) scope.names cl,p ∈ cl\/((p.1,NameKind.cell) ∈ scope.names/\h'.IsCell p.2 none/\s.heap.objs.size+1<=p.2))->Q env' {s with heap:=h'}):
 wpAny M A (newFunctionEnv scope env.globals cl [] env.qual none .none<|some env) Q E s:=by
 simp only[newFunctionEnv,Option.isSome_some,if_true];refine zxD<|wpAny_alloc ?_;refine zxD<|wpAny_layCells _ ⋯ _ _ _ _ ?_;have e:(s.heap.push {cls:=.type "dict",data:=.dict #[]}).objs.size=s.heap.objs.size+1:=zxJ ..;refine zxD<|zxE<|zxE<|h _ _ ?_ rfl (λb o q=>pushCells_keeps _ _ b o<|zxF _ q) ((Heap.Ns.new s.heap _).keeps<|pushCells_keeps _ _) λp m=>?_
 . unfold WS;rw[<-e]
 . rw[<-e]at m
   rcases Ur _ _ _ p m with m|⟨g,i,f⟩
   . exact .inl m
   . exact .inr ⟨g,i,by rwa [e]at f⟩
end
abbrev yW(X:Cx)(N:List Str)(scope:Scope)(cl:List (Str×Addr))(s:Shared)(H:Hp)(fp:List Addr):Cx:=
 {X with N:=N,s₀:=s,H₀:=H,env:=WS scope X.env cl<|s.heap.objs.size+1,outer:=X.stack,ex:=fp,fn:=λx=>scope.names.lookup x==some .cell,pn:=[],xe:=λ_ _=>False}
noncomputable def n6(σ:St):Option Nat->Option V
 |none=>none
 |some j=>(σ[j]?).getD none
def ZL(cap:List (Option Nat))(σ:St):St:=cap.map<|n6 σ
noncomputable def Vn(N XN:List Str)(names:List (Str×NameKind))(envNames:List (Str×NameKind))(cap:List (Option Nat)):Bool:=
 N.length==cap.length&&(N.zip cap).all (λp=>match p.2 with|none=>true|some j=>XN[j]? == some p.1&&names.contains (p.1,NameKind.free)) &&
 names.all (λp=>p.2 != .free||envNames.lookup p.1==some .cell||envNames.lookup p.1==some .free)&&decide (names.map (·.1)).Nodup
def Ho(X:Cx)(ifs:List Expr)(t:TT):Prop:=
 ∀(pins:List (Addr×Obj)) (s:Shared) (σ:St) (H:Hp) (Q:Bool->Hp->Prop),Inv X pins σ H s->t σ H Q->
  wpAny (model X.prog X.w) X.A (forIn ifs true λc r=>if r=true then do let ok <-isTrue c X.env (eval c X.env);pure (ForInStep.yield ok)else pure<|ForInStep.yield r) (TP X pins σ Q) X.xe s
def J_:Ho X [] (λ_ H Q=>Q true H):=λa s σ H Q I h=>wpAny_tests_nil ⟨H,I,h⟩
def Ah(h:PT X c t):Ho X [c] t:=λa s σ H Q I q=>wpAny_tests_one<|h a s σ H Q I q
def C3(wi:TI)(cap:List (Option Nat))(g:TG)(tt:TT)(te:TE):TE:=λσ H Q=>wi σ H λJ H1=>∃W:Nat->Nat->List V->Hp->Prop,(∃m,W 0 m [] H1)/\∀i m ys H,W i m ys H->ys.length<=sizeLine/\
 ((J.stop i H/\∀p,H p=none->Q (.ref p) (upd H p<|.lst ys))\/(J.go i H/\∀x H',J.yld i H x H'->g x (ZL cap σ) H' λσ2 H2=>(∀(j:Nat) v,(ZL cap σ)[j]? = some (some v)->σ2[j]? = some (some v))/\
   tt σ2 H2 λb H3=>if b=true then ys.length<sizeLine/\te σ2 H3 λy H4=>∃m',m'<m/\W (i+1) m' (ys++[y]) H4 else ∃m',m'<m/\W (i+1) m' ys H3))
section
variable{prog:Program}{w:World}{A:Around}{E:Value->Shared->Prop}{R:Result->Shared->Prop}{s:Shared}
def Nl(I:Nat->Shared->Prop)
 (turn:∀n s (E:Value->Shared->Prop),I n s->wpAny (model prog w) A (pyNext it) (λr s₁=>match r with
  |none=>R (.ok .next) s₁
  |some v=>wpAny (model prog w) A (letOwnedTupleGo target it v) (λ_ s₁=>wpAny (model prog w) A (assign target env v) (λ_ s₂=>
   wpAny (model prog w) A (forIn ifs true λc r=>if r=true then do let ok <-isTrue c env (eval c env);pure (ForInStep.yield ok)else pure<|ForInStep.yield r) (λok s₃=>
            if ok=true then wpAny (model prog w) A (eval elt env) (λx s₄=>
             wpAny (model prog w) A (call (.builtin "list.append") [acc,x]) (λ_ s₅=>∃m,m<n/\I m s₅) E s₄) E s₃
            else ∃m,m<n/\I m s₃) E s₂) E s₁) E s₁) E s)
 (n:Nat) (h:I n s):
 codeAny (model prog w) A (.compLoop (.ListComp elt [⟨target,iter,ifs,0⟩] scope pos) 0 it acc env) R s:=by
 refine codeAny_loop rfl I (λn s e=>?_) n h;refine wpAny_noted ?_;rw[compTurn_list];refine zxD<|wpAny_standAt<|zxD<|zxK (turn n s _ e) (λr f b=>?_) λ_ _ a=>a;cases r with
 |none=>exact zxE b
 |some v=>
  refine zxD<|zxK b (λ_ f b=>?_) λ_ _ a=>a;refine zxD<|zxK b (λ_ k g=>zxD<|zxK g (λok l d=>?_) λ_ _ a=>a) λ_ _ a=>a;cases ok with
  |false=>exact zxE ⟨rfl,d⟩
  |true=>
   exact zxD<|zxD<|zxK d (λx o i=>zxD<|zxK i (λ_ p j=>zxE<|zxE ⟨rfl,j⟩) λ_ _ a=>a) λ_ _ a=>a
end
structure CapOk(N XN:List Str)(names:List (Str×NameKind))(envNames:List (Str×NameKind))(cap:List (Option Nat)):Prop where
 len:N.length=cap.length
 at_:∀(i:Nat) x (j:Nat),N[i]? = some x->cap[i]? = some (some j)->XN[j]? = some x/\(x,NameKind.free) ∈ names
 fr:∀p ∈ names,p.2 = .free->envNames.lookup p.1=some .cell\/envNames.lookup p.1=some .free
 nd:(names.map (·.1)).Nodup
def Mu(h:Vn N XN names envNames cap=true):CapOk N XN names envNames cap:=by
 unfold Vn at h;simp only[zyC,beq_iff_eq,List.all_eq_true,decide_eq_true_eq]at h;obtain⟨⟨⟨a,b⟩,c⟩,d⟩:=h;refine⟨a,λi x j f g=>?_,λp k e=>?_,d⟩
 . have m:(x,some j) ∈ N.zip cap:=zyA (by rw[List.getElem?_zip_eq_some];exact⟨f,g⟩);have:=b _ m;simp at this;exact ⋯
 . have:=c p k;rw[e]at this;simpa using this
def NA{names:List (Str×NameKind)}(h:(names.map (·.1)).Nodup)(m:(x,k) ∈ names)(m':(x,k') ∈ names):k=k':=by
 induction names with
 |nil=>cases m
 |cons p r ih=>
  obtain⟨h1,h2⟩:=zzW.mp<|h
  rcases zzC.mp m with e|m
  . rcases zzC.mp m' with e'|m'
    . rw[<-e]at e';cases e';rfl
    . exact absurd (zxB.mpr ⟨_,m',by rw[<-e]⟩) h1
  . rcases zzC.mp m' with e'|m'
    . exact absurd (zxB.mpr ⟨_,m,by rw[<-e']⟩) h1
    . exact ih h2 m m'
def QZ{names:List (Str×NameKind)}(h:(names.map (·.1)).Nodup)(m:(x,k) ∈ names):names.lookup x=some k:=
 Yx (λp a e=>by cases(e);exact NA h a m) ⟨k,m⟩
def Wd(x):(relabel scope env).names.lookup x=(scope.names.lookup x).map λk=>if(k == .free&&env.scope.kind == .function&&env.kindOf x==some .cell)=true then NameKind.cell else k:=by
 unfold relabel;generalize scope.names=a
 induction a with
 |nil=>rfl
 |cons p r b=>
  obtain⟨n,k⟩:=p;rw[List.lookup_cons];cases hb:x==n with
  |true=>
   have e:=beq_iff_eq.mp hb;subst e;show List.lookup x ((if _=true then _ else _)::_)=_;show _=some (if _=true then NameKind.cell else k)
   split
   . rw[List.lookup_cons,hb]
   . rw[List.lookup_cons,hb]
  |false=>
   show List.lookup x ((if _=true then _ else _)::_)=_
   split
   . rwa [List.lookup_cons,hb]
   . rwa [List.lookup_cons,hb]
def Ef(I:Inv X pins σ H s)(C:CapOk N X.N scope.names X.env.scope.names cap)(hk:scope.kind = .function)
 (hf:∀b ∈ fp,RG X pins H b) (ho:∀b ∈ fp,∃o,s.heap.get? b=some o)
 (old:∀b o,s.heap.get? b=some o->h'.get? b=some o) (ns:h'.Ns (s.heap.objs.size+1) (λ_=>none))
 (hc:∀p ∈ cellsFrom (s.heap.objs.size+1+1) scope.names (Z6 X.env scope.names []),p ∈ Z6 X.env scope.names []\/((p.1,NameKind.cell) ∈ scope.names/\h'.IsCell p.2 none/\s.heap.objs.size+1+1<=p.2)):
 Inv (yW X N scope (Z6 X.env scope.names []) s H fp) [] (ZL cap σ) H {s with heap:=h'}:=by
 have has:∀x,(x,NameKind.free) ∈ scope.names->∃c,X.env.cells.lookup x=some c:=λx m=>I.ok.has x<|C.fr _ m rfl;have clo:∀p ∈ Z6 X.env scope.names [],X.env.cells.lookup p.1=some p.2/\(p.1,NameKind.free) ∈ scope.names:=λp m=>by
  rcases Kz _ _ p m with z|⟨z1,z2⟩
  . cases z
  . obtain⟨c,e⟩:=has _ z1;rw[e]at z2;exact⟨by rw[e];exact congrArg some z2.symm,z1⟩
 have look:∀x c,(cellsFrom _ scope.names _).lookup x=some c->_\/_:=λx c e=>by
  rcases hc _ (mem_of_lookup e)with m|m
  . exact .inl<|clo _ m
  . exact .inr m
 have lt:∀x c,X.env.cells.lookup x=some c->c<s.heap.objs.size:=λx c e=>by obtain⟨v,z⟩:=I.cell x c e;exact z.lt
 have lookF:∀x,(x,NameKind.free) ∈ scope.names->∃c,(cellsFrom _ scope.names _).lookup x=some c/\X.env.cells.lookup x=some c:=λx m=>by
  obtain⟨c,e⟩:=has x m;have m1:=Y4 scope.names (s.heap.objs.size+1+1) _ _<|G2 (env:=X.env) scope.names [] x m;refine⟨c,Yx (λp hp ep=>?_) ⟨_,m1⟩,e⟩
  rcases hc p hp with z|z
  . have:=(clo p z).1;rw[ep,e]at this;exact(zzZ this).symm
  . rw[ep]at z;exact absurd (NA C.nd z.1 m) (by decide)
 have kinds:∀x,((relabel scope X.env).names.lookup x=some .cell\/(relabel scope X.env).names.lookup x=some .free)->(x,NameKind.free) ∈ scope.names\/(x,NameKind.cell) ∈ scope.names:=λx h=>by
  rw[Wd]at h;cases e:scope.names.lookup x with
  |none=>rw[e]at h;rcases h with h|h<;>cases h
  |some k=>
   have m:=mem_of_lookup e;cases k with
   |free=>exact .inl m
   |cell=>exact .inr m
   |_=>rw[e]at h;rcases h with h|h<;>(simp at h)
 have lsz:=ns.lt;refine⟨⟨I.ok.mod,hk,I.ok.glob,I.ok.blt,zyW _, ?_, ?_, ?_,I.ok.hd,I.ok.frames,.inl rfl, ?_,I.bs,zzO I.ok.bsz I.sz, ?_, ?_,I.stack,I.stkFree⟩,rfl,I.bare,(Un.kept old),⟨_,ns, ?_⟩, ?_,I.hok.fresh<|zyW _, ?_,(λ_ z=>nomatch z),I.hok.kept old, ?_⟩
 . intro x y c e1 e2;refine Uw scope.names _ _ (λp m=>?_) (λp m q m' e=>?_) (x,c) (mem_of_lookup e1) (y,c) (mem_of_lookup e2) rfl
   . exact zyZ<|zyZ<|lt _ _ (clo p m).1
   . refine I.ok.inj _ _ _ (clo p m).1 ?_;rw[e];exact(clo q m').1
 . intro x h
   rcases kinds x h with m|m
   . obtain⟨c,e,_⟩:=lookF x m;exact⟨c,e⟩
   . obtain⟨c,e⟩:=Uy scope.names _ _ x m;cases q:(cellsFrom _ scope.names _).lookup x with
     |some c'=>exact⟨c',q⟩
     |none=>
      exfalso;have:=List.lookup_eq_none_iff.mp q (x,c) e;simp at this
 . intro x c hx e;have hx:=hx;have m:=mem_of_lookup<|beq_iff_eq.mp hx
   rcases look x c e with z|z
   . exact absurd (NA C.nd z.2 m) (by decide)
   . exact zzO (zzO (zyW _)<|zyW _) z.2.2
 . intro b hb;obtain⟨o,e⟩:=ho b hb;refine⟨zzQ<|zyZ<|zxG e,λx c ec=>?_⟩
   rcases look x c ec with z|z
   . exact(hf b hb).2.2.2.2.1 x c z.1
   . have:=zxG e;intro q;subst q;exact absurd (zzK this<|zzO (zzO (zyW _)<|zyW _) z.2.2)<|Nat.lt_irrefl _
 . intro b o e hb
   rcases(hf b hb).2.2.2.1 with z|z
   . exact I.ok.noex b o e z
   . exact absurd (zzK (zxG e)<|zzO I.ok.bsz z)<|Nat.lt_irrefl _
 . intro b hb hm
   rcases zzC.mp (I.stkSub b hm)with z|z
   . exact(hf b hb).2.1 z
   . exact(hf b hb).2.2.1 z
 . intro i x v e1 e2 e3;have e2:=e2;unfold ZL at e2;rw[zzI]at e2;cases ec:cap[i]? with
   |none=>rw[ec]at e2;cases e2
   |some c=>
    cases c with
    |none=>rw[ec]at e2;cases e2
    |some j=>
     rw[ec]at e2;have e2:(σ[j]?).getD none=some v:=zzZ e2;obtain⟨xn,m⟩:=C.at_ i x j e1 ec;have es:σ[j]? = some (some v):=by
      cases q:σ[j]? with
      |none=>rw[q]at e2;cases e2
      |some y=>rw[q]at e2;exact congrArg some e2
     have kf:=C.fr _ m rfl;obtain⟨mm,hn,hl⟩:=I.loc;obtain⟨u,r,l⟩:=hl j x v xn es (by rcases kf with k|k;exact .inr<|.inl k;exact .inr<|.inr k);refine⟨u,r,.inr ⟨?_, ?_⟩⟩
     . show(relabel scope X.env).names.lookup x=some .cell\/(relabel scope X.env).names.lookup x=some .free;rw[Wd,QZ C.nd m];show some (if _ then _ else _)=_\/some (if _ then _ else _)=_
       split
       . exact .inl rfl
       . exact .inr rfl
     . obtain⟨c,ec,eo⟩:=lookF x m;refine⟨c,ec, ?_⟩
       rcases l with⟨k1,_⟩|⟨_,c2,e4,z⟩
       . have k1:X.env.scope.names.lookup x=some .local:=k1
         rcases kf with k|k<;>(rw[k1]at k;cases k)
       . rw[eo]at e4;cases e4;exact z.keeps old
 . intro x c e
   rcases look x c e with z|z
   . obtain⟨v,q⟩:=I.cell x c z.1;exact⟨v,q.keeps old⟩
   . exact⟨none,z.2.1⟩
 . intro x c e
   rcases look x c e with z|z
   . exact I.freeC x c z.1
   . exact I.hok.fresh<|zzO (zzO (zyW _)<|zyW _) z.2.2
 . show _=_;unfold ZL;rw[zzB,C.len]
noncomputable abbrev lobj(its:List Value):Obj:={cls:=.type "list",data:=.seq its.toArray its.length}
section
variable{X:Cx}{pins:List (Addr×Obj)}{σ:St}{H2:Hp}{s2:Shared}{elt tg iter:Expr}{ifs:List Expr}{scope:Scope}{pos:Pos}{N:List Str}{cap:List (Option Nat)}{g:TG}{tt:TT}{te:TE}{wi:TI}
set_option maxHeartbeats 1000000
def Gi{Q:VK}{R:Value->Addr->Result->Shared->Prop}
 (hc:X.calm=true) (C:CapOk N X.N scope.names X.env.scope.names cap) (hk:scope.kind = .function)
 (hg:∀cl s H fp,PG (yW X N scope cl s H fp) tg g) (ht:∀cl s H fp,Ho (yW X N scope cl s H fp) ifs tt) (he:∀cl s H fp,PE (yW X N scope cl s H fp) elt te)
 (I2:Inv X pins σ H2 s2) (T:Turn X.prog X.w X.K tg J fp it tn) (st2:tn 0 s2.heap) (f2:∀b ∈ fp,RG X pins H2 b)
 (W:Nat->Nat->List V->Hp->Prop) (m0:Nat) (w0:W 0 m0 [] H2)
 (turn:∀i m ys H,W i m ys H->ys.length<=sizeLine/\((J.stop i H/\∀p,H p=none->Q (.ref p) (upd H p<|.lst ys))\/(J.go i H/\∀x H',J.yld i H x H'->g x (ZL cap σ) H' λσ2 H2=>(∀(j:Nat) v,(ZL cap σ)[j]? = some (some v)->σ2[j]? = some (some v))/\
  tt σ2 H2 λb H3=>if b=true then ys.length<sizeLine/\te σ2 H3 λy H4=>∃m',m'<m/\W (i+1) m' (ys++[y]) H4 else ∃m',m'<m/\W (i+1) m' ys H3)))
 (fin:∀ys H3 s1 m,Inv X pins σ (upd H3 s2.heap.objs.size<|.lst ys) s1->s1.heap.Ns (s2.heap.objs.size+1) m->RG X pins (upd H3 s2.heap.objs.size<|.lst ys) (s2.heap.objs.size+1)->
  Q (.ref s2.heap.objs.size) (upd H3 s2.heap.objs.size<|.lst ys)->R (.ref s2.heap.objs.size) (s2.heap.objs.size+1) (.ok .next) s1):
 wpAny (model X.prog X.w) X.A (newList []) (λacc s₃=>wpAny (model X.prog X.w) X.A (newFunctionEnv scope X.env.globals (Z6 X.env scope.names []) [] X.env.qual none .none<|some X.env) (λcenv s₄=>
  codeAny (model X.prog X.w) X.A (.compStart (.ListComp elt [⟨tg,iter,ifs,0⟩] scope pos) 0 (.ref it) acc {cenv with scope:=relabel scope X.env}) (R acc cenv.locals) s₄) E s₃) E s2:=by
 refine wpAny_newObj_type<|Li λh' env' eE eL old hns hcells=>?_;have e1:(s2.heap.push {cls:=.type "list",dict:=none,data:=.seq ([]:List Value).toArray}).objs.size=s2.heap.objs.size+1:=zxJ ..;dsimp only at eE eL old hns hcells;rw[e1]at eE eL hns hcells;have hD0:(s2.heap.push {cls:=.type "list",dict:=none,data:=.seq ([]:List Value).toArray}).get? s2.heap.objs.size=some (lobj []):=zxH _ rfl;have hD:=old _ _ hD0;have old':∀b o,s2.heap.get? b=some o->h'.get? b=some o:=λb o q=>old b o<|zxF _ q;have fex:∀b ∈ fp,∃o,s2.heap.get? b=some o:=λb hb=>by obtain⟨o,e,_⟩:=T.obj _ _ st2 b hb;exact⟨o,e⟩
 have flt:∀b ∈ fp,b<s2.heap.objs.size:=λb hb=>by obtain⟨o,e⟩:=fex b hb;exact zxG e
 have I':=Ef I2 C hk f2 fex old' hns hcells;rw[eE,eL];generalize hX:yW X N scope (Z6 X.env scope.names []) s2 H2 fp=X' at I';have xP:X'.prog=X.prog:=by rw[<-hX]
 have xw:X'.w=X.w:=by rw[<-hX]
 have xK:X'.K=X.K:=by rw[<-hX]
 have xA:X'.A=X.A:=by rw[<-hX]
 have xe:X'.env=WS scope X.env (Z6 X.env scope.names []) (s2.heap.objs.size+1):=by rw[<-hX]
 have xL:X'.env.locals=s2.heap.objs.size+1:=by rw[xe];rfl
 have xfs:X'.fs=Hr X.stack:=by rw[<-hX]
 have xex:X'.ex=fp:=by rw[<-hX]
 have xs:X'.s₀=s2:=by rw[<-hX]
 have xH:X'.H₀=H2:=by rw[<-hX]
 have xpn:X'.pn=[]:=by rw[<-hX]
 have xc:X'.calm=true:=by rw[<-hX];exact hc
 have xE:X'.xe=λ_ _=>False:=by rw[<-hX]
 have hg':PG X' tg g:=by rw[<-hX];exact hg _ _ _ _
 have ht':Ho X' ifs tt:=by rw[<-hX];exact ht _ _ _ _
 have he':PE X' elt te:=by rw[<-hX];exact he _ _ _ _
 have H2D:=I2.hok.fresh<|zzN _;have Dfs:s2.heap.objs.size ∉ X'.fs:=by
  rw[xfs];intro hm
  rcases zzC.mp (I2.stkSub _ hm)with z|z
  . exact absurd I2.lt (by rw[<-z];exact Nat.lt_irrefl _)
  . exact I2.nofs (zzN _) z
 have DL:s2.heap.objs.size≠X'.env.locals:=by rw[xL];exact zzQ<|Nat.lt_succ_self _
 have pinD:∀{σ':St}{H':Hp}{s':Shared}{its:List Value}{ps:List (Addr×Obj)},Inv X' ps σ' H' s'->s'.heap.get? s2.heap.objs.size=some (lobj its)->H' s2.heap.objs.size=none->Inv X' [(s2.heap.objs.size,lobj its)] σ' H' s':=λI e n=>
  I.pins_of λp hp=>by
   cases zzR.mp hp;exact⟨e,n,DL,Dfs,λv z=>by cases z⟩
 have stat:∀{H':Hp}{its:List Value},(∀b ∈ fp,H' b=none)->∀b ∈ fp,RG X' [(s2.heap.objs.size,lobj its)] H' b:=λhn b hb=>by
  refine⟨hn b hb, ?_, ?_,.inl (by rw[xex];exact hb),(I'.ok.exf b<|by rw[xex];exact hb).2,λp hp=>?_⟩
  . exact(I'.ok.exf b<|by rw[xex];exact hb).1
  . exact I'.ok.exfs b (by rw[xex];exact hb)
  . rw[xpn,List.nil_append]at hp;cases zzR.mp hp;exact Nat.ne_of_gt<|flt b hb
 have loop:∀n s',(∃i ys its H3,Inv X' [(s2.heap.objs.size,lobj its)] (ZL cap σ) H3 s'/\tn i s'.heap/\(∀b ∈ fp,H3 b=none)/\zU ys its/\W i n ys H3)->
  codeAny (model X.prog X.w) X.A (.compLoop (.ListComp elt [⟨tg,iter,ifs,0⟩] scope pos) 0 (.ref it) (.ref s2.heap.objs.size)<|WS scope X.env (Z6 X.env scope.names [])<|s2.heap.objs.size+1)
   (R (.ref s2.heap.objs.size)<|s2.heap.objs.size+1) s':=by
  intro n s' h0;refine Nl (λn s'=>∃i ys its H3,Inv X' [(s2.heap.objs.size,lobj its)] (ZL cap σ) H3 s'/\tn i s'.heap/\(∀b ∈ fp,H3 b=none)/\zU ys its/\W i n ys H3) ?_ n h0;clear h0 n s'
  rintro n s3 E' ⟨i,ys,its,H3,I3,st3,fr3,rv3,w3⟩
  obtain⟨hz,hstep⟩:=turn i n ys H3 w3
  rcases hstep with⟨stop,qn⟩|⟨go,step⟩
  . have:=T.done X' xP xw xK xc i _ s3 _ H3 E' I3 (stat fr3) st3 stop;rw[xA]at this;refine zxK this (λr s4 ⟨hr,I4⟩=>?_) λ_ _ z=>z;subst hr;obtain⟨gD,nD,_⟩:=I4.pin (s2.heap.objs.size,lobj its) (by rw[xpn];simp);obtain⟨m,hn,_⟩:=I4.loc;rw[xL]at hn;have b4:=I4.base;rw[xfs,xex,xH,xs]at b4;have nL:H3 (s2.heap.objs.size+1)=none:=by have:=I4.free;rw[xL]at this;exact this
    have neD:∀b o,s2.heap.get? b=some o->b≠s2.heap.objs.size:=λb o e=>zzQ<|zxG e;have neH:∀b u,H2 b=some u->b≠s2.heap.objs.size:=λb u e z=>by rw[z,H2D]at e;cases e
    have ne3:∀b u,H3 b=some u->b≠s2.heap.objs.size:=λb u e z=>by rw[z,nD]at e;cases e
    have hok4:=I4.hok;rw[xP,xw]at hok4;refine fin ys H3 s4 m (I2.call' ?_ ⟨b4.keep,b4.slot,λb o e n hx=>?_,b4.there,λb xs e=>?_,λb o u e=>?_,λb ps e=>?_⟩ ?_ I4.bare λb hb=>?_) hn (I2.fpOk (zyW _)<|by rw[zK<|Nat.ne_of_gt<|Nat.lt_succ_self _];exact nL)<|qn _ nD
    . have:=I4.os;rw[xs]at this;exact this
    . rw[zK<|neD b o e];exact b4.free b o e n hx
    . rw[zK<|neH b _ e];exact b4.tups b xs e
    . rw[zK<|neH b _ e];exact b4.frzs b o u e
    . rw[zK<|neH b _ e];exact b4.tbls b ps e
    . intro b u e
      by_cases hb:b=s2.heap.objs.size
      . subst hb;rw[ya]at e;cases e;exact⟨hz,its,its.length,rv3,gD⟩
      . rw[zK hb]at e;exact(hok4 b u e).stay (λc v _ q=>q) (λc q=>by rw[zK<|ne3 c _ q];exact q) λc xs q=>by rw[zK<|ne3 c _ q];exact q
    . obtain⟨f0,f1,f3,f4,f5,f6⟩:=f2 b hb;exact⟨f4,f1,f5,f6⟩
  . have:=T.item X' xP xw xK xc i _ s3 _ H3 E' I3 (stat fr3) st3 go;rw[xA]at this;refine zxK this (λr s4 ⟨u,hr,h4⟩=>?_) λ_ _ z=>z;subst hr;refine zxK h4 (λ_ s5 ⟨x,H5,I5,r5,y5,st5,fr5⟩=>?_) λ_ _ z=>z;have I5':=I5.pinned (stat fr5)<|T.obj _ _ st5;have h6:=hg' _ s5 _ H5 x u _ I5' r5<|step x H5 y5;rw[xP,xw,xA,xe,xE]at h6;refine zxK h6 (λ_ s6 ⟨σ6,H6,I6,cap6,q6⟩=>?_) λ_ _ z=>z.elim;have h7:=ht' _ s6 σ6 H6 _ I6 q6;rw[xP,xw,xA,xe,xE]at h7;refine zxK h7 (λb s7 ⟨H7,I7,q7⟩=>?_) λ_ _ z=>z.elim;have keep:∀{H8:Hp}{s8:Shared},Inv X' _ σ6 H8 s8->Inv X' [(s2.heap.objs.size,lobj its)] (ZL cap σ) H8 s8/\tn (i+1) s8.heap/\∀b ∈ fp,H8 b=none:=λ{H8 s8} I8=>by
     refine⟨I8.unpinned.weak ?_ cap6,T.keep _ _ _ st5 λb hb o e=>(I8.pin (b,o)<|zzL _<|zzL _<|Y0 hb e).1,λb hb=>?_⟩
     . rw[I3.len];exact I8.len.symm
     . obtain⟨o,e,d⟩:=T.obj _ _ st5 b hb;exact(I8.pin (b,o)<|zzL _<|zzL _<|Y0 hb e).2.1
    cases b with
    |false=>
     obtain⟨m',hm,w7⟩:=q7;obtain⟨k1,k2,k3⟩:=keep I7;exact⟨m',hm,i+1,ys,its,H7,k1,k2,k3,rv3,w7⟩
    |true=>
     obtain⟨hz2,q7⟩:=q7;have h8:=he' _ s7 σ6 H7 _ I7 q7;rw[xP,xw,xA,xe,xE]at h8;refine zxK h8 (λyv s8 ⟨y,H8,I8,ry,m',hm,w8⟩=>?_) λ_ _ z=>z.elim;obtain⟨k1,k2,k3⟩:=keep I8;obtain⟨gD,nD,_⟩:=k1.pin (s2.heap.objs.size,lobj its) (by rw[xpn];simp);have hl:=rv3.length;refine append_at gD (λh9 sb gD9=>?_) (by rw[zzH];exact q0P hz2 hl);have I9:=(k1.pins_of (pins':=[]) (λ_ z=>nomatch z)).turned (t':=s8.toks) (λb o hb e=>(sb.2 b hb).trans e) nD DL (.inr<|by rw[xs];exact zzN _) (λx c ec z=>by
      obtain⟨v,o,ho,hd⟩:=k1.cell x c ec;rw[z,gD]at ho;cases ho;cases hd) (λp hp=>by rw[xpn]at hp;cases hp)
     have gD9':h9.get? s2.heap.objs.size=some (lobj<|its++[yv]):=by
      rw[gD9]
      congr 1
      show({cls:=.type "list",data:=.seq _ _}:Obj)={cls:=.type "list",data:=.seq (its++[yv]).toArray (its++[yv]).length};rw[zzJ,List.length_singleton,List.push_toArray]
     refine⟨m',hm,i+1,ys++[y],its++[yv],H8,pinD I9 gD9' nD,T.keep _ _ _ k2 λb hb o e=>(sb.2 b<|zzQ<|flt b hb).trans e,k3,rv3.append<|.cons ry .nil,w8⟩
 have start:∃i ys its H3,Inv X' [(s2.heap.objs.size,lobj its)] (ZL cap σ) H3 {s2 with heap:=h'}/\tn i h'/\(∀b ∈ fp,H3 b=none)/\zU ys its/\W i m0 ys H3:=
  ⟨0,[],[],H2,pinD I' hD H2D,T.keep _ _ _ st2 λb hb o e=>old' b o e,λb hb=>(f2 b hb).1,.nil,w0⟩
 exact codeAny_compStart_list (loop m0 _ start)<|T.self _ 0 _ _ _ (T.keep _ _ _ st2 λb hb o e=>old' b o e)<|loop m0 _ start
def Dg(hc:X.calm=true)(hi:PI X tg iter wi)(hk:scope.kind = .function)(hcap:Vn N X.N scope.names X.env.scope.names cap=true)
 (hg:∀cl s H fp,PG (yW X N scope cl s H fp) tg g) (ht:∀cl s H fp,Ho (yW X N scope cl s H fp) ifs tt) (he:∀cl s H fp,PE (yW X N scope cl s H fp) elt te)
 (hs:∀x,foldedSetIterable iter X.env x=pure x):PE X (.ListComp elt [⟨tg,iter,ifs,0⟩] scope pos) (C3 wi cap g tt te):=by
 intro a s σ H Q I h;have C:=Mu hcap;refine wpAny_comprehension_free rfl hs (Vp λx m e=>I.ok.has x.1<|C.fr x m e) hk (λy m e=>QZ C.nd<|by rwa [<-e]) ?_;refine wD (hi a s σ H _ I h) λv O i=>wD i λj k l=>?_;obtain⟨P,S,U,J,V,e,n,T,d,f2,W,⟨p,t⟩,c⟩:=l;subst e;refine Gi hc C hk hg ht he n T d f2 W p t c λY Z z m B D fl q=>?_;refine⟨m,D,λh' E=>?_⟩;obtain⟨F,f1,f3,G,K,L⟩:=fl;exact⟨.ref k.heap.objs.size,_,B.turned (t':=z.toks) (λb o M e=>(E.2 b M).trans e) F f1 G K L,rfl,q⟩
def Jn(hN:X.N.Nodup)(hiy:X.N[i]? = some y)(hy:Loc X.env.scope y)(hf:X.fn y=true\/X.env.scope.names.lookup y=some .local)
 (hsw:swapsWith (.ListComp elt [⟨tg,iter,ifs,0⟩] scope pos) (some<|.Name y py) spos.line X.env=pure true)
 (hc:X.calm=true) (hi:PI X tg iter wi) (hk:scope.kind = .function) (hcap:Vn N X.N scope.names X.env.scope.names cap=true)
 (hg:∀cl s H fp,PG (yW X N scope cl s H fp) tg g) (ht:∀cl s H fp,Ho (yW X N scope cl s H fp) ifs tt) (he:∀cl s H fp,PE (yW X N scope cl s H fp) elt te)
 (hs:∀x,foldedSetIterable iter X.env x=pure x):PS X (.Assign [.Name y py] (.ListComp elt [⟨tg,iter,ifs,0⟩] scope pos) spos) (sY (C3 wi cap g tt te)<|Bm i):=by
 intro c s σ H D I h;have C:=Mu hcap;rw[exec_Assign_Name_used _ _ _ _ hsw];refine zxD<|wpAny_standAt<|zxD ?_;refine zxD<|zxK (wpAny_comprehension_free rfl hs (Vp λx m e=>I.ok.has x.1<|C.fr x m e) hk (λy m e=>QZ C.nd<|by rwa [<-e]) ?_) (λ_ d t=>zxE<|zxE t) λ_ _ e=>e;refine wD (hi c s σ H _ I h) λv s1 u=>wD u λB E F=>?_;obtain⟨it,fp,tn,J,H2,e,G,T,k,f2,W,⟨K,L⟩,f⟩:=F;subst e;refine Gi (Q:=λx M=>Bm i x σ M D.nx) hc C hk hg ht he G T k f2 W K L f λys H3 s3 m O P fl q=>?_;obtain⟨S,f1,f3,U,p,V⟩:=fl;refine wpAny_assign_Name<|Ka O hN hiy hy (v:=.ref E.heap.objs.size) rfl (λY Z ⟨a,sb,j⟩=>?_) hf;refine⟨m,P.sameBut sb λz=>?_,λh' n=>?_⟩
 . rcases j with j|j
   . exact f1<|z.trans j
   . exact p y a j z.symm
 . exact⟨_,_,Z.turned (t':=Y.toks) (λb o hb e=>(n.2 b hb).trans e) S f1 U p V,q⟩
end
structure ItC(K:zzA)(kd:KD)(F:Addr->Prop)(H:Hp)(J:It)(ds:List wG):Prop where
 all:∀(H2:Hp) (T:Addr->Prop),(∀b u,H b=some u->H2 b=some u)->(∀a,T a->H a=none/\H2 a≠none)->∀i,(i<ds.length->J.go i H2)/\(ds.length<=i->J.stop i H2)/\
  ∀v H3,J.yld i H2 v H3->(∀b o,H2 b=some o->H3 b=some o)/\∀x,ds[i]? = some x->Rp K kd (λa=>x.1=true/\(F a\/T a)) H3 v x.2
def iK(K:zzA)(kd:KD)(f:IF):TI:=λσ H R=>∃F B ad as ds as',Rel K kd F B [] ad as σ H/\f as=some (ds,as')/\
 ∀J ad' H',Rel K kd F B [] ad' as' σ H'->Grow (Gw [] ad) H (Gw [] ad') H'->ItC K kd (Lv F B (Gw [] ad') true) H' J ds->R J H'
@[irreducible] def IV(X:Cx)(kd:KD)(tg iter:Expr)(f:IF):Prop:=PI X tg iter<|iK X.K kd f
noncomputable def P6(os:List O):List wG:=os.map λo=>match o with | .lf st d=>(st,d)|o=>(false,o.toD)
def kg(as:AS):RV->Option (List wG)
 | .ow o=>UX (o.str,o.toD)
 | .bo i=>match as[i]? with
  |some (some (.nd .ls os))=>some (P6 os)
  |some (some (.nd .tp os))=>some (P6 os)
  |_=>none
def wR(f:EF):IF:=λas=>(f as).bind λp=>(kg p.2 p.1).bind λds=>some (ds,p.2)
section
variable{K:zzA}{kd:KD}{F B:Addr->Prop}{G:Addr->Prop}{T:List Addr}{ad:Ad}{as:AS}{σ:St}{H H':Hp}
inductive RpC(K:zzA)(kd:KD)(F:Addr->Prop)(H:Hp):List V->List wG->Prop
 |nil:RpC K kd F H [] []
 |cons {v:V}{x:wG}{vs:List V}{ds:List wG}:Rp K kd (λa=>x.1=true/\F a) H v x.2->RpC K kd F H vs ds->RpC K kd F H (v::vs) (x::ds)
theorem RpC.length(h:RpC K kd F H vs ds):vs.length=ds.length:=by
 induction h with
 |nil=>rfl
 |cons _ _ ih=>exact congrArg _ ih
def RpC.get{i:Nat}(h:RpC K kd F H vs ds)(e:ds[i]? = some x):∃v,vs[i]? = some v/\Rp K kd (λa=>x.1=true/\F a) H v x.2:=by
 induction h generalizing i with
 |nil=>simp at e
 |cons h r ih=>
  cases i with
  |zero=>simp at e;subst e;exact⟨_,rfl,h⟩
  |succ i=>
   obtain⟨v,h1,h2⟩:=ih ⋯;exact⟨v,⋯,h2⟩
def Rp.since{T}(k:∀b u,H b=some u->H' b=some u)(hT:∀a,T a->H a=none)(h:Rp K kd Ob H v d):Rp K kd (WM Ob T) H' v d:=
 Rp.grow (W':=T) (H':=H') ⟨λb u q _=>k b u q,λb z=>.inr<|hT b z⟩ (h.less λa z=>z.elim id False.elim)
def TU{st}(h:RpL K kd (Lv F B G st) H vs ds):RpC K kd (Lv F B G true) H vs (kids st ds):=
 RpL.ind (P:=λvs ds=>RpC K kd _ H vs<|kids st ds) .nil (λ{v d vs ds} h _ ih=>by
  refine .cons (x:=(zC d||st,d)) ?_ ih;cases e:zC d with
  |true=>exact h.flat e
  |false=>
   refine h.less λa z=>?_;have zs:st=true:=z.1;rw[zs];exact z.2) h
def DH{os}(h:v_ K kd F B G H vs os fp):RpC K kd (Lv F B G true) H vs (P6 os):=
 RoL.ind (P:=λvs os _=>RpC K kd _ H vs<|P6 os) .nil (λ{v o vs os fp fq} h _ ih=>by
  have ha:=Ud h;refine .cons ?_ ih;cases h with
  |lf rp=>exact rp.less λa z=>(by have zs:=z.1;dsimp only at zs;rw[zs];exact z.2)
  |ls=>exact ha.less λa z=>nomatch z.1
  |dc=>exact ha.less λa z=>nomatch z.1
  |ob=>exact ha.less λa z=>nomatch z.1
  |tp=>exact ha.less λa z=>nomatch z.1) h
def TR(h:X3 K H a vs)(r:RpC K kd F H vs ds):ItC K kd F H (lQ K a) ds:=⟨λH3 T k hT i=>by
 have hr3:X3 K H3 a vs:=by
  rcases h with(h|⟨o,h⟩)|h
  . exact .inl<|.inl<|k _ _ h
  . exact .inl<|.inr ⟨o,k _ _ h⟩
  . exact .inr h
 refine⟨λhi=>?_,λhi=>⟨_,hr3,by rwa [r.length]⟩,λv H4 hy=>?_⟩
 . obtain⟨u,hu,_⟩:=r.get<|zzE hi;exact⟨_,u,hr3,hu⟩
 . obtain⟨rfl,hv⟩:=hy;refine⟨λ_ _ z=>z,λd hd=>?_⟩;obtain⟨u,hu,ru⟩:=r.get hd;have:=hv _ hr3;rw[hu]at this;cases this;exact(ru.since k λa z=>(hT a z).1).less λa z=>z.2.elim (λy=>.inl ⟨z.1,y⟩) .inr⟩
def BF(h:VP K H a vs)(r:RpC K kd F H vs ds):ItC K kd F H (lE K a) ds:=⟨λH3 T k hT i=>by
 have hr3:VP K H3 a vs:=by
  rcases h with(h|⟨o,h⟩)|h
  . exact .inl<|.inl<|k _ _ h
  . exact .inl<|.inr ⟨o,k _ _ h⟩
  . exact .inr h
 refine⟨λhi=>?_,λhi=>⟨_,hr3,by rwa [r.length]⟩,λv H4 hy=>?_⟩
 . obtain⟨u,hu,_⟩:=r.get<|zzE hi;exact⟨_,u,hr3,hu⟩
 . obtain⟨rfl,hv⟩:=hy;refine⟨λ_ _ z=>z,λd hd=>?_⟩;obtain⟨u,hu,ru⟩:=r.get hd;have:=hv _ hr3;rw[hu]at this;cases this;exact(ru.since k λa z=>(hT a z).1).less λa z=>z.2.elim (λy=>.inl ⟨z.1,y⟩) .inr⟩
def Aq(lo)(n:Nat):ItC K kd F H (rX lo n) (y9 lo n):=⟨λH2 T k hT i=>by
 have hl:(y9 lo n).length=n:=by unfold y9;simp
 refine⟨λhi=>by rw[hl]at hi;exact hi,λhi=>by rw[hl]at hi;exact hi,λv H3 hy=>?_⟩;obtain⟨rfl,rfl⟩:=hy;refine⟨λ_ _ z=>z,λd hd=>?_⟩;have hi:i<n:=by rw[<-hl];exact(zzG.mp hd).1
 unfold y9 at hd;rw[zzI,List.getElem?_range hi]at hd;cases hd;exact .int _⟩
end
def E8(he:AE X kd e fa):IV X kd tg e (wR fa):=by
 with_unfolding_all (
 intro pins s σ H R I h;obtain⟨F,B,ad,as,ds,as',Rl,e,q⟩:=h;obtain⟨⟨p,as1⟩,h1,e⟩:=bS_<|e;obtain⟨ys,h2,e⟩:=bS_ e;cases e;cases p with
 |ow o=>
  have h2:UX _=some ds:=h2;generalize hd:o.toD=d at h2;cases d with
  |lst xs=>
   cases h2;refine LA he pins s σ H R I ⟨F,B,ad,as,_,as1,Rl,h1,λv T1 ad1 H1 R1 rv1 g1=>?_⟩;have rp:=FL R1 rv1;rw[hd]at rp;cases rp with
   |lst hn hr rl=>exact⟨_,rfl,⟨_,.inl hr⟩,q _ ad1 H1 R1.drop (g1.trans<|Grow.less Gw.drop)<|TR (.inl hr)<|TU rl⟩
   |lstK a b c rl=>exact⟨_,rfl,⟨_,.inr ⟨_,_,_,a,rfl,rfl,rfl,b,c⟩⟩,q _ ad1 H1 R1.drop (g1.trans<|Grow.less Gw.drop)<|TR (.inr ⟨_,_,_,a,rfl,rfl,rfl,b,c⟩)<|TU rl⟩
  |tup xs=>
   cases h2;refine EV he pins s σ H R I ⟨F,B,ad,as,_,as1,Rl,h1,λv T1 ad1 H1 R1 rv1 g1=>?_⟩;have rp:=FL R1 rv1;rw[hd]at rp;have go:∃a ys,v = .ref a/\VP X.K H1 a ys/\RpL X.K kd (Lv F B (Gw [] ad1) o.str) H1 ys xs:=by
    cases rp with
    |tup n h r=>exact⟨_,_,rfl,.inl h,r⟩
    |tupK a b c e f r=>exact⟨_,_,rfl,.inr ⟨_,_,_,a,b,c,e,f⟩,r⟩
   obtain⟨a,ys,rfl,hs,rl⟩:=go;exact⟨_,rfl,⟨_,hs⟩,q _ ad1 H1 R1.drop (g1.trans<|Grow.less Gw.drop)<|BF hs<|TU rl⟩
  |_=>cases h2
 |bo i=>
  have h2:(match as1[i]? with|some (some<|.nd .ls os)=>some _|some (some<|.nd .tp os)=>some _|_=>none)=some ds:=h2;cases k:as1[i]? with
  |none=>rw[k]at h2;cases h2
  |some s0=>
   rw[k]at h2
   match s0,h2,k with
   |some (.nd .ls os),h2,k=>
    cases h2;refine LA he pins s σ H R I ⟨F,B,ad,as,_,as1,Rl,h1,λv T1 ad1 H1 R1 rv1 g1=>?_⟩;obtain⟨rfl,hs⟩:=rv1;obtain⟨w,hw,ro⟩:=R1.sl i _ k;rw[hs]at hw;cases hw;generalize hfp:ad1 i=fp at ro;cases ro with
    |ls hH rl=>exact⟨_,rfl,⟨_,.inl<|.inl hH⟩,q _ ad1 H1 R1 g1<|TR (.inl<|.inl hH)<|DH rl⟩
   |some (.nd .tp os),h2,k=>
    cases h2;refine EV he pins s σ H R I ⟨F,B,ad,as,_,as1,Rl,h1,λv T1 ad1 H1 R1 rv1 g1=>?_⟩;obtain⟨rfl,hs⟩:=rv1;obtain⟨w,hw,ro⟩:=R1.sl i _ k;rw[hs]at hw;cases hw;generalize hfp:ad1 i=fp at ro;cases ro with
    |tp n hH rl=>exact⟨_,rfl,⟨_,.inl<|.inl hH⟩,q _ ad1 H1 R1 g1<|BF (.inl<|.inl hH)<|DH rl⟩)
def S6(hg:Gl X "range")(hm:X.mg "range"=none)(ha:AA X kd [a] fr)(hs:starEach [a] X.env=[(false,eval a X.env)]):IV X kd tg (.Call (.Name "range" p) [a] [] pos) (yt fr yV):=by
 with_unfolding_all (
 intro pins s σ H R I h;obtain⟨F,B,ad,as,ds,as',Rl,e,q⟩:=h;obtain⟨⟨ps,as1⟩,h1,e⟩:=bS_<|e;obtain⟨⟨xs,lv⟩,h2,e⟩:=bS_ e;obtain⟨ys,h3,e⟩:=bS_ e;cases e;obtain⟨j,rfl,h3⟩:=F_ h3
 . obtain⟨hj,e3⟩:=zu h3;cases e3;refine Kt hg hm ha hs pins s σ H R I ⟨F,B,ad,as,ps,_,Rl,h1,λvs ad1 H1 R1 rv1 g1=>?_⟩;have vl:=Y_ R1 rv1 h2;cases vl with
   |cons v1 v2=>
    cases v2;cases v1;exact⟨j,rfl,hj.1,hj.2,q _ ad1 H1 R1 g1<|Aq 0 _⟩)
noncomputable def jH(as:AS):Option Nat->Option O
 |none=>none
 |some j=>match as[j]? with
  |some (some (.lf st d))=>some (.lf st d)
  |some (some o)=>some (.lf false o.toD)
  |_=>none
def ZV(cap:List (Option Nat))(as:AS):AS:=cap.map<|jH as
def xV(g:GF)(tt:TF)(fe:EF)(as0:AS):List wG->Option (List O)
 | []=>some []
 |x::r=>(g x as0).bind λas1=>(tt as1).bind λb=>if b.1=true then(fe b.2).bind λp=>(JT p.2 p.1).bind λq=>if q.1.str=true then(xV g tt fe as0 r).bind λos=>some (q.1::os)else none
  else xV g tt fe as0 r
def yb(fi:IF)(cap:List (Option Nat))(g:GF)(tt:TF)(fe:EF):EF:=λas=>(fi as).bind λp=>if p.1.length<=sizeLine then(xV g tt fe (ZV cap p.2) p.1).bind λos=>some (.ow<|.nd .ls os,p.2)else none
noncomputable def yP:TF:=λas=>some (true,as)
section
variable{K:zzA}{kd:KD}{F B:Addr->Prop}{T:List Addr}{ad:Ad}{as:AS}{σ:St}{H H':Hp}{cap:List (Option Nat)}
def Ay(R:Rel K kd F B [] ad as σ H)(k:∀b u,H b=some u->H' b=some u)(hT:∀a ∈ T,H a=none)(hT':∀a ∈ T,H' a≠none):
 Rel K kd (WM (Lv F B (Gw [] ad) true) (· ∈ T)) (λ_=>False) [] (λ_=>[]) (ZV cap as) (ZL cap σ) H':=by
 have no:∀a,¬Gw [] (λ_=>[]) a:=λa z=>z.elim ⋯ λ⟨_,y⟩=>nomatch y;have kn:∀a,H a≠none->H' a≠none:=λa z=>by
  cases e:H a with
  |none=>exact absurd e z
  |some u=>rw[k a u e];simp
 have up:∀{st:Bool}{v:V}{d:D},Rp K kd (λa=>st=true/\Lv F B (Gw [] ad) true a) H v d->Rp K kd (Lv (WM _ _) (λ_=>False) _ st) H' v d:=λ{st v d} h=>by
  have:=Rp.grow (W':=_) (H':=H') ⟨λb u q _=>k b u q,λb z=>.inr<|hT b z⟩<|h.less λa z=>z.elim id False.elim;refine this.less λa z=>?_
  rcases z with(⟨z1,z2⟩|z)|z
  . rcases z2 with z2|z2
    . exact .inl ⟨z1,z2⟩
    . exact .inr z2
  . exact z.elim
  . exact(no a z).elim
 refine⟨by unfold ZV ZL;rw[zzB,zzB],λ_ _=>rfl,λ_=>zyJ,(λ_ _ _ z=>nomatch z),zyJ,(λ_ _ _ z=>nomatch z),λa z=>z.elim (λy=>kn a<|R.trk true a y)<|hT' a,(λ_ z=>z.elim),λa z=>(no a z).elim,λi s e=>?_⟩;unfold ZV at e;rw[zzI]at e;obtain⟨c,hc,rfl⟩:=zzX.mp e;have es:(ZL cap σ)[i]? = some (n6 σ c):=by
  unfold ZL;rw[zzI,hc];rfl
 rw[es];cases c with
 |none=>rfl
 |some j=>
  show P5 _ _ _ _ _ _ (match as[j]? with|some (some<|.lf st d)=>some _|some (some o)=>some _|_=>none) _ _;cases k2:as[j]? with
  |none=>rfl
  |some s0=>
   cases s0 with
   |none=>rfl
   |some o=>
    obtain⟨v,hv,ro⟩:=R.sl j _ k2;cases o with
    |lf st d=>
     have e0:ad j=[]:=by
            generalize hfp:ad j=fp at ro;cases ro;rfl
     rw[e0]at ro;refine⟨v,by show some ((σ[j]?).getD none)=_;rw[hv];rfl,.lf<|up ?_⟩;exact(Uc ro).less λa z=>by have zs:=z.1;rw[zs];exact z.2
    |nd kk os=>exact⟨v,by show some ((σ[j]?).getD none)=_;rw[hv];rfl,.lf<|up ((Ud ro).less λa z=>nomatch z.1)⟩
def C2(hS:∀i ∈ S,cap[i]? = some none)(h:al K kd (yb fi cap g tt fe) σ H Q):
 C3 (iK K kd fi) cap (lB K kd S g) (Jl K kd tt) (al K kd fe) σ H Q:=by
 obtain⟨F,B,ad,as,r,as',R,e,q⟩:=h;obtain⟨⟨ds,as1⟩,h1,e⟩:=bS_<|e
 by_cases hz:ds.length<=sizeLine
 . have e:(if ds.length<=sizeLine then(xV g tt fe (ZV cap as1) ds).bind λos=>some (RV.ow<|.nd .ls os,as1)else none)=some (r,as'):=e;rw[if_pos hz]at e;obtain⟨os,h2,e⟩:=bS_ e;cases e;refine⟨F,B,ad,as,ds,as',R,h1,λJ ad1 H1 R1 g1 it=>?_⟩;refine⟨λi m ys H3=>m+i=ds.length/\∃T os1 os2,os=os1++os2/\xV g tt fe (ZV cap as') (ds.drop i)=some os2/\os1.length<=i/\T.Nodup/\(∀a ∈ T,H1 a=none/\H3 a≠none)/\(∀b u,H1 b=some u->H3 b=some u)/\
    RoL (λ_ v d=>Rp K kd (WM (Lv F B (Gw [] ad1) true) (· ∈ T)) H3 v d) (λa=>¬WM (Lv F B (Gw [] ad1) true) (· ∈ T) a) H3 ys os1 T,⟨ds.length,rfl,[],[],os,rfl,h2,zzN _,zyJ,(λ_ m=>nomatch m),(λ_ _ z=>z),.nil⟩, ?_⟩
   rintro i m ys H3 ⟨hm,T,os1,os2,eo,ec,hl,tnd,tf,k3,rl⟩
   obtain⟨i1,i2,i3⟩:=it.all H3 (· ∈ T) k3 tf i;have yl:=rl.length;refine⟨by omega, ?_⟩
   by_cases hi:i<ds.length
   . refine .inr ⟨i1 hi,λv H4 hy=>?_⟩;obtain⟨k4,rp⟩:=i3 v H4 hy;rw[zyQ hi]at ec;obtain⟨as2,e2,ec⟩:=bS_<|ec;obtain⟨⟨b,as3⟩,e3,ec⟩:=bS_ ec;have k14:=λb u h=>k4 b u<|k3 b u h;have kn4:∀a,H3 a≠none->H4 a≠none:=λa z=>by
      cases e:H3 a with
      |none=>exact absurd e z
      |some u=>rw[k4 a u e];simp
     have R4:=Ay (cap:=cap) R1 k14 (λa z=>(tf a z).1) λa z=>kn4 a (tf a z).2;have no:∀a,¬Gw [] (λ_=>[]) a:=λa z=>z.elim (λy=>nomatch y) λ⟨_,y⟩=>nomatch y;refine⟨_,_,_,_,ds[i],as2,R4,(rp _<|zzE hi).less λa z=>?_,e2,λσ5 ad5 H5 R5 g5 keep5=>⟨λj w hw=>?_,_,_,ad5,as2,b,as3,R5,e3,λad6 H6 R6 g6=>?_⟩⟩
     . rcases z with(z|z)|z
       . exact z
       . exact z.elim
       . exact(no a z).elim
     . rw[keep5 j λz=>?_]
       . exact hw
       . have:=hS j z;unfold ZL at hw;rw[zzI,this]at hw;cases hw
     . -- what stood is kept
       have g46:=g5.trans g6;have k46:=λb u h=>g46.keep b u h<|no b;have k36:=λb u h=>k46 b u<|k4 b u h;have kn6:∀a,H3 a≠none->H6 a≠none:=λa z=>by
        cases e:H3 a with
        |none=>exact absurd e z
        |some u=>rw[k36 a u e];simp
       have up:∀{H7:Hp}{T2:List Addr},_->_->RoL (λ_ v d=>Rp K kd (WM _ (· ∈ T++T2)) H7 v d) (λa=>¬WM _ (· ∈ T++T2) a) H7 ys os1 T:=λ{H7 T2} k7 f7=>
        RoL.mono (λst v d r=>(r.since k7 f7).less λa z=>z.elim (λy=>.inl<|.inl y) λy=>(zzM.mp y).elim (λx=>.inl<|.inr x) .inr)
            (λa vs n e=>⟨λz=>z.elim (λy=>n<|.inl y) λy=>(zzM.mp y).elim (λx=>n<|.inr x) λx=>(by have:=f7 a x;rw[this]at e;cases e),k7 _ _ e⟩) (λa _ u h=>k7 a u h) rl
       cases b with
       |false=>
        have:=up (T2:=[]) k36 (λ_ m=>nomatch m);rw[zyE]at this;exact⟨m-1,q1c hm hi,q0S hm hi,T,os1,os2,eo,ec,Nat.le_succ_of_le hl,tnd,λa z=>⟨(tf a z).1,kn6 a (tf a z).2⟩,λb u h=>k36 b u<|k3 b u h,this⟩
       |true=>
        rw[if_pos rfl]at ec;obtain⟨⟨p,as7⟩,e7,ec⟩:=bS_ ec;obtain⟨⟨o,as8⟩,e8,ec⟩:=bS_ ec
        by_cases hs:o.str=true
        . have ec:=ec;rw[if_pos hs]at ec;obtain⟨os3,e9,ec⟩:=bS_ ec;cases ec;refine⟨by omega,_,_,ad6,as3,p,as7,R6,e7,λy T2 ad7 H7 R7 rv7 g7=>?_⟩;obtain⟨ad8,R8,ro8,le8⟩:=Gb R7 rv7 e8;have g47:=g46.trans g7;have k47:=λb u h=>g47.keep b u h<|no b;have k37:=λb u h=>k47 b u<|k4 b u h;have f42:=λa z=>(g47.own a<|.inl z).resolve_left<|no a;have f32:∀a ∈ T2,H3 a=none:=λa z=>by
             cases e:H3 a with
             |none=>rfl
             |some u=>have:=k4 a u e;rw[f42 a z]at this;cases this
          have rt:=Ly R8 R8.tnd (λa z=>.inl z) ro8 hs;have ro9:Ro (λ_ v d=>Rp K kd (WM _ (· ∈ T++T2)) H7 v d) (λa=>¬WM _ (· ∈ T++T2) a) H7 y o T2:=
             Ro.mono (λst v d r=>r.less λa z=>z.elim (λy=>.inl<|.inl y) λy=>(zzM.mp y).elim (λx=>.inl<|.inr x) .inr)
              (λa vs n e=>⟨λz=>n<|z.elim (λy=>.inl<|.inl y) λy=>(zzM.mp y).elim (λx=>.inl<|.inr x) .inr,e⟩) (λ_ _ _ h=>h) rt.ro
          refine⟨m-1,q1c hm hi,q0S hm hi,T++T2,os1++[o],os3,by rw[eo,zxA];rfl,e9,by rw[zzJ,List.length_singleton];omega,zxC.mpr ⟨tnd,rt.nd,λa z b z' e=>?_⟩,λa z=>?_,λb u h=>k37 b u<|k3 b u h,(up k37 f32).append<|RoL.one ro9⟩
          . subst e;exact(tf a z).2<|f32 a z'
          . rcases zzM.mp z with z|z
            . refine⟨(tf a z).1, ?_⟩;cases e:H3 a with
              |none=>exact absurd e (tf a z).2
              |some u=>rw[k37 a u e];simp
            . refine⟨?_,rt.tr a z⟩;cases e:H1 a with
              |none=>rfl
              |some u=>have:=k3 a u e;rw[f32 a z]at this;cases this
        . have ec:=ec;rw[if_neg hs]at ec;cases ec
   . refine .inl ⟨i2 (by omega),λp hp=>?_⟩;rw[List.drop_eq_nil_of_le<|by omega]at ec;cases ec;rw[zyE]at eo;subst eo;have pT:=λz=>(tf p z).2 hp;have H1p:H1 p=none:=by
      cases e:H1 p with
      |none=>rfl
      |some u=>have:=k3 p u e;rw[hp]at this;cases this
     have kp:∀b u,H3 b=some u->upd H3 p (.lst ys) b=some u:=λb u h=>by rw[zK<|z9 h hp];exact h
     obtain⟨R9,g9⟩:=R1.news (T':=p::T) (H':=upd H3 p<|.lst ys) (zzW.mpr ⟨pT,tnd⟩) (λa z=>(zzC.mp z).elim (λe=>by rw[e];exact H1p) λz=>(tf a z).1) (λb u h=>kp b u<|k3 b u h) (λa z=>by
      rcases zzC.mp z with e|z
      . rw[e,ya];simp
      . cases e:H3 a with
        |none=>exact absurd e (tf a z).2
        |some u=>rw[kp a u e];simp)
     refine q _ (p::T) ad1 _ R9 (.ls ya ?_)<|g1.trans g9;have le:∀st a,Lv F B (Gw (p::T) ad1) st a->WM (WM (Lv F B (Gw [] ad1) true) (· ∈ T)) (· = p) a:=λst a z=>by
      rcases z with(z|z)|z|z
      . exact .inl<|.inl<|.inl<|.inl ⟨rfl,z.2⟩
      . exact .inl<|.inl<|.inl<|.inr z
      . exact(zzC.mp z).elim .inr λy=>.inl<|.inr y
      . exact .inl<|.inl<|.inr<|.inr z
     exact RoL.mono (λst v d r=>(r.since kp λa z=>by rw[z];exact hp).less<|le st) (λa vs n e=>⟨λz=>(le true a z).elim n λy=>(by rw[y,hp]at e;cases e),kp _ _ e⟩) (λa _ u h=>kp a u h) rl
 . have e:=e;rw[if_neg hz]at e;cases e
end
section
variable{X:Cx}{kd:KD}{elt tg iter e a b c:Expr}{es ifs:List Expr}{scope:Scope}{pos:Pos}{N:List Str}{cap:List (Option Nat)}{g:GF}{tt:TF}{fe fa fb:EF}{fi:IF}{S:List Nat}{fr:AF}{fd:DF}
def Nj:Ho X [] (Jl X.K kd yP):=λa s σ H Q I h=>by
 obtain⟨F,B,c,as,b,d,R,e,q⟩:=h;cases e;exact J_ a s σ H Q I<|q c H R Grow.refl
def JN(h:AT X kd c tt):Ho X [c] (Jl X.K kd tt):=by with_unfolding_all exact(Ah h)
def Ll(hc:X.calm=true)(hi:IV X kd tg iter fi)(hk:scope.kind = .function)(hcap:Vn N X.N scope.names X.env.scope.names cap=true)(hS:S.all (λi=>cap[i]? == some none)=true)
 (hg:∀cl s H fp,AG (yW X N scope cl s H fp) kd tg S g) (ht:∀cl s H fp,Ho (yW X N scope cl s H fp) ifs<|Jl X.K kd tt) (he:∀cl s H fp,AE (yW X N scope cl s H fp) kd elt fe)
 (hs:∀x,foldedSetIterable iter X.env x=pure x):AE X kd (.ListComp elt [⟨tg,iter,ifs,0⟩] scope pos) (yb fi cap g tt fe):=by with_unfolding_all exact(yn (Dg (g:=lB X.K kd S g) (te:=al X.K kd fe) hc hi hk hcap hg ht he hs) λσ H Q h=>C2 (λi m=>by simpa using List.all_eq_true.mp hS i m) h)
def JR(hN:X.N.Nodup)(hiy:X.N[i]? = some y)(hy:Loc X.env.scope y)(hf:X.fn y=true\/X.env.scope.names.lookup y=some .local)
 (hsw:swapsWith (.ListComp elt [⟨tg,iter,ifs,0⟩] scope pos) (some<|.Name y py) spos.line X.env=pure true)
 (hc:X.calm=true) (hi:IV X kd tg iter fi) (hk:scope.kind = .function) (hcap:Vn N X.N scope.names X.env.scope.names cap=true) (hS:S.all (λi=>cap[i]? == some none)=true)
 (hg:∀cl s H fp,AG (yW X N scope cl s H fp) kd tg S g) (ht:∀cl s H fp,Ho (yW X N scope cl s H fp) ifs<|Jl X.K kd tt) (he:∀cl s H fp,AE (yW X N scope cl s H fp) kd elt fe)
 (hs:∀x,foldedSetIterable iter X.env x=pure x):Fk X kd (.Assign [.Name y py] (.ListComp elt [⟨tg,iter,ifs,0⟩] scope pos) spos) (zr z i<|yb fi cap g tt fe):=by with_unfolding_all exact(wX (Jn (g:=lB X.K kd S g) (te:=al X.K kd fe) hN hiy hy hf hsw hc hi hk hcap hg ht he hs) λD σ H h=>by
 obtain⟨F,B,c,as,o,R,e,q⟩:=h;obtain⟨⟨p,a⟩,d,e⟩:=bS_<|e;obtain⟨_,j,e⟩:=bS_ e;obtain⟨k,e⟩:=zu e;cases e;refine C2 (λi m=>by simpa using List.all_eq_true.mp hS i m) ⟨F,B,c,as,p,a,R,d,λv A n r t u g=>?_⟩;obtain⟨b,R2,w⟩:=EN t u j k;exact q _ b r R2<|g.trans<|Grow.less w)
def IJ(F:FnOk X.prog X.w X.K X.mg X.base XQ k f fdt ps (V4 X.K kd gg))(hr:Room k X.A)(hg:Gl X x)(hm:X.mg x=some (.ref f))(hk:W.keepIn X.K (.ref f)=true)
 (hb:Binds X.K fdt ps []) (hx:Z0 XQ X (λ_ _ _=>False)) (ha:AA X kd (e::es) fr) (hdb:(x==("__debug__":Str))=false) (he:starEach (e::es) X.env=(false,eval e X.env)::starEach es X.env) (hpl:(backTo pos<|starEach es X.env).any (·.1)=false):
 AE X kd (.Call (.Name x p) (e::es) [] pos) (zg fr gg):=by with_unfolding_all exact(yn (FX F hr hg hm hk hb .nil hx ha hdb he hpl) λσ H Q h=>uh h)
def rH{id}(hc:Z_ X kd (.builtin id) gg)(hg:Gl X x)(hm:X.mg x=none)(hv:bootBuiltins x=some (.builtin id))(ha:AA X kd (e::es) fr)(hn:x≠"__name__")(hdb:(x==("__debug__":Str))=false)
 (he:starEach (e::es) X.env=(false,eval e X.env)::starEach es X.env) (hpl:(backTo pos<|starEach es X.env).any (·.1)=false):AE X kd (.Call (.Name x p) (e::es) [] pos) (fP fr gg):=by with_unfolding_all exact(yn (T7 hc hg hm hv ha hn hdb he hpl) λσ H Q h=>iN (λ_ _ _ z=>z) h)
def sr(hc:Z_ X kd (.type T) gg)(hg:Gl X x)(hm:X.mg x=none)(hv:bootBuiltins x=some (.type T))(ha:AA X kd (e::es) fr)(hn:x≠"__name__")(hdb:(x==("__debug__":Str))=false)
 (he:starEach (e::es) X.env=(false,eval e X.env)::starEach es X.env) (hpl:(backTo pos<|starEach es X.env).any (·.1)=false):AE X kd (.Call (.Name x p) (e::es) [] pos) (fP fr gg):=by with_unfolding_all exact(yn (B7 hc hg hm hv ha hn hdb he hpl) λσ H Q h=>iN (λ_ _ _ z=>z) h)
def QX(fa:EF)(c:String):EF:=λas=>(fa as).bind λp=>(p.1.frz.view p.2).bind λx=>if AN x.1=true then some (.ow<|.lf true<|.bl<|F0 (ni x.1) c,p.2)else none
def C0(hk:KdOk X kd):Yr X (.builtin "isinstance") (λxs H Q=>∃x c O d,xs=[x,.ty c]/\QM c=true/\Vw X.K kd O H x d/\AN d=true/\Q (.bl<|F0 (ni d) c) H):=by
 intro b s σ H l m Q I r h;obtain⟨x,c,O,d,rfl,e,f,g,q⟩:=h;cases r with
 |cons i a=>
  cases a with
  |cons a j=>
   cases j;cases(a);exact sf hk I i f e g λk=>⟨.bl _,H,I.tok k,rfl,q⟩
def Wj{c}(hkd:KdOk X kd)(hc:QM c=true)(hg:Gl X x)(hm:X.mg x=none)(hv:bootBuiltins x=some (.builtin "isinstance"))(hg2:Gl X y)(hm2:X.mg y=none)(hv2:bootBuiltins y=some (.type c))(ha:AE X kd a fa)
 (hn:x≠"__name__") (hdb:(x==("__debug__":Str))=false) (hn2:y≠"__name__") (hdb2:(y==("__debug__":Str))=false)
 (he:starEach [a,.Name y p2] X.env=(false,eval a X.env)::starEach [.Name y p2] X.env) (he2:starEach [.Name y p2] X.env=(false,eval (.Name y p2) X.env)::starEach [] X.env) (hpl:(backTo pos<|starEach [.Name y p2] X.env).any (·.1)=false):
 AE X kd (.Call (.Name x p) [a,.Name y p2] [] pos) (QX fa c):=by with_unfolding_all exact(yn (T7 (C0 hkd) hg hm hv (Xb ha (Xb (Am (v:=.ty c) hg2 hm2 hv2 rfl hn2 hdb2) Uo he2) he) hn hdb he hpl) λσ H Q h=>by
 obtain⟨F,B,s,as,r,i,R,e,q⟩:=h;obtain⟨_,k,e⟩:=bS_<|e;obtain⟨⟨d,t⟩,l,e⟩:=bS_ e;obtain⟨m,e⟩:=zu e;cases e;exact vU R k λv b n g f o=>⟨v,c,_,d,rfl,hc,xy.vw g f l,m,q _ [] b n g (.lf<|.bl _) o⟩)
noncomputable def ZG:MG:=λos es=>match es with | [o]=>if os.length<sizeLine then some (os++[o],.lf true .non)else none|_=>none
noncomputable def Vq(i:Int)(n:Nat):Nat:=if i<0 then(i+(n:Int)).toNat else min i.toNat n
def S_:MG:=λos es=>match es with | [.lf _<|.int i,o]=>if(-(2 ^ 63)<=i/\i<2 ^ 63)/\os.length<sizeLine then some (os.take (Vq i os.length)++o::os.drop (Vq i os.length),.lf true .non)else none|_=>none
noncomputable def S4:MG:=λos es=>match es with | [.nd .ls ps]=>if os.length+ps.length<=sizeLine then some (os++ps,.lf true .non)else none|_=>none
def Lw:mI X kd Bu ZG:=by
 intro F B G l f p q r g o s t H Q h c b d e k;unfold ZG at e
 split at e
 . obtain⟨i,e⟩:=zu e;cases e;cases b with
   |cons j n=>
    cases n;rw[zyE]at d k;exact⟨l,f,_,rfl,rfl,h,by rw[c.length];exact i,k _ _ _ [] (c.append<|RoL.one j) (.lf .non) ⋯ (by rwa [zyE])⟩
 . cases e
def m4:V->List V->Hp->VK->Prop:=λx vs H Q=>∃l xs i y,x = .ref l/\vs=[.int i,y]/\H l=some (.lst xs) /\ -(2 ^ 63)<=i/\i<2 ^ 63/\xs.length<sizeLine/\Q .non (upd H l<|.lst (xs.take (Vq i xs.length)++y::xs.drop (Vq i xs.length)))
def uO:m_ X "list.insert" m4:=by
 intro c s σ H x p v A Q I f g h;obtain⟨l,B,i,y,rfl,rfl,d,j,k,C,q⟩:=h;cases f;obtain⟨u,w,rfl,m,b⟩:=g.two;obtain⟨t,rfl⟩:=m;obtain⟨z,a,n,r,o,e⟩:=I.lstM d;refine call_meets F.slot_list_insert ⟨_,e,rfl⟩ F.entry_list_insert (F.args_list_insert_3 _ _ _) (AutoSeq1.list_insert_list_int_val_1 l a.toArray n i t w (by rw[fitsIndex_both j k];exact zyV)<|by rw[zzH];exact q0P C o) ⟨e, ?_⟩;refine⟨.non,_,I.lset (its':=a.take (Vq i a.length)++w::a.drop (Vq i a.length)) d e ?_ ((r.take _).append<|.cons b<|r.drop _) ?_,rfl, ?_⟩
 . show((a.toArray.extract 0<|Vq i a.toArray.size).push w++a.toArray.extract _)=_;simp;exact List.take_of_length_le ⋯
 . rw[zzJ,zzT,zzS,List.length_drop];omega
 . rwa [<-o]
def uG:mI X kd m4 S_:=by
 intro F B G l r C s D t o E I H Q u g b h e k;unfold S_ at e
 split at e
 . rename_i J i K;obtain⟨c,e⟩:=zu e;cases e;cases b with
   |cons v d=>
    cases d with
    |cons d w=>
     cases w;cases v with
     |lf x=>
      cases x;rw[zyE]at h k;obtain⟨f,j,y,z,A⟩:=g.part _;have n:=g.length;rename_i q;refine⟨l,r,i,_,rfl,rfl,u,c.1.1,c.1.2,by rw[n];exact c.2, ?_⟩;rw[n];subst y;have p:((f++j)++q).Perm (f++(q++j)):=by
       rw[zxA];exact(List.perm_append_comm).append_left f
      refine k _ _ _ [] (z.append<|.cons d A) (.lf .non) (λa m=>?_) (by rw[zyE];exact p.nodup_iff.mp h);rw[zyE]at m;exact p.mem_iff.mpr m
 . cases e
def tD:mI X kd BK S4:=by
 intro F B G l h y z A i o C D H Q j d c f e k;unfold S4 at e
 split at e
 . rename_i E;obtain⟨n,e⟩:=zu e;cases e;cases c with
   |cons p q=>
    cases q;cases p with
    |ls r g=>
     rename_i b s I;rw[zyE]at f k;obtain⟨t,u,v⟩:=zxC.mp f;obtain⟨J,w⟩:=zzW.mp u;refine⟨l,b,h,s,rfl,rfl,j,r,by rw[d.length,g.length];exact n,k .non _ _ [] (d.append g) (.lf .non) (λa m=>?_) ?_⟩
     . rw[zyE]at m
       rcases zzM.mp m with m|m
       . exact zzP _ m
       . exact zzL _<|zzD _ m
     . rw[zyE];exact zxC.mpr ⟨t,w,λa m b x=>v a m b<|zzD _ x⟩
 . cases e
def Q1{i:Nat}{id}(hm:m_ X id r)(hr:mI X kd r gg)(slot:Slot "list" name id)(hty:typeOf (.builtin id)=pure (.type "method_descriptor"))(ho:PE X (.Name x p) (VL i))(ha:AD X kd (e::es) fd)
 (hbase:attributeBase (.Name x p) name X.env (eval (.Name x p) X.env)=eval (.Name x p) X.env)
 (hfew:((backTo cpos<|starEach (e::es) X.env).all (λx=>!x.1)&&(backToKw cpos<|keywordEach [] X.env).all (λx=>x.1.isSome)
  && decide ((e::es).length+([]:List Keyword).length+(if([]:List Keyword).isEmpty then 0 else 1)<30))=true)
 (hline:(apos.endLine==cpos.line)=true) (hs:starEach (e::es) X.env=(false,eval e X.env)::starEach es X.env) (hplain:(backTo cpos<|starEach es X.env).any (·.1)=false):
 AE X kd (.Call (.Attribute (.Name x p) name apos) (e::es) [] cpos) (vL i fd gg):=by with_unfolding_all exact(yn (DP PySem.F.plainAttrs_list slot hty hm ho ha hbase hfew hline hs hplain) λσ H Q h=>qV hr h)
end
inductive Ty where
 |str|lst|dct|int
noncomputable def Ty.nm:Ty->String
 | .str=>"str" | .lst=>"list" | .dct=>"dict" | .int=>"int"
noncomputable def IU:Ty->D->Bool
 | .str,.str _=>true
 | .lst,.lst _=>true
 | .dct,.dct _=>true
 | .int,.int _=>true
 |_,_=>false
def iO(X:Cx)(T:String)(x:V)(H:Hp):Prop:=∀(pins:List (Addr×Obj)) (σ:St) (s:Shared) (v:Value),Inv X pins σ H s->RelV x v->s.TypeIs v T/\∀a,v = .ref a->∃ob,s.heap.get? a=some ob/\ob.dict=none
def j0(X:Cx)(T:String)(r:V->List V->Hp->VK->Prop)(to:TE)(t:TA):TE:=λσ H Q=>to σ H λx H1=>iO X T x H1/\t σ H1 λxs H2=>r x xs H2 Q
section
variable{X:Cx}{kd:KD}{o e:Expr}{es:List Expr}{to:TE}{t:TA}{name:Str}{apos cpos:Pos}{T id:String}{r:V->List V->Hp->VK->Prop}
def qy(pa:PlainAttrs T)(slot:Slot T name id)(hty:typeOf (.builtin id)=pure (.type "method_descriptor"))(hm:kM X id r)(ho:PE X o to)(ha:PA X (e::es) t)
 (hbase:attributeBase o name X.env (eval o X.env)=eval o X.env)
 (hfew:((backTo cpos<|starEach (e::es) X.env).all (λx=>!x.1)&&(backToKw cpos<|keywordEach [] X.env).all (λx=>x.1.isSome)
  && decide ((e::es).length+([]:List Keyword).length+(if([]:List Keyword).isEmpty then 0 else 1)<30))=true)
 (hline:(apos.endLine==cpos.line)=true) (hs:starEach (e::es) X.env=(false,eval e X.env)::starEach es X.env) (hplain:(backTo cpos<|starEach es X.env).any (·.1)=false):
 PE X (.Call (.Attribute o name apos) (e::es) [] cpos) (j0 X T r to t):=by
 intro a s σ H Q I h;refine wpAny_Call_method_late hbase hfew hline rfl<|wD (ho a s σ H _ I h) λv f ⟨x,g,b,c,i,j⟩=>?_;obtain⟨k,l⟩:=i _ _ _ _ b c;refine⟨T,id,pa,slot,hty,k,l, ?_⟩;have d:=ha cpos a f σ g _ b j;rw[hs]at d ⊢;refine Calls.callWith_builtin ⋯ (Calls.evalArgs_plain ?_);exact wD d λm n ⟨p,q,u,w,y⟩=>hm a n σ q x p v m Q u c w y
def iB(X:Cx)(kd:KD)(id:String)(g:D->List D->Option R0):Prop:=
 kM X id (λx xs H Q=>∃O d ds r,(∀a,O a->H a≠none)/\Vw X.K kd O H x d/\VwL X.K kd O H xs ds/\g d ds=some r/\RQ X.K kd O H Q r)
def qG(hk:KdOk X kd){O}(h:Vw X.K kd O H x d)(e:IU ty d=true):iO X ty.nm x H:=by
 intro pins σ s v I rx;cases h with
 |str z=>
  obtain⟨t,rfl⟩:=rx;cases ty<;>first|(cases e;done)|exact⟨typeIs_str s z t,λ_ e=>nomatch e⟩
 |int z=>
  obtain⟨t,rfl⟩:=rx;cases ty<;>first|(cases e;done)|exact⟨typeIs_int s z t,λ_ e=>nomatch e⟩
 |lst hr rl=>
  cases rx;obtain⟨its,_,pl,_⟩:=I.list hr.sq;cases ty<;>first|(cases e;done)|skip
  refine⟨pl.isList.typeIs,λa e=>?_⟩;cases e;obtain⟨o,n,e,c,hd,_⟩:=pl;exact⟨o,e,hd⟩
 |dct hr rm=>
  cases rx;obtain⟨z,hd,vs,rel,dd⟩:=PY I hk hr;cases ty<;>first|(cases e;done)|skip
  refine⟨dd.typeIs,λb q=>?_⟩;cases q;obtain⟨ob,_,_,h1,h2,_⟩:=dd;exact⟨ob,h1,h2.2.1⟩
 |non=>cases ty<;>cases e
 |bl=>cases ty<;>cases e
 |tup=>cases ty<;>cases e
 |cl=>cases ty<;>cases e
 |ob=>cases ty<;>cases e
def Ke(ty:Ty)(fa:EF)(fr:AF)(g:D->List D->Option R0):EF:=λas=>(fa as).bind λp=>(p.1.frz.view p.2).bind λw=>if IU ty w.1=true then(fr p.2).bind λq=>(p.1.frz.view q.2).bind λx=>(views q.2 q.1).bind λy=>(g x.1 y.1).bind λr=>(wrap (meet x.2 y.2) r).bind λz=>some (z,q.2)else none
def sE(hk:KdOk X kd)(h:al X.K kd (Ke ty fa fr g) σ H Q):
 j0 X ty.nm (λx xs H Q=>∃O d ds r,(∀a,O a->H a≠none)/\Vw X.K kd O H x d/\VwL X.K kd O H xs ds/\g d ds=some r/\RQ X.K kd O H Q r) (al X.K kd fa) (De X.K kd fr) σ H Q:=by
 obtain⟨F,B,U,as,r,o,R,e,q⟩:=h;obtain⟨⟨p,c⟩,s,e⟩:=bS_<|e;obtain⟨_,t,e⟩:=bS_ e;obtain⟨f,e⟩:=ite_some' e;obtain⟨⟨u,y⟩,A,e⟩:=bS_ e;obtain⟨⟨d,Y⟩,C,e⟩:=bS_ e;obtain⟨⟨D,E⟩,G,e⟩:=bS_ e;obtain⟨I,J,e⟩:=bS_ e;obtain⟨z,L,e⟩:=bS_ e;cases e;refine vU R s λv i Z m b M=>⟨qG hk (xy.vw m b t) f,F,B,i,c,u,_,m,A,λvs j H2 R2 k n=>?_⟩;exact⟨_,d,D,I,R2.tr _,(xy.vw R2 (b.grow n) C).less UO.meet1,(Y_ R2 k G).less UO.meet2,J,ZS R2 L λw N P S l T=>q w N j P S l<|(M.trans n).trans T⟩
def Aj(hk:KdOk X kd)(hm:iB X kd id g)(pa:PlainAttrs ty.nm)(slot:Slot ty.nm name id)(hty:typeOf (.builtin id)=pure (.type "method_descriptor"))(ho:AE X kd a fa)(ha:AA X kd (e::es) fr)
 (hbase:attributeBase a name X.env (eval a X.env)=eval a X.env)
 (hfew:((backTo cpos<|starEach (e::es) X.env).all (λx=>!x.1)&&(backToKw cpos<|keywordEach [] X.env).all (λx=>x.1.isSome)
  && decide ((e::es).length+([]:List Keyword).length+(if([]:List Keyword).isEmpty then 0 else 1)<30))=true)
 (hline:(apos.endLine==cpos.line)=true) (hs:starEach (e::es) X.env=(false,eval e X.env)::starEach es X.env) (hplain:(backTo cpos<|starEach es X.env).any (·.1)=false):
 AE X kd (.Call (.Attribute a name apos) (e::es) [] cpos) (Ke ty fa fr g):=by with_unfolding_all exact(yn (qy pa slot hty hm ho ha hbase hfew hline hs hplain) λσ H Q h=>sE hk h)
end
section
variable{K:zzA}{kd:KD}{F B G:Addr->Prop}{T:List Addr}{ad:Ad}{as:AS}{σ:St}{H H':Hp}
inductive RPs(K:zzA)(kd:KD)(F B G:Addr->Prop)(H:Hp):List (V×V)->List (Key×O)->Prop
 |nil:RPs K kd F B G H [] []
 |cons {k:Key}{v:V}{o:O}{ps:List (V×V)}{kos:List (Key×O)}:vM K kd F B G H v o []->RPs K kd F B G H ps kos->RPs K kd F B G H ((kV k,v)::ps) ((k,o)::kos)
end
abbrev Fn:=List (Bool×D)->Option O
section
variable{P:Program}{w:World}{K:zzA}{mg:Str->Option Value}{base:Heap}{kd:KD}
def AR:FnOk P w K mg base XQ k f fd ps (V4 K kd λ_=>none):=
 ⟨λc H Q E h=>(by obtain⟨_,_,_,_,_,e,_⟩:=h;cases e),λA a s H b d c Q E _ _ _ _ h=>(by obtain⟨_,_,_,_,_,e,_⟩:=h;cases e)⟩
def U2(hr:Room k A):A.units+100<cLine:=by have:=hr.un;omega
def qb(P:Program)(w:World)(K:zzA)(kd:KD):Prop:=∀X:Cx,X.prog=P->X.w=w->X.K=K->KdOk X kd
theorem Ws{O}:∀ns:List Int,RpL K kd O H (ns.map V.int)<|ns.map D.int
 | []=>.nil
 |_::r=>.cons (.int _)<|Ws r
def tW{ns:List Int}(hg:g [(true,.lst<|ns.map D.int)]=some (.lf true<|.bl true))(hS:Ik K H a (ns.map V.int)):V4 K kd g [.ref a] H (λv _=>v = .bl true) E:=by
 refine⟨λ_=>False,[_],.lf true _,⋯,.cons ?_ .nil,hg,λv T e _ _ _ _ b=>?_⟩
 . rcases hS with h|⟨c,n,k,z,r⟩
   . exact .lst (λz=>z.2) h<|Ws ns
   . exact .lstK k z r<|Ws ns
 . cases b with
   |lf d=>cases d;rfl
end
namespace Bt
theorem len:bootBuiltins "len"=some (.builtin "len"):=⋯
theorem max:bootBuiltins "max"=some (.builtin "max"):=⋯
theorem min:bootBuiltins "min"=some (.builtin "min"):=⋯
theorem abs:bootBuiltins "abs"=some (.builtin "abs"):=⋯
theorem sum:bootBuiltins "sum"=some (.builtin "sum"):=⋯
theorem divmod:bootBuiltins "divmod"=some (.builtin "divmod"):=⋯
theorem isinstance:bootBuiltins "isinstance"=some (.builtin "isinstance"):=⋯
theorem int:bootBuiltins "int"=some (.type "int"):=⋯
theorem bool:bootBuiltins "bool"=some (.type "bool"):=⋯
theorem str:bootBuiltins "str"=some (.type "str"):=⋯
theorem list:bootBuiltins "list"=some (.type "list"):=⋯
theorem tuple:bootBuiltins "tuple"=some (.type "tuple"):=⋯
theorem dict:bootBuiltins "dict"=some (.type "dict"):=⋯
def n(x)(h:(x==("__name__":Str))=false):x≠"__name__":=λe=>by subst e;simp at h
end Bt
def WD(f:EF)(as:AS)(st:Bool)(d:D):Prop:=f as=some (.ow<|.lf st d,as)
def WT(f:TF)(as:AS)(b:Bool):Prop:=f as=some (b,as)
def WA(f:AF)(as:AS)(rs:List (Bool×D)):Prop:=f as=some (rs.map λx=>.ow<|.lf x.1 x.2,as)
def WO(f:DF)(as:AS)(os:List O):Prop:=f as=some (os,as)
section
variable{as:AS}{f a b:EF}{s t:Bool}{x y z:D}{i j:Int}
def zb:WD (fC x) as true x:=rfl
def za{i:Nat}(h:as[i]? = some (some<|.lf s x)):WD (fV i) as s x:=by unfold WD fV;rw[h]
def DS(ha:WD a as s x)(hb:WD b as t y)(hg:g x y=some (.im z)):WD (f2 a b g) as (zC z||(s&&t)) z:=by
 unfold WD f2 at *;rw[ha];show((b as).bind _)=_;rw[hb];show((g x y).bind _)=_;rw[hg];show(if _=true then _ else _:Option RV).bind _=_;rw[if_pos<|by unfold meet;simp];rfl
def oC(ha:a as=some (.ow oa,as))(hb:b as=some (.ow ob,as))(hg:g oa.toD ob.toD=some (.im z)):WD (f2 a b g) as (zC z||(oa.str&&ob.str)) z:=by
 unfold WD f2 at *;rw[ha];show((b as).bind _)=_;rw[hb];show((g oa.toD ob.toD).bind _)=_;rw[hg];show(if _=true then _ else _:Option RV).bind _=_;rw[if_pos<|by unfold meet;simp];rfl
def zV(ha:WD a as s x)(hb:WD b as t y)(hg:g x y=some (.im z))(e:zC z=true):WD (f2 a b g) as true z:=by
 have:=DS ha hb hg;rwa [e]at this
def zM(ha:WD a as s (.int i))(hb:WD b as t (.int j)):WD (f2 a b<|Yj .Add) as true (.int<|i+j):=zV ha hb rfl rfl
def Zb(ha:WD a as s (.int i))(hb:WD b as t (.int j)):WD (f2 a b<|Yj .Sub) as true (.int<|i-j):=zV ha hb rfl rfl
def NG(ha:WD a as s (.int i))(hb:WD b as t (.int j))(h:j.natAbs<2 ^ 64):WD (f2 a b<|Yj .Mult) as true (.int<|i*j):=zV ha hb (by show(if _ then _ else _)=_;rw[if_pos<|.inr h]) rfl
def xq(ha:WD a as s (.int i))(hb:WD b as t (.int j))(h1:i.natAbs<big)(h2:j.natAbs<big):WD (f2 a b<|Yj .Mult) as true (.int<|i*j):=zV ha hb (by show(if _ then _ else _)=_;rw[if_pos<|.inl ⟨h1,h2⟩]) rfl
def xJ(ha:WD a as s (.int i))(hb:WD b as t (.int j))(h1:0<j)(h2:j.natAbs<big):WD (f2 a b<|Yj .FloorDiv) as true (.int<|i/j):=zV ha hb (by show(if _ then _ else _)=_;rw[if_pos ⟨h1,h2⟩]) rfl
def zY(ha:WD a as s (.int i))(hb:WD b as t (.int j))(h1:0<j):WD (f2 a b<|Yj .Mod) as true (.int<|i%j):=zV ha hb (by show(if _ then _ else _)=_;rw[if_pos h1]) rfl
def Ou(ha:WD a as s (.int i))(hb:WD b as t (.int j))(h1:0<=j/\j<=1000000/\i.natAbs<2 ^ 64):WD (f2 a b<|Yj .Pow) as true (.int<|i ^ j.toNat):=zV ha hb (by show(if _ then _ else _)=_;rw[if_pos h1]) rfl
def UE(ha:WD a as s x)(hb:WD b as t y)(h:YG 60 x y=some c):WD (f2 a b<|zw .Eq) as true (.bl c):=zV ha hb (by show(YG 60 x y).bind _=_;rw[h];rfl) rfl
def Dt(ha:WD a as s x)(hb:WD b as t y)(h:YG 60 x y=some c):WD (f2 a b<|zw .NotEq) as true (.bl<|!c):=zV ha hb (by show(YG 60 x y).bind _=_;rw[h];rfl) rfl
def Bb(ha:WD a as s (.int i))(hb:WD b as t (.int j)):WD (f2 a b<|zw .Lt) as true (.bl<|decide (i<j)):=zV ha hb rfl rfl
def DX(ha:WD a as s (.int i))(hb:WD b as t (.int j)):WD (f2 a b<|zw .Gt) as true (.bl<|decide (j<i)):=zV ha hb rfl rfl
def oX(ha:WD a as s (.int i))(hb:WD b as t (.int j)):WD (f2 a b<|zw .GtE) as true (.bl<|decide (j<=i)):=zV ha hb rfl rfl
def xi(h:WD f as s x)(e:truth x=some c):WT (fT f) as c:=by
 unfold WT fT;rw[h];show((truth x).bind _)=_;rw[e];rfl
def X6(h:WT c as k):WT (ZP c) as (!k):=by unfold WT ZP at *;rw[h];rfl
def Ca(h:WT c as k)(h2:k=true->WT e as l)(h3:k=false->l=false):WT (Bz c e) as l:=by
 unfold WT Bz at *;rw[h];cases k with
 |true=>exact h2 rfl
 |false=>rw[h3 rfl];rfl
def Bs(h:WT c as k)(h2:k=false->WT e as l)(h3:k=true->l=true):WT (Gv c e) as l:=by
 unfold WT Gv at *;rw[h];cases k with
 |false=>exact h2 rfl
 |true=>rw[h3 rfl];rfl
def Tt(h:WD a as s (.bl k))(h2:k=true->WD b as true (.bl l))(h3:k=false->l=false):WD (RP a b) as true (.bl l):=by
 unfold WD RP at *;rw[h];cases k with
 |true=>exact h2 rfl
 |false=>rw[h3 rfl];rfl
def zq:WA aN as []:=rfl
def zd(ha:WD a as s x)(hr:WA fr as rs):WA (aC a fr) as ((s,x)::rs):=by
 unfold WA aC at *;rw[ha];show((fr as).bind _)=_;rw[hr];rfl
theorem YW:∀rs:List (Bool×D),Yz as (rs.map λx=>.ow<|.lf x.1 x.2)=some (rs.map λx=>(zC x.2||x.1,x.2))
 | []=>rfl
 |r::a=>by
  show(Yz as _).bind _=_;rw[YW a];rfl
theorem YH:∀rs:List (Bool×D),views as (rs.map λx=>.ow<|.lf x.1 x.2)=some (rs.map (·.2),some (rs.all (·.1)))
 | []=>rfl
 |r::a=>by
  show(views as _).bind _=_;rw[YH a];rfl
def Nt(ha:WA fr as rs)(hg:g (rs.map λx=>(zC x.2||x.1,x.2))=some (.lf s x)):WD (zg fr g) as s x:=by
 unfold WD zg;rw[ha];show(Yz as _).bind _=_;rw[YW];show(g _).bind _=_;rw[hg];rfl
def Zr(ha:WA fr as rs)(hg:g (rs.map λx=>(zC x.2||x.1,x.2))=some o):zg fr g as=some (.ow o,as):=by
 unfold zg;rw[ha];show(Yz as _).bind _=_;rw[YW];show(g _).bind _=_;rw[hg];rfl
def F3(ha:WA fr as rs)(hg:g (rs.map (·.2))=some (.im x)):WD (fP fr g) as (zC x||rs.all (·.1)) x:=by
 unfold WD fP;rw[ha];show(views as _).bind _=_;rw[YH];show(g _).bind _=_;rw[hg];show(if _=true then _ else _:Option RV).bind _=_;rw[if_pos ⋯];rfl
def yw(ha:WA fr as rs)(hg:g (rs.map (·.2))=some (.im x))(e:zC x=true):WD (fP fr g) as true x:=by
 have:=F3 ha hg;rwa [e]at this
def yu:WO dN as []:=rfl
def zH{os}(ha:WD a as s x)(hr:WO fr as os):WO (dC a fr) as (.lf s x::os):=by
 unfold WO dC at *;rw[ha];show((fr as).bind _)=_;rw[hr];rfl
def Ys{os}(h:WO fr as os)(hl:os.length<=sizeLine):zZ fr as=some (.ow<|.nd .ls os,as):=by
 unfold zZ;rw[h];show(if os.length<=sizeLine then _ else _)=_;rw[if_pos hl]
def zt{f g}(h1:f as=some (.nx as1))(h2:g as1=o):zi f g as=o:=by unfold zi;rwa [h1]
def Zs{f g}(h1:f as=some (.rt o)):zi f g as=some (.rt o):=by unfold zi;rw[h1];rfl
def yY{f g}(h:WT c as true)(h1:f as=o):xl c f g as=o:=by unfold xl;rwa [h]
def zp{f g}(h:WT c as false)(h1:g as=o):xl c f g as=o:=by unfold xl;rwa [h]
def zF{i:Nat}{st}(h:WD f as s x)(hi:i<as.length):zr st i f as=some (.nx<|as.set i<|some<|.lf s x):=by
 unfold zr;rw[h];cases st<;>exact if_pos hi
def vR{i:Nat}(h:f as=some (.ow o,as))(hi:i<as.length):zr false i f as=some (.nx<|as.set i<|some o):=by
 unfold zr;rw[h];exact if_pos hi
def J4{i:Nat}(h:f as=some (.ow o,as))(hi:i<as.length):zr true i f as=some (.nx<|as.set i<|some o.frz):=by
 unfold zr;rw[h];exact if_pos hi
def xW(h:WD f as true x):zx f as=some (.rt<|.lf true x):=by unfold zx;rw[h];rfl
def xX(hl:ds.length=m)(h:c (Zj n ds)=some (.rt o)):wz n m c ds=some o:=by unfold wz;rw[if_pos hl,h];rfl
theorem xa{f}(I:Nat->AS->Prop):∀(xs:List wG) (k:Nat) (as:AS),(∀i x as,xs[i]? = some x->I (k+i) as->∃as1,g x as=some as1/\∃as2,f as1=some (.nx as2)/\I (k+i+1) as2)->I k as->∃as',forL g f xs as=some (.nx as')/\I (k+xs.length) as'
 | [],k,as,_,h=>⟨as,rfl,h⟩
 |x::r,k,as,d,h=>by
  obtain⟨a,j,b,l,m⟩:=d 0 x as rfl h;obtain⟨c,n,o⟩:=xa I r (k+1) b (λi y as e q=>by
   obtain⟨u,p,v,s,t⟩:=d _ y as e (by rwa [show k+(i+1)=k+1+i from q0c]);exact⟨u,p,v,s,by rwa [show k+1+i+1=k+(i+1)+1 by omega]⟩) m
  refine⟨c, ?_,by rwa [zzT,show k+_=k+1+r.length from q0c]⟩;show(g x as).bind _=_;rw[j];show(f a).bind _=_
  rwa [l]
def yC{f}(h:fi as=some (xs,as'))(h2:forL g f xs as'=o):yL fi g f as=o:=by unfold yL;rwa [h]
def xU{lo}{n i:Nat}{x}(h:(y9 lo n)[i]? = some x):x=(true,.int<|lo+i)/\i<n:=by
 unfold y9 at h;rw[zzI]at h;cases e:(List.range n)[i]? with
 |none=>rw[e]at h;cases h
 |some k=>
  rw[e]at h;obtain⟨a,b⟩:=zzG.mp e;rw[zyU]at a;rw[List.getElem_range]at b;subst b;exact⟨(zzZ h).symm,a⟩
def xO(h:WA fr as [(u,.int j)])(h0:0<=j)(h1:j<1000000):yt fr yV as=some (y9 0 j.toNat,as):=by
 unfold yt;rw[h];show((if -_<=j/\j<2 ^ 62 then some _ else none).bind _)=_;rw[if_pos ⋯];rfl
def Iw(ha:a as=some (.ow o,as))(hr:WA fr as rs):WA (aC a fr) as ((o.str,o.toD)::rs):=by
 unfold WA aC at *;rw[ha];show((fr as).bind _)=_;rw[hr];rfl
def FT{i:Nat}(h:as[i]? = some (some o)):RV.view as (.bo i)=some (o.toD,o.kl):=by simp only[RV.view,h]
def tw{i:Nat}(h:as[i]? = some (some o)):JT as (.bo i)=some (o.frz,as.set i<|some o.frz):=by simp only[JT,h]
def AM{i:Nat}(h:as[i]? = some (some o))(hs:o.str=true):Cj as (.bo i)=some o:=by simp only[Cj,h,hs,if_true]
def Mi{i:Nat}{os}(h:as[i]? = some (some<|.nd k os)):fV i as=some (.bo i,as):=by unfold fV;rw[h]
def jJ{i:Nat}{os}(h:as[i]? = some (some<|.nd .ls os)):WD (fP (aC (fV i) aN) y4) as true (.int os.length):=by
 have e:views as [.bo i]=some ([.lst<|O.toDs os],meet (O.nd .ls os).kl<|some true):=by
  show(RV.view as _).bind _=_;rw[FT h];rfl
 unfold WD fP aC;rw[Mi h];simp only[zyL,aN,RV.frz,e];rw[show y4 [.lst _]=some _ by show some _=_;rw[Yq]];rfl
def gv{i:Nat}{os}(h:as[i]? = some (some<|.nd .ls os))(hl:os.all O.isLf=true)(hb:WD b as t y)(hg:zv (.lst<|O.toDs os) y=some (.im z)):WD (f2 (fV i) b zv) as (zC z||(O.strs os&&t)) z:=by
 unfold WD f2 at *;rw[Mi h];show((b as).bind _)=_;rw[hb];show((RV.view as<|.bo i).bind _)=_;rw[FT h];have e:(O.nd .ls os).kl=some (O.strs os):=by simp only[O.kl,hl,if_true]
 rw[e];show((zv (.lst _) y).bind _)=_;rw[hg];show(if _=true then _ else _:Option RV).bind _=_;rw[if_pos<|by unfold meet;simp];rfl
def Of{i:Nat}(h:as[i]? = some (some<|.lf s<|.lst ds)):Wc (fV i) as=some (kids s ds,as):=by
 unfold Wc fV;rw[h];rfl
def YL{f}(h1:g d as=some as1)(h2:f as1=some (.nx as2))(h3:forL g f r as2=o):forL g f (d::r) as=o:=by
 show(g d as).bind _=_;rw[h1];show(f as1).bind _=_
 rwa [h2]
def CQ{f}(h1:g d as=some as1)(h2:f as1=some (.rt o)):forL g f (d::r) as=some (.rt o):=by
 show(g d as).bind _=_;rw[h1];show(f as1).bind _=_;rw[h2];rfl
def uD{i:Nat}{os}(h:as[i]? = some (some<|.nd .ls os))(hl:os.length<sizeLine)(ha:WD a as s x):zW (vL i (dC a dN) ZG) as=some (.nx<|as.set i<|some<|.nd .ls<|os++[.lf s x]):=by
 unfold zW vL;rw[h];have e:=zH ha yu;rw[e];show(Option.bind (match as[i]? with|some (some<|.nd .ls os)=>_|_=>none) _)=_;rw[h];show((ZG os _).bind _).bind _=_;have e2:ZG os [.lf s x]=some _:=if_pos hl;rw[e2];rfl
def Ft(h:f as=some (.ow o,as))(hg:g (o.str,o.toD) as=some as'):X1 f g as=some (.nx as'):=by
 unfold X1;rw[h];show(g _ as).bind _=_;rw[hg];rfl
def RZ{i:Nat}(h:as[i]? = some (some o))(hs:o.str=true):zx (fV i) as=some (.rt o):=by
 cases o with
 |lf a d=>unfold zx fV;rw[h];have:=hs;subst this;rfl
 |nd k b=>
  unfold zx;rw[Mi h];show(Cj as _).bind _=_;rw[AM h hs];rfl
def Oz{os}(h:WO fr as os)(hl:os.length<=sizeLine)(ha:os.all O.isLf=true):WD (yd fr) as (O.strs os) (.tup<|O.toDs os):=by
 unfold WD yd;rw[h];show(if os.length<=sizeLine then some _ else _)=_;rw[if_pos hl];unfold XO;rw[if_pos ha]
def tB(ha:a as=some (.ow oa,as1))(hb:b as1=some (.ow ob,as2))(hg:g oa.toD ob.toD=some (.fl zs)):f2 a b g as=some (.ow<|.nd .ls<|zs.map<|Hq<|oa.str&&ob.str,as2):=by
 unfold f2;rw[ha];show((b as1).bind _)=_;rw[hb];show((g oa.toD ob.toD).bind _)=_;rw[hg];show(if _=true then _ else _:Option RV).bind _=_;rw[if_pos<|by unfold meet;simp];rfl
def vZ(ha:WD a as true x)(hb:WD b as true y)(hg:g x y=some (.im z)):WD (f2 a b g) as true z:=by
 have:=DS ha hb hg
 rwa [show(zC z||_)=true by simp]at this
def nP{i:Nat}{os}(h:as[i]? = some (some<|.nd .ls os))(hl:os.all O.isLf=true)(hs:O.strs os=true)(hb:WD b as true y)(hg:zv (.lst<|O.toDs os) y=some (.im z)):WD (f2 (fV i) b zv) as true z:=by
 have:=gv h hl hb hg
 rwa [hs,show(zC z||_)=true by simp]at this
def Pd:∀zs:List D,zs.map (Hq true)=zs.map (O.lf true)
 | []=>rfl
 |z::r=>⋯
def Dl(ha:a as=some (.ow oa,as1))(hb:b as1=some (.ow ob,as2))(hg:g oa.toD ob.toD=some (.fl zs))(h1:oa.str=true)(h2:ob.str=true):f2 a b g as=some (.ow<|.nd .ls<|zs.map<|O.lf true,as2):=by
 have:=tB ha hb hg
 rwa [h1,h2,show(true&&true)=true from rfl,Pd]at this
def Z1{os}(ha:a as=some (.ow o,as1))(hr:fr as1=some (os,as2)):dC a fr as=some (o::os,as2):=by
 unfold dC;rw[ha];show((fr as1).bind _)=_;rw[hr];rfl
def add_lists(h:xs.length+ys.length<=sizeLine):Yj .Add (.lst xs) (.lst ys)=some (.fl<|xs++ys):=if_pos h
def GY(lo)(n:Nat):y9 lo (n+1)=(true,.int lo)::y9 (lo+1) n:=by
 unfold y9;rw[List.range_succ_eq_map,zyS,zyB]
 congr 1
 . simp
 . apply List.map_congr_left;intro i _;show(true,D.int _)=_
   congr 2
   omega
def Mn(ha:WA fr as rs)(hg:g (rs.map (·.2))=some (.im x))(e:rs.all (·.1)=true):WD (fP fr g) as true x:=by
 have:=F3 ha hg;rwa [e,zyD]at this
def JP(ha:WD a as s y)(ht:IU ty y=true)(hr:WA fr as rs)(hg:g y (rs.map (·.2))=some (.im x))(e:zC x=true):WD (Ke ty a fr g) as true x:=by
 unfold WD Ke;rw[ha];show(if IU ty y=true then _ else _:Option _)=_;rw[if_pos ht,hr];simp only[zyL,YH];show((g y _).bind _)=_;rw[hg];show(if _=true then _ else _:Option RV).bind _=_;rw[if_pos<|by rw[e];rfl];show some (RV.ow<|.lf _ x,as)=_;rw[e];rfl
def AZ(h:WD f as s x)(e:UX (s,x)=some ds):wR f as=some (ds,as):=by
 unfold wR;rw[h];show(UX (s,x)).bind _=_;rw[e];rfl
def Q0{g fe as0 as1 y r os}(h1:g y as0=some as1)(h2:WD fe as1 true x)(h3:xV g yP fe as0 r=some os):xV g yP fe as0 (y::r)=some (.lf true x::os):=by
 show(g y as0).bind _=_;rw[h1];show(fe as1).bind _=_;rw[h2];rw[h3];rfl
def VU{fi cap g tt fe xs os}(h1:fi as=some (xs,as))(hl:xs.length<=sizeLine)(h2:xV g tt fe (ZV cap as) xs=some os):yb fi cap g tt fe as=some (.ow<|.nd .ls os,as):=by
 unfold yb;rw[h1];show(if xs.length<=sizeLine then _ else _)=_;rw[if_pos hl];rw[h2];rfl
end
def WY(h:Nat.ble n 1000=true):n<=sizeLine:=Nat.le_of_lt<|Ug<|Nat.le_of_ble_eq_true h
def zh(h:Nat.ble (a+1) b=true):a<b:=Nat.le_of_ble_eq_true h
def zD(h0 : -(10 ^ 200)<i)(h1:i<10 ^ 200):i.natAbs<big:=by
 have:10 ^ 200<big:=by decide +kernel
 have e:((10 ^ 200:Nat):Int)=10 ^ 200:=by norm_cast
 omega
def GC(K:zzA)(kd:KD)(mg:Str->Option Value)(x:Str)(d:D):Prop:=∃v u,mg x=some u/\RelV v u/\∀(O:Addr->Prop) (H:Hp),Rp K kd O H v d
section
variable{X:Cx}{kd:KD}{K:zzA}{mg:Str->Option Value}
def rG(h:GC X.K kd X.mg x d)(hg:Gl X x)(hd:(x==("__debug__":Str))=false):AE X kd (.Name x pos) (fC d):=by
 (
 obtain⟨v,u,h1,h2,h3⟩:=h;exact TB (IK hg h1 h2 hd) h3)
theorem GC.int(h:mg x=some (.int i t)):GC K kd mg x (.int i):=⟨.int i,_,h,⟨t,rfl⟩,λ_ _=>.int i⟩
def jj(K:zzA)(g:Fn):Sp:=λvs H Q E=>∀kd:KD,V4 K kd g vs H Q E
end
def LW(fa fb fc:EF)(g g':D->D->Option R0):EF:=λas=>(fa as).bind λp=>(fb p.2).bind λq=>(p.1.frz.view q.2).bind λx=>(q.1.frz.view q.2).bind λy=>(g x.1 y.1).bind λr=>match r with
 | .im (.bl true)=>(fc q.2).bind λt=>(q.1.frz.view t.2).bind λy'=>(t.1.frz.view t.2).bind λz=>(g' y'.1 z.1).bind λr'=>(wrap (meet y'.2 z.2) r').bind λo=>some (o,t.2)
 | .im (.bl false)=>some (.ow<|.lf true<|.bl false,q.2)
 |_=>none
section
variable{X:Cx}{kd:KD}{a b c:Expr}{fa fb fc:EF}{pos:Pos}
def NY(ho:t_ X kd (compareOp op) g)(ho':t_ X kd (compareOp op') g')(ha:AE X kd a fa)(hb:AE X kd b fb)(hc:AE X kd c fc)(hm:lastMarks [op,op'] [b,c]=false):
 AE X kd (.Compare a [op,op'] [b,c] pos) (LW fa fb fc g g'):=by with_unfolding_all exact(yn (CH ho ho' ha hb hc hm) λσ H Q h=>by
 obtain⟨F,B,ad,as,r,O,R,e,q⟩:=h;obtain⟨_,S,e⟩:=bS_<|e;obtain⟨_,T,e⟩:=bS_ e;obtain⟨⟨x,U⟩,V,e⟩:=bS_ e;obtain⟨⟨y,W⟩,Y,e⟩:=bS_ e;obtain⟨K,Z,e⟩:=bS_ e;refine vU R S λv ad1 H1 R1 k L=>vU R1 T λu l H2 R2 d m=>⟨_,x,y,K,R2.tr _,(xy.vw R2 (k.grow m) V).less UO.meet1,(xy.vw R2 d Y).less UO.meet2,Z, ?_⟩
 match K,e with
 | .im (.bl true),e=>
  obtain⟨⟨t,as3⟩,h6,e⟩:=bS_<|e;obtain⟨⟨y',n⟩,h7,e⟩:=bS_ e;obtain⟨⟨z',s⟩,h8,e⟩:=bS_ e;obtain⟨r1,h9,e⟩:=bS_ e;obtain⟨o,A,e⟩:=bS_ e;cases e;intro w M C D;cases D;obtain⟨E,f⟩:=R2.more C;refine⟨true,rfl, ?_⟩;refine vU E h6 λw' G H4 i I N=>⟨_,y',z',r1,i.tr _,(xy.vw i ((d.grow f).grow N) h7).less UO.meet1,(xy.vw i I h8).less UO.meet2,h9, ?_⟩;exact ZS i A λw T' H' R' J g'=>q w T' G H' R' J<|(((L.trans m).trans f).trans N).trans g'
 | .im (.bl false),e=>
  cases e;intro w M C D;cases D;obtain⟨E,f⟩:=R2.more C;refine⟨false,rfl, ?_⟩;exact q _ [] l M E (.lf<|.bl _)<|(L.trans m).trans f)
end
inductive Ents(w:World):List DictEntry->List (Key×V)->Prop
 |nil:Ents w [] []
 |str {x:Str}{t:Tok}{v:V}{u:Value}{r:List DictEntry}{s:List (Key×V)}:RelV v u->Ents w r s->Ents w (⟨PyData.keyHash w.params x,.str x t,u⟩::r) ((.inr x,v)::s)
theorem Ents.keys:∀{es:List DictEntry}{kvs:List (Key×V)},Ents w es kvs->∀e ∈ es,∃k,(wI P w).is k e.key=true/\e.hash=(wI P w).hash k
 |_,_,.nil,_,m=>nomatch m
 |_,_,.str (x:=x) (t:=t) _ r,e,m=>by
  rcases zzC.mp m with rfl|m
  . exact⟨.inr x,WN P w x t,rfl⟩
  . exact r.keys e m
theorem Ents.pairs:∀{es:List DictEntry}{kvs:List (Key×V)},Ents w es kvs->∃vs,KV kvs vs/\Pairs (wI P w) es vs/\vs.map (·.1)=kvs.map (·.1)
 |_,_,.nil=>⟨[],.nil,.nil,rfl⟩
 |_,_,.str (x:=x) (t:=t) (u:=u) h r=>by
  obtain⟨a,b,c,d⟩:=r.pairs;exact⟨(.inr x,u)::a,.cons ⟨rfl,h⟩ b,.cons (WN P w x t) rfl c,by rw[zyS,zyS,d]⟩
structure DctAt(w:World)(K:zzA)(a:Addr)(kvs:List (Key×V)):Prop where
 ex:∃es ep,K.lookup a=some {cls:=.type "dict",data:=.dict es ep}/\Ents w es.toList kvs
 nd:(kvs.map (·.1)).Nodup
 le:kvs.length<=sizeLine
 ns:(a==sysModules)=false
noncomputable def kdL(l:List (Addr×List (Key×V)))(c:Str->Addr:=λ_=>0):KD:=⟨λa k=>l.lookup a=some k,c⟩
def lookup_mem{l:List (Addr×List (Key×V))}(h:l.lookup a=some k):(a,k) ∈ l:=by
 induction l with
 |nil=>cases h
 |cons p r b=>
  rw[List.lookup_cons]at h
  by_cases e:a=p.1
  . subst e;rw[beq_self_eq_true]at h;cases h;exact zzF
  . rw[show _=false from beq_eq_false_iff_ne.mpr e]at h;exact zzD _<|b h
def uU{K}(h:∀p ∈ l,DctAt w K p.1 p.2):qb P w K (kdL l c):=λX n o r=>by
 subst o;subst r;refine⟨λa k v b d=>zzZ<|b.symm.trans d,λa k b=>?_,λa k y b f=>?_⟩
 . obtain⟨g,i,e,_⟩:=(h _<|lookup_mem b).ex;exact⟨_,e⟩
 . have q:=h _<|lookup_mem b;obtain⟨g,i,e,j⟩:=q.ex;obtain⟨s,d,t,u⟩:=j.pairs;refine⟨q.le,q.ns,s,d,_,g,i,f _ _ e,⟨rfl,rfl,rfl⟩,rfl,λx m=>j.keys x (by simpa using m),t,by rw[u];exact q.nd⟩
noncomputable def isStar:Expr->Bool
 | .Starred .. => true
 |_=>false
def G8(h:isStar a=false):starEach (a::es) env=(false,eval a env)::starEach es env:=by
 cases a<;>first|rfl|cases h
section
variable{as:AS}{f a b c:EF}{s t u:Bool}{x y z:D}{i j k:Int}
def sC(h:WD f as s (.bl q)):WD (SV f) as true (.bl<|!q):=by
 unfold WD SV at *;rw[h];rfl
def B6(h1:g w as0=some as1)(h2:WT tt as1 false)(h3:xV g tt fe as0 r=o):xV g tt fe as0 (w::r)=o:=by
 show(g w as0).bind _=_;rw[h1];show(tt as1).bind _=_
 rwa [h2]
def WE(f:EF)(as:AS)(x:D):Prop:=∃o,f as=some (.ow o,as)/\o.str=true/\o.toD=x
def RE(r:Option O)(x:D):Prop:=∃o,r=some o/\o.str=true/\o.toD=x
def WD.e(h:WD f as true x):WE f as x:=⟨_,h,rfl,rfl⟩
def RE.of(h:r=some (.lf true x)):RE r x:=⟨_,h,rfl,rfl⟩
def xG{os}(h:WO fr as os)(hl:os.length<=sizeLine)(hs:O.strs os=true)(e:D.lst (O.toDs os)=x):WE (zZ fr) as x:=⟨_,Ys h hl,hs,e⟩
def y8(h:WE a as x)(hr:WA fr as rs):WA (aC a fr) as ((true,x)::rs):=by
 obtain⟨o,b,c,rfl⟩:=h;have:=Iw b hr
 rwa [c]at this
def xF(ha:WE a as x)(hg:RE (g [(true,x)]) z):WE (zg (aC a aN) g) as z:=by
 obtain⟨o,b,c,d⟩:=hg;exact⟨o,Zr (y8 ha zq) (by show g [(zC x||true,x)]=_;rwa [zyD]),c,d⟩
def yQ(ha:WE a as x)(hb:WE b as y)(hg:RE (g [(true,x),(true,y)]) z):WE (zg (aC a<|aC b aN) g) as z:=by
 obtain⟨o,c,d,e⟩:=hg;exact⟨o,Zr (y8 ha<|y8 hb zq) (by show g [(zC x||true,x),(zC y||true,y)]=_;rwa [zyD,zyD]),d,e⟩
def zX(ha:WE a as x)(hb:WE b as y)(hc:WE c as w)(hg:RE (g [(true,x),(true,y),(true,w)]) z):WE (zg (aC a<|aC b<|aC c aN) g) as z:=by
 obtain⟨o,d,e,f⟩:=hg;exact⟨o,Zr (y8 ha<|y8 hb<|y8 hc zq) (by show g [(zC x||true,x),(zC y||true,y),(zC w||true,w)]=_;rwa [zyD,zyD,zyD]),e,f⟩
def Od(ha:WE a as x)(hg:g [(true,x)]=some (.lf s z)):WD (zg (aC a aN) g) as s z:=Zr (y8 ha zq) (by show g [(zC x||true,x)]=_;rwa [zyD])
def VN(ha:WE a as x)(hb:WE b as y)(hg:g [(true,x),(true,y)]=some (.lf s z)):WD (zg (aC a<|aC b aN) g) as s z:=Zr (y8 ha<|y8 hb zq) (by show g [(zC x||true,x),(zC y||true,y)]=_;rwa [zyD,zyD])
def E4(ha:WE a as x)(hb:WE b as y)(hc:WE c as w)(hg:g [(true,x),(true,y),(true,w)]=some (.lf s z)):WD (zg (aC a<|aC b<|aC c aN) g) as s z:=Zr (y8 ha<|y8 hb<|y8 hc zq) (by show g [(zC x||true,x),(zC y||true,y),(zC w||true,w)]=_;rwa [zyD,zyD,zyD])
def BP(ha:WE a as x)(hb:WE b as y)(hg:g x y=some (.im z)):WD (f2 a b g) as true z:=by
 obtain⟨o,c,d,rfl⟩:=ha;obtain⟨p,e,f,rfl⟩:=hb;have:=oC c e hg
 rwa [d,f,Bool.and_true,zyD]at this
def gR(ha:WE a as x)(hb:WE b as y)(hg:g x y=some (.fl zs)):f2 a b g as=some (.ow<|.nd .ls<|zs.map<|O.lf true,as):=by
 obtain⟨o,c,d,rfl⟩:=ha;obtain⟨p,e,f,rfl⟩:=hb;exact Dl c e hg d f
theorem X0:∀zs:List D,O.strs (zs.map<|O.lf true)=true
 | []=>rfl
 |_::r=>X0 r
theorem Qy:∀zs:List D,O.toDs (zs.map<|O.lf true)=zs
 | []=>rfl
 |z::r=>congrArg _<|Qy r
def Fg(ha:WE a as x)(hb:WE b as y)(hg:g x y=some (.fl zs)):WE (f2 a b g) as (.lst zs):=⟨_,gR ha hb hg,X0 zs,congrArg D.lst<|Qy zs⟩
def yU(h:WE f as x)(hi:p<as.length):zr true p f as=some (.nx<|as.set p<|some<|.lf true x):=by
 obtain⟨o,a,b,rfl⟩:=h;have:=J4 a hi
 rwa [show o.frz = .lf true o.toD by unfold O.frz;rw[b]]at this
def uR(ha:WE a as x)(hb:WE b as y)(h:YG 60 x y=some q):WD (f2 a b<|zw .Eq) as true (.bl q):=BP ha hb (by show(YG 60 x y).bind _=_;rw[h];rfl)
def Em(ha:WE a as x)(hb:WE b as y)(h:YG 60 x y=some q):WD (f2 a b<|zw .NotEq) as true (.bl<|!q):=BP ha hb (by show(YG 60 x y).bind _=_;rw[h];rfl)
def L5(ha:WE a as x)(hg:g [x]=some (.im z)):WD (fP (aC a aN) g) as true z:=Mn (y8 ha zq) hg rfl
def Tf{os}(ha:a as=some (.ow o,as))(hr:WO fr as os):WO (dC a fr) as (o::os):=Z1 ha hr
def M9{os}(h:WO fr as os)(hl:os.length<=sizeLine):yd fr as=some (.ow<|XO os,as):=by
 unfold yd;rw[h];show(if os.length<=sizeLine then some _ else _)=_;rw[if_pos hl]
def LV{lo hi}(ha:WE a as y)(hl:fl as=some (lo,as))(hh:fh as=some (hi,as))(hg:g y lo hi=some (.fl zs)):WE (Yk a fl fh g) as (.lst zs):=by
 obtain⟨o,b,c,rfl⟩:=ha;refine⟨.nd .ls _, ?_,X0 zs,congrArg D.lst<|Qy zs⟩;unfold Yk;rw[b];show((fl as).bind _)=_;rw[hl];show((fh as).bind _)=_;rw[hh];show((g o.toD lo hi).bind _)=_;rw[hg];show(if _=true then some (RV.ow<|.nd .ls<|zs.map<|Hq<|(some o.str).getD false)else none:Option RV).bind _=_;rw[if_pos ⋯,c];show some (RV.ow<|.nd .ls<|zs.map<|Hq true,as)=_;rw[Pd]
def NZ:YF (.lst<|xs++ys) (some (xs.length:Int)) none=some (.fl ys):=by
 show some _=_
 congr 2
 unfold cutD;rw[HT.Yn,HT.Qr,zzJ,Nat.min_eq_left ⋯,List.drop_left,List.take_of_length_le ⋯]
theorem VA:∀ds:List D,kids true ds=ds.map λd=>(true,d)
 | []=>rfl
 |d::r=>by show(zC d||true,d)::kids true r=_;rw[VA r,zyD];rfl
def oH(h:WE f as (.lst ds)):wR f as=some (ds.map λd=>(true,d),as):=by
 obtain⟨o,a,b,c⟩:=h;unfold wR;rw[a];show(UX _).bind _=_;rw[b,c];show some _=_;rw[VA]
def F9(h:WD f as true (.lst ds)):Wc f as=some (ds.map λd=>(true,d),as):=by
 unfold Wc;rw[h];show some (kids true ds,as)=_;rw[VA]
end
section
variable{X:Cx}{kd:KD}
def jy:D->Option R0
 | .str x=>if x.length<=640 then(PySem.intText? x).bind λn=>some (.im<|.int n)else none
 |d=>kU d
def PH:List D->Option R0:=tV jy
def EI:Z_ X kd (.type "int") PH:=by
 intro c s σ H m e Q I r h;obtain⟨O,o,z,p,f,a,q⟩:=h;obtain⟨x,d,rfl,g,a⟩:=Ue f a;cases g with
 |str y=>
  obtain⟨j,a⟩:=ite_some' a;obtain⟨n,k,a⟩:=bS_ a;cases a;obtain⟨u,rfl,l⟩:=vals1 r;obtain⟨t,rfl⟩:=l;exact PySem.W.KIN.call_text k j ⟨.int _,H,I.tok _,⟨_,rfl⟩,yc q<|.int _⟩
 |int i=>cases a;exact Ki c s σ H _ e Q I r (.inl ⟨_,rfl,yc q<|.int _⟩)
 |bl b=>cases a;exact Ki c s σ H _ e Q I r (.inr ⟨_,rfl,yc q<|.int _⟩)
 |_=>cases a
end
section
variable{X:Cx}{pins:List (Addr×Obj)}{σ:List (Option V)}{H:Hp}{s:Shared}{h':Heap}
def Qf{t':Nat}{ch:List Addr}(I:Inv X pins σ H s)(hf:∀b ∈ ch,RG X pins H b)(k:∀b u,b ∉ ch->s.heap.get? b=some u->h'.get? b=some u)(hp:s.heap.objs.size<=T)
 (new:vG X.prog X.w (upd H T o) h' T o):Inv X pins σ (upd H T o) {s with heap:=h',toks:=t'}:=by
 have hn:=I.hok.fresh hp;have nT:∀b u,s.heap.get? b=some u->b≠T:=λb u e z=>absurd (zzK (zxG e)<|by rwa [z])<|Nat.lt_irrefl _;have nc:∀b u,H b=some u->b ∉ ch:=λb u e z=>by have:=(hf b z).1;rw[e]at this;cases this
 refine I.step (g':=s.gens) (d':=s.drawn) (λb hb=>?_) (λb o _ _ hc e _=>k b o hc e) (λb o _ _ hc e _=>⟨o.slots,k b o hc e⟩) (λb o _ e n=>by rwa [zK<|nT b o e])
  (λb o hc e=>⟨o,k b o hc e⟩) (λb xs e=>by rwa [zK<|z9 e hn]) (λb o u e=>by rwa [zK<|z9 e hn]) (λb ps e=>⟨#[],by rw[zK<|z9 e hn,e];simp⟩) (λm hm=>?_) (λb u e=>?_) I.bare
 . obtain⟨f0,f1,f2,f3,f4,f5⟩:=hf b hb;exact⟨f3,f1,f4,f5⟩
 . obtain⟨o,es,ep,ho,r⟩:=hm;exact⟨o,es,ep,k _ o (λz=>(hf _ z).2.1 rfl) ho,r⟩
 . by_cases hb:b=T
   . subst hb;rw[ya]at e;cases e;exact new
   . rw[zK hb]at e;refine(I.hok b u e).stay (λc v hc q=>k c v ?_ q) (λc q=>by rwa [zK<|z9 q hn]) λc xs q=>by rwa [zK<|z9 q hn]
     rcases hc with z|z
     . rw[z];exact nc b u e
     . exact nc c _ z
end
section
variable{as:AS}{f a b:EF}{s t:Bool}{x y z:D}
def uI(h:WE f as (.tup ds)):wR f as=some (ds.map λd=>(true,d),as):=by
 obtain⟨o,a,b,c⟩:=h;unfold wR;rw[a];show(UX _).bind _=_;rw[b,c];show some _=_;rw[VA]
def OK:YF (.lst<|xs++ys) none (some (xs.length:Int))=some (.fl xs):=by
 show some _=_
 congr 2
 unfold cutD;rw[HT.Yn,HT.Qr,zzJ,Nat.min_eq_left ⋯,List.drop_zero,Nat.sub_zero,List.take_left]
end
def PV{t':Nat}{ch:List Addr}(I:Inv X pins σ H s)(hf:∀b ∈ ch,RG X pins H b)(k:∀b u,b ∉ ch->s.heap.get? b=some u->h'.get? b=some u):Inv X pins σ H {s with heap:=h',toks:=t'}:=by
 have nc:∀b u,H b=some u->b ∉ ch:=λb u e z=>by have:=(hf b z).1;rw[e]at this;cases this
 refine I.step (g':=s.gens) (d':=s.drawn) (λb hb=>?_) (λb o _ _ hc e _=>k b o hc e) (λb o _ _ hc e _=>⟨o.slots,k b o hc e⟩) (λb o _ e n=>n)
  (λb o hc e=>⟨o,k b o hc e⟩) (λb xs e=>e) (λb o u e=>e) (λb ps e=>⟨#[],⋯⟩) (λm hm=>?_) (λb u e=>?_) I.bare
 . obtain⟨f0,f1,f2,f3,f4,f5⟩:=hf b hb;exact⟨f3,f1,f4,f5⟩
 . obtain⟨o,es,ep,ho,r⟩:=hm;exact⟨o,es,ep,k _ o (λz=>(hf _ z).2.1 rfl) ho,r⟩
 . refine(I.hok b u e).stay (λc v hc q=>k c v ?_ q) (λc q=>q) λc xs q=>q
   rcases hc with z|z
   . rw[z];exact nc b u e
   . exact nc c _ z
section
variable{X:Cx}{tg:Expr}
def SL(I l1 l2:Nat)(h1:l1<I)(h2:l2<I):ZipApart (I+4) (I+2) (I+3) I (I+1) l1 l2:=by
 constructor<;>(show(_:Nat)≠_;omega)
end
section
variable{X:Cx}{kd:KD}{tg e:Expr}{fa:EF}
noncomputable def QV(st:Bool):List D->List D->List wG
 |x::r,y::t=>(st,.tup [x,y])::QV st r t
 |_,_=>[]
theorem QE(st):∀(xs ys:List D),(QV st xs ys).length=min xs.length ys.length
 | [],_=>⋯
 |_::_,[]=>⋯
 |_::r,_::t=>by simp only[QV,zzT,QE st r t];omega
theorem Tv{st}:∀{xs ys:List D}{i:Nat}{y:wG},(QV st xs ys)[i]? = some y->∃d e,xs[i]? = some d/\ys[i]? = some e/\y=(st,.tup [d,e])
 | [],_,_,_,h=>by simp[QV]at h
 |_::_,[],_,_,h=>by simp[QV]at h
 |x::r,y::t,0,z,h=>by
  cases h;exact⟨x,y,rfl,rfl,rfl⟩
 |x::r,y::t,i+1,z,h=>by
  simp only[QV]at h;obtain⟨d,e,h1,h2,h3⟩:=Tv h;exact⟨d,e,⋯,⋯,h3⟩
end
def Jz{K O}(h:RpL K kd O H vs ds)(hv:zU vs us)(e:X8 ds=some ns):IntsAre us ns:=
 RpL.ind (P:=λvs ds=>∀us ns,zU vs us->X8 ds=some ns->IntsAre us ns) (λus ns hv e=>by cases e;cases hv;exact .nil) (λ{v d vs ds} a _ ih us ns hv e=>by
  cases hv with
  |cons b t=>
   cases a with
   |int x=>
    obtain⟨ys,h1,h2⟩:=bS_<|e;cases h2;obtain⟨tk,rfl⟩:=b;exact .cons _ _ (ih _ _ t h1)
   |_=>cases e) h us ns hv e
def La(f:D->Option Bool):List D->Option Nat
 | []=>none
 |x::r=>(f x).bind λb=>if b=true then(anyF f r).bind λ_=>some 0 else(La f r).bind λj=>some<|j+1
def FD(d:D):List D->Option R0:=tV λx=>(uo d).bind λds=>(La (λy=>YG 50 y x) ds).bind λj=>if ds.length<=1000 then some (.im<|.int j)else none
theorem ML:∀{ds:List D}{j:Nat},La f ds=some j->∀d ∈ ds,∃c,f d=some c
 | [],_,h,_,m=>nomatch m
 |x::r,j,h,d,m=>by
  obtain⟨b,e,h⟩:=bS_<|h
  rcases zzC.mp m with rfl|m
  . exact⟨b,e⟩
  . cases b with
    |true=>
     obtain⟨c,a,_⟩:=bS_<|h;exact YT a d m
    |false=>
     obtain⟨k,a,_⟩:=bS_<|h;exact ML a d m
section
variable{X:Cx}{kd:KD}{pins:List (Addr×Obj)}{σ:St}{H:Hp}{s:Shared}{O:Addr->Prop}
def A1(I:Inv X pins σ H s)(hk:KdOk X kd)(hv:zU vs us)(h:RpL X.K kd O H vs ds)(e:La (λy=>YG n y x) ds=some j):∃h:j<us.length,Dx X.K kd O H n x us[j]=true/\∀m (hm:m<us.length),m<j->Dx X.K kd O H n x us[m]=false:=
 RpL.ind (P:=λvs ds=>∀us j,zU vs us->La _ ds=some j->∃h:j<us.length,Dx X.K kd O H n x us[j]=true/\∀m hm,m<j->Dx X.K kd O H n x us[m]=false) (λus j hv e=>by cases e) (λ{v d vs ds} a _ ih us j hv h=>by
  cases hv with
  |cons r t=>
   obtain⟨b,h1,h⟩:=bS_<|h;cases b with
   |true=>
    obtain⟨c,h2,h3⟩:=bS_<|h;cases h3;exact⟨⋯,KW I hk r a h1,λm hm hlt=>⋯⟩
   |false=>
    obtain⟨k,h2,h3⟩:=bS_<|h;cases h3;obtain⟨hk',e1,e2⟩:=ih _ _ t h2;refine⟨by simpa using hk',⋯,λm hm hlt=>?_⟩;cases m with
    |zero=>exact KW I hk r a h1
    |succ m=>simpa using e2 m _ ⋯) h us j hv e
def OZ(hk:KdOk X kd)(hu:X.A.units+100<cLine):iB X kd "list.index" FD:=by
 intro k s σ H x Y v Z Q I C r h;obtain⟨O,d,ds,r0,ht,D,E,a,q⟩:=h;obtain⟨y',y,rfl,G,a⟩:=Ue E a;obtain⟨es,J,b⟩:=bS_<|a;cases Q7 J
 . obtain⟨j,l,a⟩:=bS_ b;obtain⟨hz,a⟩:=zu a;cases a;obtain⟨u,rfl,L⟩:=vals1 r;cases D with
   |lst M c=>
    cases C;obtain⟨e,f,N,_⟩:=I.list M.sq;obtain⟨⟨cls,P,o,R⟩,p,t,n,z⟩:=N.isList;subst t z;obtain⟨S,T,U⟩:=A1 I hk f c l;have B:=f.length;have g:=c.length;refine call_meets PySem.F.slot_list_index ⟨_,p,rfl⟩ PySem.F.entry_list_index ⋯
     (SeqAt.list_indexAt _ e.toArray n P R _ _ j ⋯ (by omega) ⋯ ⋯)
     ⟨p,λw W=>QG I hk (by show X.A.units+1+50<cLine;exact q0d hu) G L f c (ML l) w (by simpa using W),⟨.int j,H,I.tok _,⟨_,rfl⟩,yc q<|.int _⟩⟩
end
theorem U7:∀{vs:List V}{us:List Value},vs.length=us.length->(∀(i:Nat) v u,vs[i]? = some v->us[i]? = some u->RelV v u)->zU vs us
 | [],[],_,_=>.nil
 | [],_::_,h,_=>by simp at h
 |_::_,[],h,_=>by simp at h
 |v::c,u::d,h,k=>.cons (k 0 v u rfl rfl)<|U7 (by simpa using h) λi a b x y=>k (i+1) a b ⋯ ⋯
section
variable{X:Cx}{tg:Expr}
def qi(ta:TA):TE:=λσ H Q=>ta σ H λvs H1=>∃j:Int,vs=[.int j] /\ -(2 ^ 62)<=j/\j<2 ^ 62/\∀r,H1 r=none->Q (.ref r) (upd H1 r<|.rng 0 j)
def HR(hg:Gl X "range")(hm:X.mg "range"=none)(ha:PA X [a] ta)(hs:starEach [a] X.env=[(false,eval a X.env)]):PE X (.Call (.Name "range" p) [a] [] pos) (qi ta):=by
 intro c s σ H Q I h;refine Call_<|Yy I hg hm boot_range<|PyProof.Rows.callWith_type1 (wD (ha pos c s σ H _ I h) λl f ⟨m,n,d,g,i⟩=>?_) hs rfl;obtain⟨j,e,u,v,q⟩:=i;subst e;cases g with
 |cons r k=>
  cases k;obtain⟨t,rfl⟩:=r;exact call_range_1 ⟨.ref f.heap.objs.size,_,d.laid (λb o e=>zxF _ e) (zzN _) (show vG X.prog X.w _ _ _ (.rng 0 j)from⟨_,_,_,zxH _ rfl⟩),rfl,q _<|d.hok.fresh<|zzN _⟩
def gq(ta:TA):TE:=λσ H Q=>Dy (qi ta) mY σ H λvs H2=>∃r H1,∃j:Int,vs=[.ref r]/\H1 r=none/\H2=upd H1 r (.rng 0 j)/\0<=j/\j<=100000/\∀l,H2 l=none->Q (.ref l) (upd H2 l<|.lst<|(List.range j.toNat).map λ(i:Nat)=>V.int i)
def Hh(hc:X.calm=true)(hg:Gl X "range")(hm:X.mg "range"=none)(hgl:Gl X "list")(hml:X.mg "list"=none)(ha:PA X [a] ta)(hs:starEach [a] X.env=[(false,eval a X.env)])
 (hs':starEach [.Call (.Name "range" p) [a] [] pos] X.env=[(false,eval (.Call (.Name "range" p) [a] [] pos) X.env)]):PE X (.Call (.Name "list" p') [.Call (.Name "range" p) [a] [] pos] [] pos') (gq ta):=by
 intro b s σ H Q I h;refine Call_<|Yy I hgl hml Bt.list<|PyProof.Rows.callWith_type1 (wD ((Xb (HR hg hm ha hs) Uo hs') pos' b s σ H (λD g=>∃r o,∃j:Int,D=[.ref r]/\o r=none/\g=upd o r (.rng 0 j)/\0<=j/\j<=100000/\∀l,g l=none->Q (.ref l) (upd g l<|.lst<|(List.range j.toNat).map λ(i:Nat)=>V.int i)) I ?_) λP E ⟨D,g,m,F,G⟩=>?_) hs' rfl
 . exact h
 obtain⟨r,o,j,rfl,R,rfl,S,T,q⟩:=G;cases F with
 |cons J K=>
  cases K;cases J;obtain⟨t,u,v,L⟩:=m.hok r _<|ya ..;have z:Builtin.Range.rangeSize 0 j 1=j.toNat:=by rw[rangeSize_one];split<;>omega
  refine call_list_range (m.ok.hd hc) L (small_one (by omega) (by omega) (by omega)<|by omega) ⋯ (by omega) λU W A M N B c=>?_;refine⟨.ref E.heap.objs.size,_,m.laid N (zzN _) (show vG X.prog X.w _ _ _ (.lst _)from⟨?_,A.toList,M, ?_,⋯⟩),rfl,q _<|m.hok.fresh<|zzN _⟩
  . rw[zzB,zyU];exact zzO (show j.toNat<=100000 by omega) (by decide)
  . refine U7 (by simpa using c.1.symm) λi x y d O=>?_;rw[zzI]at d;obtain⟨C,e⟩:=c.2 i y (by simpa using O);cases hr:(List.range j.toNat)[i]? with
    |none=>rw[hr]at d;cases d
    |some k=>
     rw[hr]at d;obtain⟨_,f⟩:=zzG.mp hr;subst f;cases d;exact⟨C,by rw[e];simp⟩
end
section
variable{X:Cx}{kd:KD}
noncomputable def qc:List D->Option R0
 | [.int j]=>if 0<=j/\j<=100000 then some (.fl<|(List.range j.toNat).map λ(i:Nat)=>.int i)else none
 |_=>none
theorem FR{K O}:∀l:List Nat,RpL K kd O H (l.map λ(i:Nat)=>V.int i)<|l.map λ(i:Nat)=>D.int i
 | []=>.nil
 |y::r=>.cons (.int y)<|FR r
def Ky(hc:X.calm=true)(hg:Gl X "range")(hm:X.mg "range"=none)(hgl:Gl X "list")(hml:X.mg "list"=none)(ha:AA X kd [a] fr)(hs:starEach [a] X.env=[(false,eval a X.env)])
 (hs':starEach [.Call (.Name "range" p) [a] [] pos] X.env=[(false,eval (.Call (.Name "range" p) [a] [] pos) X.env)]):AE X kd (.Call (.Name "list" p') [.Call (.Name "range" p) [a] [] pos] [] pos') (fP fr qc):=by
 with_unfolding_all exact(yn (Hh hc hg hm hgl hml ha hs hs') λσ H Q h=>by
  obtain⟨F,B,y,as,r,A,R,e,q⟩:=h;obtain⟨⟨C,d⟩,D,e⟩:=bS_<|e;obtain⟨⟨E,Z⟩,f,e⟩:=bS_ e;obtain⟨G,g,e⟩:=bS_ e;obtain⟨z,I,e⟩:=bS_ e;cases e
  match E,g,f with
  | [.int j],g,f=>
   obtain⟨⟨J,L⟩,M⟩:=zu<|g;cases M;refine(⟨F,B,y,as,C,d,R,D,λvs k u v m N=>?_⟩);have O:=Y_ v m f;have P:=ZS v I λw S T U n V=>q w S k T U n<|N.trans V;cases O with
   |cons W Y=>
    cases Y;cases W;refine⟨j,rfl,⋯,⋯,λr x=>⟨r,u,j,rfl,x,rfl,J,L,λl c=>?_⟩⟩;have s:l≠r:=λe=>by rw[e,ya]at c;cases c
    have t:u l=none:=by rwa [zK s]at c
    exact P l _ _ t (λb o q=>xT c b o<|xT x b o q) ya<|FR _)
end
noncomputable def wV(n:Nat)(os:List O):AS:=os.map some++List.replicate (n-os.length) none
theorem BB:∀(ls:List O) {vs:List V}{fp:List Addr},ls.all O.isLf=true->RoL L N H vs ls fp->fp=[]
 | [],_,_,_,r=>by cases r;rfl
 |o::ls,_,_,h,r=>by
  rw[List.all_cons,zyC]at h;cases r with
  |cons a r=>
   cases a with
   |lf _=>rw[BB ls h.2 r];rfl
   |_=>exact absurd h.1 (by simp[O.isLf])
def J0(h:RoL L N H vs ls fp):vs.length=ls.length:=RoL.length h
theorem Bk:∀(ls:List O) {vs:List V}{fp:List Addr}{i:Nat}{o:O},ls.all O.isLf=true->RoL L N H vs ls fp->ls[i]? = some o->∃v,vs[i]? = some v/\Ro L N H v o []
 | [],_,_,_,_,_,_,e=>by simp at e
 |d::ls,_,_,i,o,h,r,e=>by
  rw[List.all_cons,zyC]at h;cases r with
  |cons a r=>
   cases i with
   |zero=>
    simp at e;subst e;cases a with
    |lf z=>exact⟨_,rfl,.lf z⟩
    |_=>exact absurd h.1 (by simp[O.isLf])
   |succ i=>
    obtain⟨v,b,c⟩:=Bk ls h.2 r ⋯;exact⟨v,⋯,c⟩
def Ge{K}(ht:∀a,F a->H a≠none)(hn:T.Nodup)(hT:∀a ∈ T,H a≠none/\¬F a)(hl:ls.all O.isLf=true)(hN:(o::ls).length<=N.length)(ro:v_ K kd F (λ_=>False) (· ∈ T) H vs (o::ls) T):
 Rel K kd F (λ_=>False) [] (λi=>if i=0 then T else[]) (wV N.length (o::ls)) (L2.start N vs) H:=by
 have b:=J0 ro;have n:∀a,Gw [] (λi=>if i=0 then T else[]) a ↔ a ∈ T:=λa=>⟨λz=>z.elim ⋯ λ⟨i,y⟩=>by
  by_cases e:i=0
  . subst e;simpa using y
  . simp[e]at y,λz=>.inr ⟨0,⋯⟩⟩
 have p:∀f a,Lv F (λ_=>False) _ f a->Lv F (λ_=>False) _ f a:=λf a z=>z.imp id (n a).mp;refine⟨by unfold wV L2.start;simp[b];omega,λi c=>?_,λi=>?_,λi j a x y=>?_,zyJ,(λ_ _ _ z=>nomatch z),ht,⋯,λa z=>hT a<|(n a).mp z,λi s e=>?_⟩
 . have:i≠0:=λz=>by subst z;unfold wV at c;simp at c
   simp[this]
 . by_cases e:i=0
   . subst e;simpa using hn
   . simp[e]
 . have g:i=0:=by
    by_cases e:i=0
    . exact e
    . simp[e]at x
   have h:j=0:=by
    by_cases e:j=0
    . exact e
    . simp[e]at y
   rw[g,h]
 . unfold wV at e;unfold L2.start
   by_cases c:i<(o::ls).length
   . rw[zyP (by rwa [zzB]),zzI]at e;obtain⟨d,k,l⟩:=zzX.mp e;subst l;rw[zyP<|by rwa [zzB,b]];cases ro with
     |cons a r=>
      rename_i v q A t;have u:=BB ls hl r;subst u;cases i with
      |zero=>
       simp at k;subst k;exact⟨v,rfl,by simpa using vM.lv p a⟩
      |succ i=>
       obtain⟨w,g,h⟩:=Bk ls hl r ⋯;exact⟨w,by simp[g],by simpa using vM.lv p h⟩
   . rw[zyR<|by rw[zzB];omega]at e;have:=zyA e;have l:=(List.mem_replicate.mp this).2;subst l;have m:i≠0:=λz=>by subst z;exact c ⋯
     show _=[];rw[if_neg m]
section
variable{K:zzA}{kd:KD}{F B G:Addr->Prop}{H:Hp}
theorem NN{st}(h:L st v d):∀(os:List O) {vs:List V}{fp:List Addr},RoL L N H vs os fp->RoL L N H (vs++[v]) (os++[.lf st d]) fp
 | [],_,_,r=>by cases r;exact .cons (.lf h) .nil
 |o::b,_,_,r=>by
  cases r with
  |cons a r=>
   exact .cons a<|NN h b r
end
def NF:typeLookup (.type "list") "keys"=pure none:=⋯
def Fz
 (hx:s.heap.get? a=some o) (hc:o.cls = .type "list") (hdat:o.data = .seq xs k) (hd:o.dict=none) (hA:A.handled=none)
 (h:∀h' tk,(∀b o,s.heap.get? b=some o->h'.get? b=some o)->Q none {s with heap:=h',toks:=tk}):
 wpAny (model prog w) A (getAttr? (.ref a) "keys") Q E s:=by
 obtain⟨c,dct,dat,sl⟩:=o;simp only at hc hdat hd;subst hc hdat hd;obtain⟨hp,g,d,tk,os⟩:=s;have hT:∀tk',(⟨hp,g,d,tk',os⟩:Shared).TypeIs (.ref a) "list":=λ_=>⟨_,hx,rfl⟩;have f1:=sub_AttributeError;have f3:=F.slot_list_getattribute.lookup;have f4:=F.slot_list_getattribute.bind<|.ref a;have f5:=am_list_getattr_none;unfold getAttr? getAttrBy? getAttrBy
 repeat (any_goals (first|assumption|exact hT _|((with_reducible show wpAny _ _ (call _ _ _) _ _ _);refine call_meets F.slot_list_getattribute (hT _) am_entry_list_getattribute (F.args_list_getattribute_2 _ _) (meets_getattribute_miss_list a xs k sl "keys" _ NF<|by decide +kernel) ⟨hx,hA,λh' tk' e hx'=>?_⟩)|wp_step))
 obtain⟨t',u',he⟩:=hx'.there;unfold getattributeRaised
 repeat (any_goals (first|assumption|wp_step))
 exact h _ _ hx'.keeps
def Zg:plainId "dict.update.loop"=true:=by decide +kernel
def Wk:entryFor table "dict.update.loop"=some Builtin.«dict.update.loop» := ⋯
section
variable{prog:Program}{w:World}{κ:Type}[DecidableEq κ]{knd:KeyKind prog w κ}{A:Around}{R:Result->Shared->Prop}{d I l:Addr}{items:Array Value}{N:Nat}
noncomputable def putAll(kvs:List (κ×Value)):List (κ×Value)->List (κ×Value)
 | []=>kvs
 |p::r=>putAll (stored kvs p.1 p.2) r
def Ec(kvs)(k:κ)(v):(stored kvs k v).length<=kvs.length+1:=by
 unfold stored
 split
 . rw[zzB];exact q0Z
 . rw[zzJ];exact zzN _
def Ia(hh:A.handled=none)(hdN:N<=d)(hIN:N<=I)(hdI:d≠I)(hlN:l<N):∀(rest:List (κ×Value)) (i:Nat) (s:Shared) (kvs:List (κ×Value)),s.heap.IsListIter I l i->s.heap.IsList l items->s.heap.DictOf knd d kvs->kvs.length+rest.length<=sizeLine->
 (∀j p,rest[j]? = some p->∃q key,items[i+j]? = some (.ref q)/\q<N/\IsTup s.heap q #[key,p.2]/\knd.is p.1 key=true)->items[i+rest.length]? = none->
 (∀h' tk,h'.DictOf knd d (putAll kvs rest)->(∀b o,b<N->s.heap.get? b=some o->h'.get? b=some o)->R (.ok<|.ret .none) {s with heap:=h',toks:=tk})->
 codeAny (model prog w) A (.builtin "dict.update.loop" ⟨[.ref d,.ref I,rawInt i,.none],[]⟩) R s:=by
 intro rest
 induction rest with
 |nil=>
  intro i s kvs hit hl hm hz hp he hR;refine codeAny_builtin Wk ?_;rw[Around.under_plainId Zg _];refine zxD<|wpAny_pyNext_list_end hh hit hl he λh' hx=>?_;refine zxD<|zxE<|zxE ?_;obtain⟨o,es,ep,ho,r⟩:=hm;exact hR h' s.toks ⟨o,es,ep,hx d o hdI ho,r⟩ λb o hb e=>hx b o (zzQ<|zzK hb hIN) e
 |cons p rest ih=>
  intro i s kvs hit hl hm hz hp he hR;obtain⟨q,key,hq,hqN,ht,hkey⟩:=hp 0 p rfl;refine codeAny_builtin Wk ?_;rw[Around.under_plainId Zg _];refine zxD<|wpAny_pyNext_list_item hit hl hq λh' hit' hs=>?_;have sm:∀b o,b≠I->s.heap.get? b=some o->h'.get? b=some o:=λb o hb e=>(hs.2 b hb).trans e;obtain⟨oq,hoq,hcq,nq,hdq⟩:=ht;have hoq':=sm q oq (zzQ<|zzK hqN hIN) hoq;have hm':h'.DictOf knd d kvs:=let⟨o,es,ep,ho,r⟩:=hm;⟨o,es,ep,sm d o hdI ho,r⟩;have hl':h'.IsList l items:=let⟨o,ho,r⟩:=hl;⟨o,sm l o (zzQ<|zzK hlN hIN) ho,r⟩;have hT:({s with heap:=h'}:Shared).TypeIs (.ref q) "tuple":=⟨oq,hoq',hcq⟩;refine zxD<|zxI<|zxD<|wpAny_tryCatch ?_;unfold Builtin.Dict.pairItems;refine zxD<|wpAny_typeOf hT ?_;rw[if_pos<|by decide];refine zxD<|wpAny_seqItems hoq' hdq<|zxE ?_;refine zxI<|wpAny_dictSet_pairs hkey hm' λh'' hm'' hs''=>?_;have sm2:∀b o,b≠d->h'.get? b=some o->h''.get? b=some o:=λb o hb e=>(hs''.2 b hb).trans e;refine zxE ⟨plainId_quiet Zg _, ?_⟩;have hit'':h''.IsListIter I l (i+1):=let⟨o,ho,r⟩:=hit';⟨o,sm2 I o (Ne.symm hdI) ho,r⟩;have hl'':h''.IsList l items:=let⟨o,ho,r⟩:=hl';⟨o,sm2 l o (zzQ<|zzK hlN hdN) ho,r⟩;have keep:=λb o hb e=>sm2 b o (zzQ<|zzK hb hdN)<|sm b o (zzQ<|zzK hb hIN) e;have:=ih (i+1) {s with heap:=h'',toks:=s.toks+1} _ hit'' hl'' hm'' (by have:=Ec kvs p.1 p.2;simp only[zzT]at hz;omega)
   (λj p' hj=>by
    obtain⟨q',key',a1,a2,⟨o',a3,a4⟩,a5⟩:=hp (j+1) p' (by simpa using hj);exact⟨q',key',by rw[show i+1+j=i+(j+1) from q0k];exact a1,a2,⟨o',keep q' o' a2 a3,a4⟩,a5⟩)
   (by rw[show i+1+rest.length=i+(p::rest).length by simp only[zzT];exact q0k];exact he)
   (λh3 tk hm3 k3=>hR h3 tk hm3 λb o hb e=>k3 b o hb<|keep b o hb e)
  exact this
end
def P2{κ:Type}[DecidableEq κ]{knd:KeyKind prog w κ}{n:Nat}{ps}(hh:A.handled=none)
 (ho:s.heap.get? l=some o) (hc:o.cls = .type "list") (hd:o.data = .seq items n) (hn:o.dict=none) (hsz:ps.length<=sizeLine)
 (hp:∀(j:Nat) (p:κ×Value),ps[j]? = some p->∃(q:Addr) (key:Value),items[j]? = some (Value.ref q)/\IsTup s.heap q #[key,p.2]/\knd.is p.1 key=true) (he:items[ps.length]? = none)
 (h:∀h' tk,h'.DictOf knd s.heap.objs.size (putAll [] ps)->(∀b o,s.heap.get? b=some o->h'.get? b=some o)->Q (.ref s.heap.objs.size) {s with heap:=h',toks:=tk}):wpAny (model prog w) A (call (.type "dict") [.ref l]) Q E s:=by
 refine callType_codes (Q₁:=λd z=>d = .ref s.heap.objs.size/\z={s with heap:=s.heap.push {cls:=.type "dict",data:=.dict #[]}}) F.kt_called_dict (F.kt_typeCall_dict_1 _) F.entry_dict_init (kt_code_dict_new _ ⟨rfl,rfl⟩) ?_
 rintro d z ⟨rfl,rfl⟩
 have a:(s.heap.push {cls:=.type "dict",data:=.dict #[]}).DictOf knd s.heap.objs.size []:=Heap.DictOf.new s.heap;have f:∀b o,s.heap.get? b=some o->(s.heap.push {cls:=.type "dict",data:=.dict #[]}).get? b=some o:=λb o e=>zxF _ e;have C:({s with heap:=s.heap.push {cls:=.type "dict",data:=.dict #[]}}:Shared).TypeIs (.ref l) "list":=⟨o,f l o ho,hc⟩;refine⟨a.typeIs,F.args_dict_init_2 _ _, ?_⟩;refine zxD ?_;refine zxD<|wpAny_notOrdered_dict a.typeIs ?_;refine zxE ?_;show wpAny _ _ (Builtin.Dict.updateFrom "dict.__init__" s.heap.objs.size _ [] .none) _ _ _;refine zxD<|wpAny_typeOf C ?_;refine zxD<|Fz (f l o ho) hc hd hn hh λg v i=>?_;refine zxD<|wpAny_rule ?_;have k:=i l o<|f l o ho;have x:g.IsList l items:=⟨o,k,hc,n,hd⟩;refine zxD<|wpAny_pyIter_list x ?_;have t:∀b o,g.get? b=some o->(g.push {cls:=.type "list_iterator",data:=.fields #[.ref l,.int 0 0]}).get? b=some o:=λb o e=>zxF _ e;have m:s.heap.objs.size<g.objs.size:=by
  obtain⟨u,_,_,c,_⟩:=a;exact zxG<|i _ _ c
 refine zxE ⟨plainId_quiet Zg _, ?_⟩;refine Ia (A:=A.in1) (knd:=knd) hh (zzN _) (Nat.le_of_lt m) (zzQ m) (zxG ho) ps 0 {s with heap:=g.push {cls:=.type "list_iterator",data:=.fields #[.ref l,.int 0 0]},toks:=v} [] ⟨_,zxH _ rfl,rfl,rfl⟩ ⟨o,t l o k,hc,n,hd⟩ ?_ (by rw[List.length_nil];omega) (λj p D=>?_) (by rwa [zyX]) λG H I J=>?_
 . obtain⟨u,K,L,c,r⟩:=a;exact⟨u,K,L,t _ _<|i _ _ c,r⟩
 . obtain⟨q,y,M,⟨u,B,O⟩,P⟩:=hp j p D;exact⟨q,y,by rw[zyX];exact M,zxG B,⟨u,t _ _<|i _ _<|f _ _ B,O⟩,P⟩
 . exact⟨rfl,h G H I λb o e=>J b o (zxG e)<|t _ _<|i _ _<|f _ _ e⟩
def Us:List D->Option (List<|Key×D)
 | []=>some []
 |d::r=>(lS d).bind λl=>(sH l).bind λp=>(Ac p.1).bind λk=>(Us r).bind λt=>some ((k,p.2)::t)
def kH:D->Option R0
 | .dct kvs=>some<|.fd kvs
 | .lst ds=>(Us ds).bind λkvs=>if(kvs.map (·.1)).Nodup then some (.fd kvs)else none
 |_=>none
def Pn:List D->Option R0:=tV kH
theorem Pv[DecidableEq κ]:∀(ps acc:List (κ×Value)),((acc++ps).map (·.1)).Nodup->putAll acc ps=acc++ps
 | [],a,_=>(zyE a).symm
 |p::r,a,h=>by
  have b:stored a p.1 p.2=a++[p]:=by
   unfold stored;rw[if_neg];rw[zyM]at h;obtain⟨_,_,c⟩:=zxC.mp h;intro z;obtain⟨q,m,e⟩:=List.any_eq_true.mp z;exact c q.1 (List.mem_map_of_mem m) p.1 (zzF ..)<|of_decide_eq_true e
  show putAll _ r=_;rw[b,Pv r _ (by rwa [zxA]),zxA];rfl
section
variable{X:Cx}{kd:KD}{O:Addr->Prop}{pins:List (Addr×Obj)}{σ:St}{H:Hp}{s:Shared}
theorem To(I:Inv X pins σ H s):∀{vs:List V}{us:List Value}{ds:List D}{dk:List (Key×D)},RpL X.K kd O H vs ds->zU vs us->Us ds=some dk->
 ∃(kvs:List (Key×V)) (ps:List (Key×Value)),KV kvs ps/\RpM X.K kd O H kvs dk/\ps.length=us.length/\ps.map (·.1)=dk.map (·.1)/\kvs.length=ps.length/\
  ∀(j:Nat) (p:Key×Value),ps[j]? = some p->∃(q:Addr) (key:Value),us[j]? = some (Value.ref q)/\IsTup s.heap q #[key,p.2]/\(wI X.prog X.w).is p.1 key=true
 |_,_,[],_,b,r,e=>by
  cases b;cases r;cases e;exact⟨[],[],.nil,.nil,rfl,rfl,rfl,λj p h=>by simp at h⟩
 |_,_,d::i,dk,b,r,e=>by
  cases b with
  |cons l b=>
   cases r with
   |cons m r=>
    obtain⟨l0,n,o⟩:=bS_<|e;obtain⟨_,x,y⟩:=bS_ o;cases Oe n;cases K2 x
    . obtain⟨c,z,e⟩:=bS_ y;obtain⟨t,A,e⟩:=bS_ e;cases e;obtain⟨f,B,C,E,F,G,J,L⟩:=To I b r A;cases l.vw with
      | tup M N a=>
            rename_i q ws;cases a with
            |cons P a=>
             cases a with
             |cons Q a=>
              cases a;rename_i R g;have S:=OQ P.vw z;subst S;obtain⟨T,U,W,_⟩:=I.tuple N;obtain⟨Y,Z,rfl,r1,r2⟩:=vals2 U;cases m;refine⟨_::f,(c,Z)::B,.cons ⟨rfl,r2⟩ C,.cons Q E,congrArg _ F,congrArg _ G,congrArg _ J,λj p h=>?_⟩;cases j with
              |zero=>
               simp at h;subst h;exact⟨q,Y,rfl,W,Bg r1⟩
              |succ j=>simpa using L j p ⋯
def VH(hc:X.calm=true)(hk:KdOk X kd):Z_ X kd (.type "dict") Pn:=by
 intro c s σ H xs A Q I r h;obtain⟨O,ds,z,B,C,b,q⟩:=h;obtain⟨x,d,rfl,D,b⟩:=Ue C b;cases D with
 |dct e E=>exact B3 hk c s σ H _ A Q I r ⟨O,[.dct _],z,B,.cons (.dct e E) .nil,b,q⟩
 |lst e F=>
  obtain⟨dk,G,b⟩:=bS_<|b;obtain⟨J,b⟩:=zu b;cases b;obtain⟨u,rfl,K⟩:=vals1 r;cases K;obtain⟨L,m,⟨o,n,M,f,g,i⟩,hz⟩:=I.list e.sq;obtain⟨k,t,N,P,R,S,a5,T⟩:=To I F m G;have v:=m.length;refine P2 (knd:=wI X.prog X.w) (ps:=t) (I.ok.hd hc) M f i g ⋯ (λj p U=>?_) (by rw[R];simp) λh' V y W=>?_
  . obtain⟨Y,l,Z,b2,b3⟩:=T j p U;exact⟨Y,l,by simpa using Z,b2,b3⟩
  . rw[Pv t []<|by rwa [List.nil_append,S]]at y;exact⟨.ref _,_,I.laid (t':=V) W (zzN _)<|Iy ⋯ (beq_eq_false_iff_ne.mpr<|Ne.symm<|zzQ I.big) N y,rfl,CV q P _<|I.hok.fresh<|zzN _⟩
 |_=>cases b
end
noncomputable def J5:List D->Option R0
 | [.int i,.int j]=>if 0<j/\j<1073741824 then some (.im<|.tup [.int<|i/j,.int<|i%j])else none
 |_=>none
def n4{α:Type}{P:List α->Prop}(h:∀a,P [a]):∀us:List α,us.length=1->P us
 | [a],_=>h a
def qR{α:Type}{P:List α->Prop}(h:∀a b,P [a,b]):∀us:List α,us.length=2->P us
 | [a,b],_=>h a b
def qk{α:Type}{P:List α->Prop}(h:∀a b c,P [a,b,c]):∀us:List α,us.length=3->P us
 | [a,b,c],_=>h a b c
def oR{α:Type}{P:List α->Prop}(h:∀a b c d,P [a,b,c,d]):∀us:List α,us.length=4->P us
 | [a,b,c,d],_=>h a b c d
def nJ{α:Type}{P:List α->Prop}(h:∀a b c d e,P [a,b,c,d,e]):∀us:List α,us.length=5->P us
 | [a,b,c,d,e],_=>h a b c d e
section
variable{X:Cx}{kd:KD}
def S5:Z_ X kd (.builtin "divmod") J5:=by
 intro a s σ H j c Q I r h;obtain⟨O,k,z,d,e,b,q⟩:=h;unfold J5 at b
 split at b
 . obtain⟨f,rfl⟩:=zu b;obtain⟨x,y,rfl,g,i⟩:=F2 e;cases g;cases i;exact MU a s σ H _ c Q I r ⟨_,_,rfl,f,Tj d q<|.cons (.int _)<|.cons (.int _) .nil⟩
 . cases b
def aI:AE X kd (.Constant (.int c) j pos) (fC<|.int c):=TB uf λ_ _=>.int _
def aS:AE X kd (.Constant (.str c) j pos) (fC<|.str c):=TB tI λ_ _=>.str _
def aZ:AE X kd (.Constant .none j pos) (fC .non):=TB t7 λ_ _=>.non
def aB:AE X kd (.Constant (.bool c) j pos) (fC<|.bl c):=TB mX λ_ _=>.bl _
def ax{K}(hkd:qb P w K kd)(ha:AE X kd a fa)(hb:AE X kd b fb)(h1:X.prog=P:=by rfl)(h2:X.w=w:=by rfl)(h3:X.K=K:=by rfl)(hm:NC b:=by exact λ_ _=>rfl):AE X kd (.Subscript a b pos) (f2 fa fb zv):=ou (jQ<|hkd _ h1 h2 h3) ha hb hm
def sv(z)(i:Nat)(hN:X.N.Nodup)(he:AE X kd e fa)(hi:X.N[i]? = some x:=by rfl)(hx:Loc X.env.scope x:=by first|exact Or.inl rfl|exact Or.inr rfl)(hs:swapsWith e (some<|.Name x pos') pos.line X.env=pure false:=by rfl)(hf:X.fn x=true\/X.env.scope.names.lookup x=some .local:=by first|exact Or.inl rfl|exact Or.inr rfl):
 Fk X kd (.Assign [.Name x pos'] e pos) (zr z i fa):=CM hN hi hx he hs hf
def an(i:Nat)(hN:X.N.Nodup)(hi:X.N[i]? = some x:=by rfl)(hx:Loc X.env.scope x:=by first|exact Or.inl rfl|exact Or.inr rfl)(hf:X.fn x=true\/X.env.scope.names.lookup x=some .local:=by first|exact Or.inl rfl|exact Or.inr rfl):AG X kd (.Name x pos) [i] (gN i):=BQ hN hi hx hf
def av(i:Nat)(hN:X.N[i]? = some x:=by rfl)(hv:lK X.env.scope x:=by first|exact Or.inl rfl|exact Or.inr (Or.inl rfl)|exact Or.inr (Or.inr rfl))(hd:(x==("__debug__":Str))=false:=by decide)
 (hcd:(x==("__classdict__":Str))=false:=by decide):AE X kd (.Name x pos) (fV i):=uK<|O3 hN hv hd hcd
end
noncomputable def Ex{α:Type}:List Str->List α->Str->Option α
 | [],_,_=>none
 |_,[],_=>none
 |n::ns,a::as,f=>if f=n then some a else Ex ns as f
theorem Yb(f):∀(ns:List Str) (vs:List V),(ns.zip vs).lookup f=Ex ns vs f
 | [],_=>rfl
 |_::_,[]=>rfl
 |n::a,v::b=>by
  show List.lookup f (_::a.zip b)=if f=n then some v else Ex a b f
  rw[List.lookup_cons]
  by_cases h:f=n
  . rw[if_pos h,beq_iff_eq.mpr h]
  . rw[if_neg h,beq_eq_false_iff_ne.mpr h];exact Yb f a b
theorem OC{K O}:∀{ns:List Str}{vs:List V}{ds:List D},RpL K kd O H vs ds->Ex ns ds f=some d->∃v,Ex ns vs f=some v/\Rp K kd O H v d
 | [],_,_,_,e=>by cases e
 |_::_,_,_,.nil,e=>by cases e
 |n::a,_,_,.cons (v:=v) (d:=b) (vs:=c) (ds:=g) h r,e=>by
  have e:(if f=n then some b else Ex a g f)=some d:=e;show ∃w,(if f=n then some v else Ex a c f)=some w/\_
  by_cases q:f=n
  . rw[if_pos q]at e ⊢;cases e;exact⟨v,rfl,h⟩
  . rw[if_neg q]at e ⊢;exact OC r e
theorem V_:∀{ns:List Str}{vs:List α},f ∉ ns->Ex ns vs f=none
 | [],_,_=>rfl
 |_::_,[],_=>rfl
 |n::a,v::b,h=>by
  show(if f=n then some v else Ex a b f)=_;rw[if_neg λe=>h<|by rw[e];exact zzF];exact V_ λm=>h<|zzD _ m
theorem Tc:∀{ns:List Str}{vs:List V},ns.length=vs.length->f ∉ ns->X5 f v (ns.zip vs)=(ns++[f]).zip (vs++[v])
 | [],[],_,_=>rfl
 | [],_::_,h,_=>by cases h
 |_::_,[],h,_=>by cases h
 |n::a,w::b,h,c=>by
  show(if n=f then _::a.zip b else _::X5 f v (a.zip b))=_::(a++_).zip (b++_);rw[if_neg λe=>c (by rw[e];exact zzF),Tc (Nat.succ.inj h) λm=>c<|zzD _ m]
def z_(cs:List Str)(f:Str):D->Option R0
 | .ob c ns ds=>if c ∈ cs then(Ex ns ds f).bind λd=>some (.im d)else none
 |_=>none
def CF(K:zzA)(kd:KD)(cs:List Str)(f:Str):Prop:=∀c ∈ cs,Cls K (kd.c c)/\yJ K (kd.c c) f
section
variable{X:Cx}{kd:KD}{a e o:Expr}{es:List Expr}{fa fo fe:EF}{fr:AF}{pos pos' apos:Pos}{m f:Str}{cs:List Str}
def uZ(hc:CF X.K kd cs f)(ha:AE X kd a fa)(hb:attributeBase a f X.env (eval a X.env)=eval a X.env):AE X kd (.Attribute a f pos) (f1 fa<|z_ cs f):=by
 with_unfolding_all exact(yn (K8 ha hb) λσ H Q h=>by
  obtain⟨F,B,P,as,r,m,R,e,q⟩:=h;obtain⟨_,o,e⟩:=bS_<|e;obtain⟨⟨x,S⟩,s,e⟩:=bS_ e;obtain⟨z,b,e⟩:=bS_ e;obtain⟨y,t,e⟩:=bS_ e;cases e;refine vU R o λv c u k g A=>?_;have C:=xy.vw k g s;have D:=ZS k t λw E G I i J=>q w E c G I i<|A.trans J;cases C with
  |ob L T M=>
   obtain⟨l,b⟩:=ite_some' b;obtain⟨d,N,b⟩:=bS_ b;cases b;obtain⟨w,O,j⟩:=OC M N;exact⟨_,_,_,_,w,rfl,L,(hc _ l).1,(hc _ l).2,(Yb _ _ _).trans O,D w u (λ_ _ z=>z) j⟩
  |_=>cases b)
def A3(X:Cx)(m:Str)(ta:TE)(t:TA):TE:=λσ H Q=>ta σ H λx H1=>∃a C dx fs k f fd ps sp,x = .ref a/\H1 a=some (.ins C dx fs)/\Cls X.K C/\Meth X.K C m f/\fs.lookup m=none/\
 FnOk X.prog X.w X.K X.mg X.base XQ k f fd ps sp/\Room k X.A/\Binds X.K fd ps []/\t σ H1 λvs H2=>sp (x::vs) H2 Q λ_ _ _=>False
def EO(he:PE X o ta)(hx:Z0 XQ X λ_ _ _=>False)(ha:PA X (e::es) t)
 (hst:starEach (e::es) X.env=(false,eval e X.env)::starEach es X.env) (hpl:(backTo pos<|starEach es X.env).any (·.1)=false)
 (ht:eval (.Call (.Attribute o m apos) (e::es) [] pos) X.env=(do
  let ov <-eval o X.env
  standAt apos.atName
  let(f,first) <-holding [ov] (getMethod ov m pl)
  callWith pos f first (backTo pos<|starEach (e::es) X.env) (backToKw pos<|keywordEach [] X.env))):
 PE X (.Call (.Attribute o m apos) (e::es) [] pos) (A3 X m ta t):=by
 intro b s σ H Q I h;refine W.methodCall_KW (wD (he b s σ H _ I h) λu j hq0=>?_) ht;obtain⟨x,n,d,p,a,C,E,G,k,f,fd,J,K,v,w,c,g,l,F,y,z,q⟩:=hq0;subst v;obtain rfl:u=Value.ref a:=p;refine Fu d w c g l ?_;refine W.callWith_K I.ok.mod.kin g.kp (wD (ha pos b j σ n _ d q) λA L ⟨B,M,i,r,D⟩=>⟨i.kIn, ?_⟩) hst hpl;refine C6 (vs:=.ref a::B) F y z .nil hx i (.cons rfl r) ?_
 rwa [zyE]
end
noncomputable def Bl:List (Str×Fn)->Str->Option Fn
 | [],_=>none
 |p::r,c=>if c=p.1 then some p.2 else Bl r c
def MT(P:Program)(w:World)(K:zzA)(mg:Str->Option Value)(base:Heap)(kd:KD)(m:Str)(k:Nat)(tbl:List (Str×Fn)):Prop:=
 ∀c g,Bl tbl c=some g->∃k' f fd ps,k'<=k/\Cls K (kd.c c)/\Meth K (kd.c c) m f/\FnOk P w K mg base XQ k' f fd ps (V4 K kd g)/\Binds K fd ps []
section
variable{P:Program}{w:World}{K:zzA}{mg:Str->Option Value}{base:Heap}{kd:KD}{m:Str}{k:Nat}{tbl:List (Str×Fn)}
def Z5:MT P w K mg base kd m k []:=λc g h=>by cases h
def AY(hk:k'<=k)(cl:Cls K (kd.c c))(me:Meth K (kd.c c) m f)(F:FnOk P w K mg base XQ k' f fd ps (V4 K kd g))(b:Binds K fd ps [])(h:MT P w K mg base kd m k tbl):MT P w K mg base kd m k ((c,g)::tbl):=λc' g' e=>by
 have e:(if c'=c then some g else Bl tbl c')=some g':=e
 by_cases q:c'=c
 . rw[if_pos q]at e;cases e;subst q;exact⟨k',f,fd,ps,hk,cl,me,F,b⟩
 . rw[if_neg q]at e;exact h c' g' e
end
noncomputable def ik(m:Str):D->Option Str
 | .ob c ns _=>if m ∈ ns then none else some c
 |_=>none
def Yc(tbl:List (Str×Fn))(m:Str)(fo:EF)(fr:AF):EF:=λas=>(fo as).bind λp=>(p.1.frz.view p.2).bind λw=>(ik m w.1).bind λc=>(Bl tbl c).bind λg=>(fr p.2).bind λq=>(Yz q.2 (p.1.frz::q.1)).bind λx=>(g x).bind λo=>some (.ow o,q.2)
section
variable{X:Cx}{kd:KD}{a e o:Expr}{es:List Expr}{fa fo fe:EF}{fr:AF}{pos pos' apos:Pos}{m f:Str}{cs:List Str}{tbl:List (Str×Fn)}{k:Nat}
def oF(hT:MT X.prog X.w X.K X.mg X.base kd m k tbl)(hr:Room k X.A)(ht:∀σ H Q,De X.K kd fr σ H Q->t σ H Q)(h:al X.K kd (Yc tbl m fo fr) σ H Q):A3 X m (al X.K kd fo) t σ H Q:=by
 obtain⟨F,B,ad,as,r,E,R,e,q⟩:=h;obtain⟨⟨p,i⟩,G,e⟩:=bS_<|e;obtain⟨⟨w,lv⟩,I,e⟩:=bS_ e;obtain⟨c,a,e⟩:=bS_ e;obtain⟨g,J,e⟩:=bS_ e;obtain⟨⟨L,j⟩,M,e⟩:=bS_ e;obtain⟨N,O,e⟩:=bS_ e;obtain⟨o,P,e⟩:=bS_ e;cases e;refine vU R G λv l H1 z d S=>?_;have T:=xy.vw z d I;cases T with
 | @ob a' dx U C V W Y hl rl=>
  have a:(if m ∈ C then none else some U)=some c:=a
  by_cases n:m ∈ C
  . rw[if_pos n]at a;cases a
  . rw[if_neg n]at a;cases a;obtain⟨Z,f,fd,ps,s,cl,me,F1,b⟩:=hT _ _ J;refine⟨_,_,_,_,Z,f,fd,ps,_,rfl,Y,cl,me,(Yb _ _ _).trans<|V_ n,F1,hr.mono s,b,ht _ _ _ ⟨F,B,l,i,L,j,z,M,λvs u H2 R2 x D=>?_⟩⟩;exact⟨_,N,o,R2.trk true,Ph R2 (.cons (d.grow D) x) O,P,EU R2 λw T' H' R' y g'=>q w T' u H' R' y<|(S.trans D).trans g'⟩
 |_=>cases a
def sx(hT:MT X.prog X.w X.K X.mg X.base kd m k tbl)(hr:Room k X.A)(hx:Z0 XQ X λ_ _ _=>False)(ho:AE X kd o fo)(ha:AA X kd (e::es) fr)
 (hst:starEach (e::es) X.env=(false,eval e X.env)::starEach es X.env) (hpl:(backTo pos<|starEach es X.env).any (·.1)=false)
 (ht:eval (.Call (.Attribute o m apos) (e::es) [] pos) X.env=(do
  let ov <-eval o X.env
  standAt apos.atName
  let(f,first) <-holding [ov] (getMethod ov m pl)
  callWith pos f first (backTo pos<|starEach (e::es) X.env) (backToKw pos<|keywordEach [] X.env))):
 AE X kd (.Call (.Attribute o m apos) (e::es) [] pos) (Yc tbl m fo fr):=by
 with_unfolding_all exact(yn (EO ho hx ha hst hpl ht) λσ H Q h=>oF hT hr (λ_ _ _ z=>z) h)
end
abbrev Sg:=AS->Option AS
def bf(K:zzA)(kd:KD)(f:Sg):TS:=λD σ H=>∃F B ad as as',Rel K kd F B [] ad as σ H/\f as=some as'/\∀ad' H',Rel K kd F B [] ad' as' σ H'->Grow (Gw [] ad) H (Gw [] ad') H'->D.nx σ H'
@[irreducible] def lO(X:Cx)(kd:KD)(st:List Stmt)(f:Sg):Prop:=NH X st<|bf X.K kd f
@[irreducible] def oj(X:Cx)(kd:KD)(st:Stmt)(f:Sg):Prop:=PS X st<|bf X.K kd f
def X2(i:Nat)(cs:List Str)(f:Str)(fe:EF):Sg:=λas=>(fe as).bind λp=>(VE p.2 p.1).bind λx=>match x.2[i]? with
 |some (some (.nd (.ob c ns) os))=>if c ∈ cs/\f ∉ ns/\ns.length<1000 then some (x.2.set i<|some<|.nd (.ob c<|ns++[f])<|os++[.lf x.1.1 x.1.2])else none
 |_=>none
noncomputable def JB(fe:EF):Sg:=λas=>(fe as).bind λp=>some p.2
noncomputable def Zv(f g:Sg):Sg:=λas=>(f as).bind g
section
variable{X:Cx}{kd:KD}{e o:Expr}{st:Stmt}{rest:List Stmt}{fe:EF}{f g:Sg}{pos pos':Pos}{cs:List Str}{n:Str}
def J1(he:AE X kd e fe)(hs:swapsWith e none pos.line X.env=pure false):oj X kd (.Expr e pos) (JB fe):=by
 with_unfolding_all exact(wX (RU he hs) λD σ H h=>by
  obtain⟨F,B,c,as,o,R,e,q⟩:=h;obtain⟨⟨p,a⟩,d,e⟩:=bS_<|e;cases e;exact⟨F,B,c,as,p,a,R,d,λv j b f i k g=>q b f i.drop<|g.trans<|Grow.less Gw.drop⟩)
def xN(hc:CF X.K kd cs n)(ho:PE X o (VL j))(he:AE X kd e fe)(hs:swapsWith e (some<|.Attribute o n pos') pos.line X.env=pure false):oj X kd (.Assign [.Attribute o n pos'] e pos) (X2 j cs n fe):=by
 with_unfolding_all exact(wX (CZ ho he hs) λD σ H h=>by
  obtain⟨F,B,P,as,o,R,e,q⟩:=h;obtain⟨⟨p,t⟩,Q,e⟩:=bS_<|e;obtain⟨⟨⟨A,d⟩,w⟩,S,e⟩:=bS_ e;cases f:w[j]? with
  |none=>rw[f]at e;cases e
  |some T=>
   rw[f]at e
   match T,e,f with
   |some (.nd (.ob c E) G),e,f=>
    obtain⟨⟨I,U,V⟩,e⟩:=zu e;cases e;refine⟨F,B,P,as,p,t,R,Q,λv T1 W J Y x Z=>?_⟩;obtain⟨b,R2,rp,le⟩:=YM Y x S;obtain⟨v0,g,i⟩:=R2.sl j _ f;refine⟨v0,g, ?_⟩;generalize k:b j=fp1 at i;cases i with
    |ob hC L s rl=>
     rename_i l M C O fp;have ec:=hC.cl_eq;subst ec;have r:=R2.nd j;rw[k]at r;have y : v_ X.K kd F B (Gw [] b) J (O++[v]) (G++[.lf A d]) fp:=by
            have:=rl.append<|RoL.one<|Ro.lf rp
            rwa [zyE]at this
     refine⟨l,_,M,_,rfl,L,(hc _ I).1,(hc _ I).2,by rw[List.length_zip,s,Nat.min_self,<-s];exact V, ?_⟩;rw[Tc s U];obtain⟨R4,g4⟩:=R2.mut (n:=.nd (.ob c<|E++[n]) _) (zzG.mp f).1 k g (fp':=fp) (λa m=>m) (by rw[zyE];exact(zzW.mp r).2) (by rw[L];simp) λH' G' z gr kp=>.ob (.cl c) z (by rw[zzJ,zzJ,s];rfl)<|v_.grow gr kp y;exact q _ _ R4<|(Z.trans<|Grow.less le).trans g4)
def Lp(h:oj X kd st f):lO X kd [st] f:=by
 with_unfolding_all exact(Pb h)
def xk(h1:oj X kd st f)(h2:lO X kd rest g):lO X kd (st::rest) (Zv f g):=by
 with_unfolding_all exact(Xr (V9 h1 h2) λD σ H h=>by
  obtain⟨F,B,d,as,o,R,e,q⟩:=h;obtain⟨c,i,e⟩:=bS_<|e;exact⟨F,B,d,as,c,R,i,λa n j k=>⟨F,B,a,c,o,j,e,λb l R2 m=>q b l R2<|k.trans m⟩⟩)
end
noncomputable def lL(c:Str):O:=.nd (.ob c []) []
noncomputable def Ee(x:Bool×D):O:=.lf x.1 x.2
noncomputable def slot0:AS->Option O
 |some o::_=>if o.str=true then some o else none
 |_=>none
def rY(c:Str)(n m:Nat)(f:Sg)(ds:List (Bool×D)):Option O:=if ds.length+1=m then(f<|wV n (lL c::ds.map Ee)).bind slot0 else none
def rd(K:zzA)(kd:KD)(c:Str)(g:Fn):Sp:=λvs H Q _=>∃F x dx vs' ds o,vs = .ref x::vs'/\H x=some (.ins (kd.c c) dx [])/\(∀a,F a->H a≠none)/\¬F x/\RpI K kd F (λ_=>False) (· = x) H vs' ds/\g ds=some o/\
 ∀T H',T.Nodup->(∀a ∈ T,a=x\/H a=none)->(∀b u,H b=some u->b≠x->H' b=some u)->(∀a ∈ T,H' a≠none)->Ro (λ_ v d=>Rp K kd (WM F (· ∈ T)) H' v d) (λa=>¬WM F (· ∈ T) a) H' (.ref x) o T->Q .non H'
def Ii{K}(h:RpI K kd F B G H vs ds):v_ K kd F B G H vs (ds.map Ee) []:=by
 induction h with
 |nil=>exact .nil
 |cons a _ b=>exact RoL.cons (Ro.lf a) b
def FM(ds:List (Bool×D)):(ds.map Ee).all O.isLf=true:=by
 induction ds with
 |nil=>rfl
 |cons x r a=>exact a
section
variable{P:Program}{w:World}{K:zzA}{mg:Str->Option Value}{base:Heap}
def Es{st}{k:Nat}(Fn:Fun K x qual st f fd)(S:FnScope N ps (zO st))(hps:ps.length<=N.length)
 (hb:∀(cdv:Value) (A:Around) (outer:List Env) (s:Shared) (H:Hp) (E:XK),Room k (A.deeper<|envOfC qual (zO st) s.heap.objs.size f cdv)->lO (Rb XQ P w K mg base N qual (zO st) f cdv A outer s H E).nox kd (Ze st) b):
 FnOk P w K mg base XQ (k+1) f fd ps (rd K kd c<|rY c N.length ps.length b):=by
 with_unfolding_all (
 refine Fn.ok S (λvs H Q E h=>?_) λcdv A outer s H vs Q E hr h=>⟨_,hb cdv A outer s H E hr, ?_⟩
 . obtain⟨F,x,dx,vs',ds,o,rfl,_,_,_,rp,e,_⟩:=h;obtain⟨hl,_⟩:=ite_some'<|e;rw[zzT,rp.length,hl]
 . obtain⟨F,x,dx,vs',ds,o,rfl,hx,ht,hF,rp,e,q⟩:=h;obtain⟨hl,e⟩:=ite_some'<|e;obtain⟨as',e1,e2⟩:=bS_ e;have ro:v_ K kd F (λ_=>False) (· ∈ [x]) H (V.ref x::vs') (lL c::ds.map Ee) [x]:=by
    have e0:(λa=>a ∈ [x])=(λa=>a=x):=⋯;rw[e0];exact RoL.cons (Ro.ob (.cl c) hx rfl .nil)<|Ii rp
   have R0:=Ge (N:=N) ht ⋯ (λa m=>by rw[zzR.mp m,hx];exact⟨⋯,hF⟩) (FM ds) (by rw[zzT,zzB];omega) ro;have gw:∀a,Gw [] (λi=>if i=0 then[x]else[]) a->a=x:=λa z=>z.elim ⋯ λ⟨i,y⟩=>by
    by_cases e:i=0
    . subst e;simpa using y
    . simp[e]at y
   refine⟨F,λ_=>False,_,_,as',R0,e1,λad' H' R' g'=>?_⟩
   match as',e2,R' with
   |some o'::r,e2,R'=>
    obtain⟨hs,e2⟩:=zu<|e2;subst e2;obtain⟨v,hv,ro'⟩:=R'.sl 0 _ rfl;have hv0:(L2.start N (V.ref x::vs'))[0]? = some _:=rfl;cases hv;have rt:=Ly R' (R'.nd 0) (λa m=>.inr ⟨0,m⟩) ro' hs;exact q _ H' rt.nd (λa m=>(g'.own a<|.inr ⟨0,m⟩).imp (gw a) id) (λb u h hb=>g'.keep b u h λz=>hb<|gw b z) rt.tr rt.ro)
end
section
variable{X:Cx}{kd:KD}{e:Expr}{es:List Expr}{fr:AF}{pos p:Pos}{g:Fn}
def rh(h:al X.K kd (zg fr g) σ H Q):DU (kd.c c) (rd X.K kd c g) [] E (De X.K kd fr) σ H Q:=by
 obtain⟨F,B,G,as,r,I,R,e,q⟩:=h;obtain⟨⟨p,J⟩,L,e⟩:=bS_<|e;obtain⟨M,A,e⟩:=bS_ e;obtain⟨o,C,e⟩:=bS_ e;cases e;refine⟨F,B,G,as,p,_,R,L,λN d f n i O x j l s P=>?_⟩;rw[zyE];have k:∀b u,f b=some u->upd (upd f j<|.own x) x (.ins (kd.c c) j []) b=some u:=λb u h=>by rwa [zK<|z9 h l,zK<|z9 h s]
 have D:∀b,upd _ x _ b=none->f b=none:=λb h=>by
  cases e:f b with
  |none=>rfl
  |some u=>rw[k b u e]at h;cases h
 refine⟨Lv F B _ true,x,j,N,M,o,rfl,ya,λa z y=>n.trk true a z<|D a y,λz=>n.trk true x z l, ?_,C,λT t S U V Y Z=>⟨rfl, ?_⟩⟩
 . have ra:=Ph n i A;clear e C A i
   induction ra with
   |nil=>exact .nil
   |cons h _ ih=>
    refine .cons ?_ ih;exact Rp.grow (W:=λ_=>False) (W':=_) ⟨λb u h _=>k b u h,λb e=>.inr<|by rwa [e]⟩<|h.less λa z=>z.elim ⋯ λy=>y.elim
 . exact EU n (λw T' t R' v g'=>q w T' d t R' v<|O.trans g') _ T t S (λa m=>(U a m).elim (λe=>by rwa [e])<|D a) (λb u h=>V b u (k b u h)<|z9 h l) Y Z
def JM(hC:kd.c c=C)(M:Mk X.K C f)(F:FnOk X.prog X.w X.K X.mg X.base XQ k f fdt ps (rd X.K kd c g))(hr:Room (k+1) X.A)(hg:Gl X x)(hm:X.mg x=some (.ref C))(hb:Binds X.K fdt ps [])(hx:Z0 XQ X λ_ _ _=>False)
 (ha:AA X kd (e::es) fr) (hdb:(x==("__debug__":Str))=false) (he:starEach (e::es) X.env=(false,eval e X.env)::starEach es X.env) (hpl:(backTo pos<|starEach es X.env).any (·.1)=false):
 AE X kd (.Call (.Name x p) (e::es) [] pos) (zg fr g):=by
 subst hC
 with_unfolding_all exact(yn (Jk M F hr hg hm hb .nil hx ha hdb he hpl) λσ H Q h=>rh h)
end
noncomputable def GA(mg:Str->Option Value):Str->Addr:=λx=>match mg x with
 |some (.ref a)=>a
 |_=>0
def L4(h:mg x=some (.ref a)):GA mg x=a:=by
 unfold GA;rw[h]
structure CI(K:zzA)(kd:KD)(mg:Str->Option Value)(c:Str)(C:Addr):Prop where
 eq:kd.c c=C
 cl:Cls K C
 mks:W.makesIn K C=true
 kp:W.keepIn K (.ref C)=true
 mg:mg c=some (.ref C)
section
variable{P:Program}{w:World}{K:zzA}{mg:Str->Option Value}{base:Heap}{kd:KD}{m f:Str}{k:Nat}{tbl:List (Str×Fn)}{cs:List Str}{c:Str}{C:Addr}
def tH{k':Nat}{f}(ci:CI K kd mg c C)(me:Meth K C m f)(F:FnOk P w K mg base XQ k' f fd ps (V4 K kd g))(hk:k'<=k)(b:Binds K fd ps [])(h:MT P w K mg base kd m k tbl):MT P w K mg base kd m k ((c,g)::tbl):=by
 have e:=ci.eq;subst e;exact AY hk ci.cl me F b h
def vE:CF K kd [] f:=λc h=>nomatch h
def wW(ci:CI K kd mg c C)(n:yJ K C f)(h:CF K kd cs f):CF K kd (c::cs) f:=λb a=>by
 have e:=ci.eq;subst e
 rcases zzC.mp a with rfl|a
 . exact⟨ci.cl,n⟩
 . exact h b a
def CI.mk'{f}(ci:CI K kd mg c C)(me:Meth K C "__init__" f):Mk K C f:=⟨ci.mks,me.at_,me.fn,ci.kp⟩
end
def QS{prog w A E s it l}{i:Nat}{items x Q}(hit:s.heap.IsTupleIter it l i)(hl:s.heap.IsTuple l items)(hx:items[i]? = some x)
 (h:∀h':Heap,h'.IsTupleIter it l (i+1)->Heap.SameBut it s.heap h'->Q x {s with heap:=h'}):wpAny (model prog w) A (Builtin.SmallTypes.nextOf<|.ref it) Q E s:=by
 obtain⟨o,ho,hc,hd⟩:=id hit;obtain⟨ol,hol,hcl,nl,hdl⟩:=hl;refine zxD<|wpAny_callSpecial?_slot hit.typeIs F.slot_tuple_iterator_next<|zxL F.slot_tuple_iterator_next hit.typeIs F.entry_tuple_iterator_next ?_;unfold Builtin.«tuple_iterator.__next__»
 wp_walk using wpAny_field ho hd rfl,wpAny_seqItems hol hdl
 rw[hdl]
 wp_walk
 rw[zyI,hx];refine zxD<|wpAny_setField ho hd (by simp) ?_;refine zxE ⟨x,rfl,zxE<|h _ ⟨_,Heap.get?_update_self _ ho<|Obj.isFreed_of_fields<|Obj.data_mapFields hd _,(Obj.cls_mapFields o _).trans hc,(Obj.data_mapFields hd _).trans<|by simp[rawInt]⟩<|Heap.SameBut.update _ _ _⟩
def Q8{prog w A E s it l}{i:Nat}{items Q}(hh:A.handled=none)(hit:s.heap.IsTupleIter it l i)(hl:s.heap.IsTuple l items)(hx:items[i]? = none)
 (h:∀(h':Heap) (e:Addr),Heap.ExtBut it s.heap h'->(∃o,h'.get? e=some o/\o.cls = .type "StopIteration")->E (.ref e) {s with heap:=h'}):wpAny (model prog w) A (Builtin.SmallTypes.nextOf<|.ref it) Q E s:=by
 obtain⟨o,ho,hc,hd⟩:=id hit;obtain⟨ol,hol,hcl,nl,hdl⟩:=hl;refine zxD<|wpAny_callSpecial?_slot hit.typeIs F.slot_tuple_iterator_next<|zxL F.slot_tuple_iterator_next hit.typeIs F.entry_tuple_iterator_next ?_;unfold Builtin.«tuple_iterator.__next__»
 wp_walk using wpAny_field ho hd rfl,wpAny_seqItems hol hdl
 rw[hdl]
 wp_walk
 rw[zyI,hx];refine zxD (wpAny_rule<|zxD<|wpAny_setField ho hd (by simp) ?_)
 wp_walk
 refine wpAny_raiseNew_none hh<|h _ _ (((Heap.SameBut.update _ _ _).extBut.push _).push _) ⟨_,zxH _ rfl,rfl⟩
def XY(b:Bool)(h:Heap)(it l:Addr)(k:Nat):Prop:=if b=true then h.IsTupleIter it l k else h.IsListIter it l k
def Pi(b:Bool)(h:Heap)(l:Addr)(xs:Array Value):Prop:=if b=true then h.IsTuple l xs else h.IsList l xs
def vJ{prog w A E s it l}{i:Nat}{items x Q}:∀{b:Bool},XY b s.heap it l i->Pi b s.heap l items->items[i]? = some x->
 (∀h':Heap,XY b h' it l (i+1)->Heap.SameBut it s.heap h'->Q x {s with heap:=h'})->wpAny (model prog w) A (Builtin.SmallTypes.nextOf<|.ref it) Q E s
 |true,h1,h2,h3,h4=>QS h1 h2 h3 h4
 |false,h1,h2,h3,h4=>wpAny_nextOf_list_item h1 h2 h3 h4
def Xm{prog w A E s it l}{i:Nat}{items Q}(hh:A.handled=none):∀{b:Bool},XY b s.heap it l i->Pi b s.heap l items->items[i]? = none->
 (∀(h':Heap) (e:Addr),Heap.ExtBut it s.heap h'->(∃o,h'.get? e=some o/\o.cls = .type "StopIteration")->E (.ref e) {s with heap:=h'})->wpAny (model prog w) A (Builtin.SmallTypes.nextOf<|.ref it) Q E s
 |true,h1,h2,h3,h4=>Q8 hh h1 h2 h3 h4
 |false,h1,h2,h3,h4=>wpAny_nextOf_list_end hh h1 h2 h3 h4
def XY.ext{a h h' it l}{k:Nat}:∀{b:Bool},XY b h it l k->Heap.ExtBut a h h'->it≠a->XY b h' it l k
 |true,x,e,n=>Heap.IsTupleIter.extBut x e n
 |false,x,e,n=>Heap.IsListIter.extBut x e n
def Pi.ext{a h h' l xs}:∀{b:Bool},Pi b h l xs->Heap.ExtBut a h h'->l≠a->Pi b h' l xs
 |true,x,e,n=>Heap.IsTuple.extBut x e n
 |false,x,e,n=>Heap.IsList.extBut x e n
def XY.at{h h' it l}{k:Nat}(k':∀o,h.get? it=some o->h'.get? it=some o):∀{b:Bool},XY b h it l k->XY b h' it l k
 |true,⟨o,e,c⟩=>⟨o,k' o e,c⟩
 |false,⟨o,e,c⟩=>⟨o,k' o e,c⟩
theorem XY.push{h it l}{k:Nat}{o b}(x:XY b h it l k):XY b (h.push o) it l k:=x.at λ_ e=>zxF _ e
def GH{M A E s a Q}(h:Q (s.heap.get? a) s):wpAny M A (loadIfAlive a) Q E s:=λΓ p hΓ=>⋯
def NJ(h:Heap)(z TI TO:Addr)(f0:Value)(f1:Bool):Prop:=h.get? z=some {cls:=.type "zip",data:=.fields #[f0,.bool f1,.bool false,.ref TI,.ref TO]}
def Zf(f0:Value):Prop:=f0 = .none\/∃n:Int,f0=rawInt n
def BS{prog w A E s z TI TO f0 f1 Q}(hz:NJ s.heap z TI TO f0 f1)(hf:Zf f0)(h1:Q true s)(h2:∀h' f1',NJ h' z TI TO f0 f1'->Heap.SameBut z s.heap h'->Q false {s with heap:=h'}):
 wpAny (model prog w) A (Builtin.SmallTypes.ownedTupleIsFree<|.ref z) Q E s:=by
 rcases hf with rfl|⟨n,rfl⟩
 . exact zxD<|wpAny_field hz rfl rfl<|zxE h1
 . refine zxD<|wpAny_field hz rfl rfl ?_;refine zxD<|GH ?_;cases e:s.heap.get? n.toNat with
   |none=>exact zxE h1
   |some o=>
    refine zxD<|wpAny_field hz rfl rfl ?_;cases f1 with
    |true=>exact zxE (h2 s.heap true hz<|Heap.SameBut.refl _ _)
    |false=>exact zxD (wpAny_setField_rec hz ⋯ λh' hz' hs=>zxE<|h2 h' true hz' hs)
def Ci{b1 b2 prog w A E s z TI TO i1 i2 l1 l2}{k1 k2:Nat}{xs ys}{x y a b f0:Value}{f1:Bool}{Q:Value->Shared->Prop}(D:ZipApart z TI TO i1 i2 l1 l2)
 (hz:NJ s.heap z TI TO f0 f1) (hf:Zf f0) (hTI:IsPair s.heap TI (.ref i1) (.ref i2)) (hTO:IsPair s.heap TO a b) (h1:XY b1 s.heap i1 l1 k1) (h2:XY b2 s.heap i2 l2 k2) (q1:Pi b1 s.heap l1 xs) (q2:Pi b2 s.heap l2 ys) (hx:xs[k1]? = some x) (hy:ys[k2]? = some y)
 (h:∀(h':Heap) (g0:Value) (g1:Bool),NJ h' z TI TO g0 g1->Zf g0->(∃p q,IsPair h' TO p q)->XY b1 h' i1 l1 (k1+1)->XY b2 h' i2 l2 (k2+1)->IsPair h' s.heap.objs.size x y->(∀c o,c≠z->c≠TO->c≠i1->c≠i2->s.heap.get? c=some o->h'.get? c=some o)->Q (.ref s.heap.objs.size) {s with heap:=h'}):
 wpAny (model prog w) A (Builtin.«zip.__next__» {pos:=[.ref z]}) (λfin s'=>∃v,fin=Fin.done (Flow.ret v)/\Q v s') E s:=by
 change wpAny (model prog w) A (bind (field (.ref z) 2) _) _ E s;refine zxD<|wpAny_field hz rfl rfl ?_;refine zxD<|wpAny_field hz rfl rfl<|zxD<|wpAny_seqItems hTI rfl ?_;refine zxD<|BS hz hf ?_ λh₁ g1 z1 hs₁=>?_
 . rw[if_pos rfl];refine zxD<|wpAny_rule<|zxD<|wpAny_field hz rfl rfl ?_;refine zxD<|wpAny_setField_rec hz (by simp) λh₁ hz₁ hs₁=>?_;refine zxD ?_;rw[show(#[Value.ref i1,Value.ref i2].toList.zipIdx)=[(Value.ref i1,0),(Value.ref i2,1)]from rfl,List.forIn_cons];have x1:=h1.ext hs₁.extBut D.i1z;have y1:=q1.ext hs₁.extBut D.l1z;refine zxD<|zxD<|wpAny_onRaise ?_;refine zxD<|vJ x1 y1 hx λh₂ x2 hs₂=>zxE ?_;have t2:IsPair h₂ TO a b:=hs₂.extBut TO _ D.TOi1<|hs₁.extBut TO _ D.TOz hTO;refine zxD<|wpAny_seqItems t2 rfl<|zxD<|wpAny_updateSeq_pair t2 λh₃ t3 hs₃=>?_;refine zxD<|wpAny_letGo<|zxE ?_;have x3:=((h2.ext hs₁.extBut D.i2z).ext hs₂.extBut D.i12.symm).ext hs₃.extBut D.TOi2.symm;have y3:=((q2.ext hs₁.extBut D.l2z).ext hs₂.extBut D.l2i1).ext hs₃.extBut D.l2TO;change wpAny (model prog w) A (forIn [(Value.ref i2,1)] _ _) _ E _;rw[List.forIn_cons];refine zxD<|zxD<|wpAny_onRaise ?_;refine zxD<|vJ x3 y3 hy λh₄ x4 hs₄=>zxE ?_;have t4:IsPair h₄ TO x b:=hs₄.extBut TO _ D.TOi2 t3;refine zxD<|wpAny_seqItems t4 rfl<|zxD<|wpAny_updateSeq_pair t4 λh₅ t5 hs₅=>?_;refine zxD<|wpAny_letGo<|zxE ?_;change wpAny (model prog w) A (forIn [] _ _) _ E _;rw[List.forIn_nil];refine zxE ?_;have t5:IsPair h₅ TO x y:=t5;refine zxD<|wpAny_seqItems t5 rfl<|zxD<|wpAny_newTuple ?_;have e5:h₅.objs.size=s.heap.objs.size:=hs₅.1.trans<|hs₄.1.trans<|hs₃.1.trans<|hs₂.1.trans hs₁.1;have z1:NJ h₁ z TI TO .ellipsis f1:=hz₁;have z5:NJ h₅ z TI TO .ellipsis f1:=hs₅.extBut z _ D.TOz.symm<|hs₄.extBut z _ D.i2z.symm<|hs₃.extBut z _ D.TOz.symm<|hs₂.extBut z _ D.i1z.symm z1;refine zxD ?_;refine zxD<|wpAny_setField_rec (zxF _ z5) (by simp) λh₇ z7 hs₇=>?_;refine wpAny_setField_rec z7 (by simp) λh₆ z6 hs₆'=>zxE ⟨_,rfl, ?_⟩;have hs₆:=hs₇.trans hs₆';have lt:=λc o q n=>hs₆.extBut c o n<|zxF _ q;have nz:h₅.objs.size≠z:=λe=>by
    have:=zxG z5;rw[<-e]at this;exact Nat.lt_irrefl _ this
   rw[e5];refine h h₆ (rawInt (h₅.objs.size:Int)) false z6 (.inr ⟨_,rfl⟩) ⟨_,_,lt TO _ t5 D.TOz⟩ ?_ ?_ ?_ λc o c1 c2 c3 c4 q=>?_
   . have:=((x2.ext hs₃.extBut D.TOi1.symm).ext hs₄.extBut D.i12).ext hs₅.extBut D.TOi1.symm;exact(XY.push this).ext hs₆.extBut D.i1z
   . exact(XY.push<|x4.ext hs₅.extBut D.TOi2.symm).ext hs₆.extBut D.i2z
   . rw[<-e5];exact hs₆.extBut _ _ nz<|zxH _ rfl
   . exact lt c o (hs₅.extBut c o c2<|hs₄.extBut c o c4<|hs₃.extBut c o c2<|hs₂.extBut c o c3<|hs₁.extBut c o c1 q) c1
 . rw[if_neg<|by simp];change wpAny (model prog w) A (bind (forIn #[Value.ref i1,Value.ref i2] _ _) _) _ E _;rw[<-Array.forIn_toList,List.forIn_cons];have x1:=h1.ext hs₁.extBut D.i1z;have y1:=q1.ext hs₁.extBut D.l1z;refine zxD<|zxD<|zxD<|zxI ?_;refine zxD<|vJ x1 y1 hx λh₂ x2 hs₂=>zxE<|zxE ?_;change wpAny (model prog w) A (forIn [Value.ref i2] _ _) _ E _;rw[List.forIn_cons];have x3:=(h2.ext hs₁.extBut D.i2z).ext hs₂.extBut D.i12.symm;have y3:=(q2.ext hs₁.extBut D.l2z).ext hs₂.extBut D.l2i1;refine zxD<|zxD<|zxI ?_;refine zxD<|vJ x3 y3 hy λh₄ x4 hs₄=>zxE<|zxE ?_;change wpAny (model prog w) A (forIn [] _ _) _ E _;rw[List.forIn_nil];refine zxE<|zxD<|wpAny_newTuple ?_ (show 2<=sizeLine by decide);refine zxE ⟨_,rfl, ?_⟩;have e4:h₄.objs.size=s.heap.objs.size:=hs₄.1.trans<|hs₂.1.trans hs₁.1;have z4:NJ h₄ z TI TO f0 g1:=hs₄.extBut z _ D.i2z.symm<|hs₂.extBut z _ D.i1z.symm z1;have t4:IsPair h₄ TO a b:=hs₄.extBut TO _ D.TOi2<|hs₂.extBut TO _ D.TOi1<|hs₁.extBut TO _ D.TOz hTO;rw[e4];refine h _ f0 g1 (zxF _ z4) hf ⟨_,_,zxF _ t4⟩ (XY.push<|x2.ext hs₄.extBut D.i12) (XY.push x4) ?_ λc o c1 c2 c3 c4 q=>zxF _<|hs₄.extBut c o c4<|hs₂.extBut c o c3<|hs₁.extBut c o c1 q;rw[<-e4];exact zxH _ rfl
def J9{b1 b2 prog w A E s z TI TO i1 i2 l1 l2}{k1 k2:Nat}{xs ys a b f0 f1 Q}(hh:A.handled=none)(D:ZipApart z TI TO i1 i2 l1 l2)
 (hz:NJ s.heap z TI TO f0 f1) (hf:Zf f0) (hTI:IsPair s.heap TI (.ref i1) (.ref i2)) (hTO:IsPair s.heap TO a b) (h1:XY b1 s.heap i1 l1 k1) (h2:XY b2 s.heap i2 l2 k2) (q1:Pi b1 s.heap l1 xs) (q2:Pi b2 s.heap l2 ys) (hx:xs[k1]? = none\/ys[k2]? = none)
 (h:∀(h':Heap) (e:Addr),(∀c o,c≠z->c≠TO->c≠i1->c≠i2->s.heap.get? c=some o->h'.get? c=some o)->(∃o,h'.get? e=some o/\o.cls = .type "StopIteration")->E (.ref e) {s with heap:=h'}):
 wpAny (model prog w) A (Builtin.«zip.__next__» {pos:=[.ref z]}) Q E s:=by
 have fin:∀(h':Heap) (e:Addr),(∃f g,NJ h' z TI TO f g)->(∀c o,c≠z->c≠TO->c≠i1->c≠i2->s.heap.get? c=some o->h'.get? c=some o)->(∃o,h'.get? e=some o/\o.cls = .type "StopIteration")->
  wpAny (model prog w) A (setField (.ref z) 0 Value.none) (λ_ s''=>E (.ref e) s'') E {s with heap:=h'}:=λh' e ⟨f,g,hf⟩ kk ⟨o,ho,hc⟩=>by
  refine wpAny_setField_rec (s:={s with heap:=h'}) hf (by simp) λh'' z'' hs=>?_;have ne:e≠z:=λe'=>by
   subst e';have:=(hf).symm.trans ho;cases this;exact absurd (show Value.type "zip"=Value.type "StopIteration" from hc) (by decide)
  exact h h'' e (λc o c1 c2 c3 c4 q=>hs.extBut c o c1<|kk c o c1 c2 c3 c4 q) ⟨o,hs.extBut e o ne ho,hc⟩
 change wpAny (model prog w) A (bind (field (.ref z) 2) _) _ E s;refine zxD<|wpAny_field hz rfl rfl ?_;refine zxD<|wpAny_field hz rfl rfl<|zxD<|wpAny_seqItems hTI rfl ?_;refine zxD<|BS hz hf ?_ λh₁ g1 z1 hs₁=>?_
 . rw[if_pos rfl];refine zxD<|wpAny_rule<|zxD<|wpAny_field hz rfl rfl ?_;refine zxD<|wpAny_setField_rec hz (by simp) λh₁ hz₁ hs₁=>?_;refine zxD ?_;rw[show(#[Value.ref i1,Value.ref i2].toList.zipIdx)=[(Value.ref i1,0),(Value.ref i2,1)]from rfl,List.forIn_cons];have z1:=hz₁;have x1:=h1.ext hs₁.extBut D.i1z;have y1:=q1.ext hs₁.extBut D.l1z;refine zxD<|zxD<|wpAny_onRaise ?_;cases e1:xs[k1]? with
   |none=>exact zxD (Xm hh x1 y1 e1 λh' e ex ho=>fin h' e ⟨_,_,ex z _ D.i1z.symm z1⟩ (λc o c1 c2 c3 c4 q=>ex c o c3<|hs₁.extBut c o c1 q) ho)
   |some x=>
    have hy:ys[k2]? = none:=hx.resolve_left (by rw[e1];simp);refine zxD<|vJ x1 y1 e1 λh₂ x2 hs₂=>zxE ?_;have t2:=hs₂.extBut TO _ D.TOi1<|hs₁.extBut TO _ D.TOz hTO;refine zxD<|wpAny_seqItems t2 rfl<|zxD<|wpAny_updateSeq_pair t2 λh₃ t3 hs₃=>?_;refine zxD<|wpAny_letGo<|zxE ?_;have x3:=((h2.ext hs₁.extBut D.i2z).ext hs₂.extBut D.i12.symm).ext hs₃.extBut D.TOi2.symm;have y3:=((q2.ext hs₁.extBut D.l2z).ext hs₂.extBut D.l2i1).ext hs₃.extBut D.l2TO;change wpAny (model prog w) A (forIn [(Value.ref i2,1)] _ _) _ E _;rw[List.forIn_cons];refine zxD<|zxD<|wpAny_onRaise ?_;exact zxD<|Xm hh x3 y3 hy λh' e ex ho=>fin h' e ⟨_,_,ex z _ D.i2z.symm<|hs₃.extBut z _ D.TOz.symm<|hs₂.extBut z _ D.i1z.symm z1⟩
     (λc o c1 c2 c3 c4 q=>ex c o c4<|hs₃.extBut c o c2<|hs₂.extBut c o c3<|hs₁.extBut c o c1 q) ho
 . rw[if_neg<|by simp];change wpAny (model prog w) A (bind (forIn #[Value.ref i1,Value.ref i2] _ _) _) _ E _;rw[<-Array.forIn_toList,List.forIn_cons];have x1:=h1.ext hs₁.extBut D.i1z;have y1:=q1.ext hs₁.extBut D.l1z;refine zxD<|zxD<|zxD<|zxI ?_;cases e1:xs[k1]? with
   |none=>exact zxD (Xm hh x1 y1 e1 λh' e ex ho=>h h' e (λc o c1 c2 c3 c4 q=>ex c o c3<|hs₁.extBut c o c1 q) ho)
   |some x=>
    have hy:ys[k2]? = none:=hx.resolve_left (by rw[e1];simp);refine zxD<|vJ x1 y1 e1 λh₂ x2 hs₂=>zxE<|zxE ?_;change wpAny (model prog w) A (forIn [Value.ref i2] _ _) _ E _;rw[List.forIn_cons];have x3:=(h2.ext hs₁.extBut D.i2z).ext hs₂.extBut D.i12.symm;have y3:=(q2.ext hs₁.extBut D.l2z).ext hs₂.extBut D.l2i1;refine zxD<|zxD<|zxI ?_;exact zxD<|Xm hh x3 y3 hy λh' e ex ho=>h h' e (λc o c1 c2 c3 c4 q=>ex c o c4<|hs₂.extBut c o c3<|hs₁.extBut c o c1 q) ho
def MH{b1 b2 prog w A E s z TI TO i1 i2 l1 l2}{k1 k2:Nat}{xs ys x y a b f0 f1 Q}(D:ZipApart z TI TO i1 i2 l1 l2)
 (hz:NJ s.heap z TI TO f0 f1) (hf:Zf f0) (hTI:IsPair s.heap TI (.ref i1) (.ref i2)) (hTO:IsPair s.heap TO a b) (h1:XY b1 s.heap i1 l1 k1) (h2:XY b2 s.heap i2 l2 k2) (q1:Pi b1 s.heap l1 xs) (q2:Pi b2 s.heap l2 ys) (hx:xs[k1]? = some x) (hy:ys[k2]? = some y)
 (h:∀(h':Heap) (g0:Value) (g1:Bool),NJ h' z TI TO g0 g1->Zf g0->(∃p q,IsPair h' TO p q)->XY b1 h' i1 l1 (k1+1)->XY b2 h' i2 l2 (k2+1)->IsPair h' s.heap.objs.size x y->(∀c o,c≠z->c≠TO->c≠i1->c≠i2->s.heap.get? c=some o->h'.get? c=some o)->Q (some<|.ref s.heap.objs.size) {s with heap:=h'}):
 wpAny (model prog w) A (pyNext<|.ref z) Q E s:=by
 have hT:s.TypeIs (.ref z) "zip":=⟨_,hz,rfl⟩;exact zxD<|wpAny_attempt<|wpAny_callSpecial?_slot hT F.slot_zip_next<|zxL F.slot_zip_next hT F.entry_zip_next (Ci D hz hf hTI hTO h1 h2 q1 q2 hx hy λh' g0 g1 a1 a2 a3 a4 a5 a6 a7=>zxE<|h h' g0 g1 a1 a2 a3 a4 a5 a6 a7)<|F.args_zip_next_1 _
def Ms{b1 b2 prog w A E s z TI TO i1 i2 l1 l2}{k1 k2:Nat}{xs ys a b f0 f1 Q}(hh:A.handled=none)(D:ZipApart z TI TO i1 i2 l1 l2)
 (hz:NJ s.heap z TI TO f0 f1) (hf:Zf f0) (hTI:IsPair s.heap TI (.ref i1) (.ref i2)) (hTO:IsPair s.heap TO a b) (h1:XY b1 s.heap i1 l1 k1) (h2:XY b2 s.heap i2 l2 k2) (q1:Pi b1 s.heap l1 xs) (q2:Pi b2 s.heap l2 ys) (hx:xs[k1]? = none\/ys[k2]? = none)
 (h:∀h':Heap,(∀c o,c≠z->c≠TO->c≠i1->c≠i2->s.heap.get? c=some o->h'.get? c=some o)->Q none {s with heap:=h'}):wpAny (model prog w) A (pyNext<|.ref z) Q E s:=by
 have hT:s.TypeIs (.ref z) "zip":=⟨_,hz,rfl⟩;exact zxD<|wpAny_attempt<|wpAny_callSpecial?_slot hT F.slot_zip_next<|zxL F.slot_zip_next hT F.entry_zip_next (J9 hh D hz hf hTI hTO h1 h2 q1 q2 hx λh' e hk _=>zxD<|wpAny_isInstance ⋯ isSubtype_stop (zxE<|h h' hk))<|F.args_zip_next_1 _
def Hm{prog w A E s z TI TO T f0 f1 Q}(tg)(hz:NJ s.heap z TI TO f0 f1)(hf:Zf f0)
 (h:∀(h':Heap) (g0:Value),NJ h' z TI TO g0 f1->Zf g0->Heap.SameBut z s.heap h'->Q () {s with heap:=h'}):wpAny (model prog w) A (letOwnedTupleGo tg (.ref z)<|.ref T) Q E s:=by
 have no:wpAny (model prog w) A _ Q E s:=zxE<|h s.heap f0 hz hf<|Heap.SameBut.refl _ _;have go:wpAny (model prog w) A (bind (load z) λo=>match o.cls,o.data with
  |Value.type n,Data.fields vs=>if(["enumerate","zip","dict_itemiterator","dict_reverseitemiterator","odict_iterator","itertools.zip_longest","itertools.pairwise"].contains n&&vs[0]? == some (rawInt T))=true then(do rule "for.unpacks-the-owned-tuple";updateField z 0 Value.none)else pure ()
  |_,_=>pure ()) Q E s:=by
  refine zxD<|wpAny_load hz ?_;show wpAny _ A (if _ then _ else _) Q E s
  split
  . refine zxD<|wpAny_rule ?_;exact wpAny_setField_rec hz ⋯ λh' z' hs=>h h' .none z' (.inl rfl) hs
  . exact no
 cases tg with
 |Tuple elts k pos=>exact go
 |List elts pos=>exact go
 |_=>exact no
noncomputable def Yo(b:Bool)(l:Addr):Obj:={cls:=.type (if b=true then "tuple_iterator" else "list_iterator"),data:=.fields #[.ref l,.int 0 0]}
def NK{prog w A E s l xs Q}:∀{b:Bool},Pi b s.heap l xs->Q (.ref s.heap.objs.size) {s with heap:=s.heap.push (Yo b l)}->wpAny (model prog w) A (pyIter<|.ref l) Q E s
 |true,h1,h2=>wpAny_pyIter_tuple h1 h2
 |false,h1,h2=>wpAny_pyIter_list h1 h2
def Pi.at{h h' l xs}(k:∀o,h.get? l=some o->h'.get? l=some o):∀{b:Bool},Pi b h l xs->Pi b h' l xs
 |true,⟨o,e,c⟩=>⟨o,k o e,c⟩
 |false,⟨o,e,c⟩=>⟨o,k o e,c⟩
def Im{b1 b2}(l1 l2)(xs ys):Meets (Builtin.«zip.__new__» {pos:=[.type "zip",.ref l1,.ref l2]}) λ_ R s=>Pi b1 s.heap l1 xs/\Pi b2 s.heap l2 ys/\
 ∀h':Heap,NJ h' (s.heap.objs.size+4) (s.heap.objs.size+2) (s.heap.objs.size+3) .none false->IsPair h' (s.heap.objs.size+2) (.ref s.heap.objs.size) (.ref<|s.heap.objs.size+1)->IsPair h' (s.heap.objs.size+3) .none .none->XY b1 h' s.heap.objs.size l1 0->XY b2 h' (s.heap.objs.size+1) l2 0->
  (∀c o,s.heap.get? c=some o->h'.get? c=some o)->R (.ok<|.ret<|.ref<|s.heap.objs.size+4) {s with heap:=h'}:=
 .of_wp λprog w A R s h=>by
  obtain⟨hp,g,d,tk,os⟩:=s;obtain⟨hl1,hl2,h⟩:=h;have hsub:=sub_zip;have p1:∀{Q:Value->Shared->Prop}{E:Value->Shared->Prop}{A:Around},Q (.ref hp.objs.size) ⟨hp.push<|Yo b1 l1,g,d,tk,os⟩->wpAny (model prog w) A (pyIter<|.ref l1) Q E ⟨hp,g,d,tk,os⟩:=λh=>NK hl1 h;have p2:∀{Q:Value->Shared->Prop}{E:Value->Shared->Prop}{A:Around},Q (.ref (hp.push<|Yo b1 l1).objs.size) ⟨(hp.push<|Yo b1 l1).push<|Yo b2 l2,g,d,tk,os⟩->wpAny (model prog w) A (pyIter<|.ref l2) Q E ⟨hp.push<|Yo b1 l1,g,d,tk,os⟩:=λh=>NK (s:=⟨hp.push<|Yo b1 l1,g,d,tk,os⟩) (hl2.at λo e=>zxF _ e) h
  wp_walk using p1,p2
  refine⟨_,rfl, ?_⟩;have s1:(hp.push<|Yo b1 l1).objs.size=hp.objs.size+1:=zxJ _ _;have s2:((hp.push<|Yo b1 l1).push<|Yo b2 l2).objs.size=hp.objs.size+2:=(zxJ _ _).trans (congrArg (· + 1) s1);generalize hh2:(hp.push<|Yo b1 l1).push (Yo b2 l2)=h2 at s2 ⊢;have i1:XY b1 h2 hp.objs.size l1 0:=by
   have:h2.get? hp.objs.size=some (Yo b1 l1):=by rw[<-hh2];exact zxF _<|zxH _ rfl
   cases b1<;>exact⟨_,this,rfl,rfl⟩
  have i2:XY b2 h2 (hp.objs.size+1) l2 0:=by
   have:h2.get? (hp.objs.size+1)=some (Yo b2 l2):=by rw[<-hh2,<-s1];exact zxH _ rfl
   cases b2<;>exact⟨_,this,rfl,rfl⟩
  have kp:∀c o,hp.get? c=some o->h2.get? c=some o:=λc o q=>by rw[<-hh2];exact zxF _<|zxF _ q
  rw[s1];change R (.ok<|.ret<|.ref ((h2.push {cls:=.type "tuple",data:=.seq #[.ref hp.objs.size,.ref<|hp.objs.size+1]}).push {cls:=.type "tuple",data:=.seq #[.none,.none]}).objs.size)
   ⟨((h2.push {cls:=.type "tuple",data:=.seq #[.ref hp.objs.size,.ref<|hp.objs.size+1]}).push {cls:=.type "tuple",data:=.seq #[.none,.none]}).push {cls:=.type "zip",data:=.fields #[.none,.bool false,.bool false,.ref h2.objs.size,.ref (h2.push {cls:=.type "tuple",data:=.seq #[.ref hp.objs.size,.ref<|hp.objs.size+1]}).objs.size]},g,d,tk,os⟩
  have g3:=zxH h2 (o:={cls:=.type "tuple",data:=.seq #[.ref hp.objs.size,.ref<|hp.objs.size+1]}) rfl;have s3:(h2.push {cls:=.type "tuple",data:=.seq #[.ref hp.objs.size,.ref<|hp.objs.size+1]}).objs.size=hp.objs.size+3:=(zxJ _ _).trans (congrArg (· + 1) s2);rw[s2]at g3;rw[s2,s3];have k3:∀c o,h2.get? c=some o->(h2.push {cls:=.type "tuple",data:=.seq #[.ref hp.objs.size,.ref<|hp.objs.size+1]}).get? c=some o:=λc o q=>zxF _ q;generalize (h2.push {cls:=.type "tuple",data:=.seq #[.ref hp.objs.size,.ref<|hp.objs.size+1]})=h3 at *;have g4:=zxH h3 (o:={cls:=.type "tuple",data:=.seq #[.none,.none]}) rfl;have s4:(h3.push {cls:=.type "tuple",data:=.seq #[.none,.none]}).objs.size=hp.objs.size+4:=(zxJ _ _).trans (congrArg (· + 1) s3);have k4:∀c o,h3.get? c=some o->(h3.push {cls:=.type "tuple",data:=.seq #[.none,.none]}).get? c=some o:=λc o q=>zxF _ q;rw[s3]at g4;rw[s4];generalize (h3.push {cls:=.type "tuple",data:=.seq #[.none,.none]})=h4 at *;have g5:=zxH h4 (o:={cls:=.type "zip",data:=.fields #[.none,.bool false,.bool false,.ref<|hp.objs.size+2,.ref<|hp.objs.size+3]}) rfl;rw[s4]at g5;exact h _ g5 (zxF _<|k4 _ _ g3) (zxF _ g4) (i1.at λo e=>zxF _<|k4 _ _<|k3 _ _ e) (i2.at λo e=>zxF _<|k4 _ _<|k3 _ _ e) λc o q=>zxF _<|k4 _ _<|k3 _ _<|kp c o q
def Hj{b1 b2 prog w A E s l1 l2 xs ys Q}(hl1:Pi b1 s.heap l1 xs)(hl2:Pi b2 s.heap l2 ys)
 (h:∀h':Heap,NJ h' (s.heap.objs.size+4) (s.heap.objs.size+2) (s.heap.objs.size+3) .none false->IsPair h' (s.heap.objs.size+2) (.ref s.heap.objs.size) (.ref<|s.heap.objs.size+1)->IsPair h' (s.heap.objs.size+3) .none .none->XY b1 h' s.heap.objs.size l1 0->XY b2 h' (s.heap.objs.size+1) l2 0->
  (∀c o,s.heap.get? c=some o->h'.get? c=some o)->Q (.ref<|s.heap.objs.size+4) {s with heap:=h'}):wpAny (model prog w) A (call (.type "zip") [.ref l1,.ref l2]) Q E s:=
 callType_new F.called_zip (by decide) ⋯ (F.newCall_zip_2 _ _) (λobj=>F.args_object_init_3 obj _ _) F.entry_zip_new (Im l1 l2 xs ys)
  ⟨hl1,hl2,λh' a1 a2 a3 a4 a5 a6=>⟨⟨_,a1,rfl⟩,h h' a1 a2 a3 a4 a5 a6⟩⟩
def UC{prog w A E s z TI TO f0 f1 Q}(hz:NJ s.heap z TI TO f0 f1)(h:Q (.ref z) s):wpAny (model prog w) A (pyIter<|.ref z) Q E s:=by
 have hT:s.TypeIs (.ref z) "zip":=⟨_,hz,rfl⟩;exact wpAny_pyIter_slot hT F.slot_zip_iter<|zxL F.slot_zip_iter hT F.entry_zip_iter (zxE ⟨.ref z,rfl,"zip",.builtin "zip.__next__",hT,F.slot_zip_next.lookup,h⟩)<|F.args_zip_iter_1 _
def GK(K:zzA)(H:Hp):Bool->Addr->List V->Prop
 |true,a,xs=>VP K H a xs
 |false,a,xs=>X3 K H a xs
def GK.ok{X pins σ H s}(I:Inv X pins σ H s):∀{b:Bool}{a:Addr}{xs:List V},GK X.K H b a xs->∃its:List Value,zU xs its/\Pi b s.heap a its.toArray
 |true,a,xs,h=>by obtain⟨its,rv,p,_⟩:=I.tuple h;exact⟨its,rv,p⟩
 |false,a,xs,h=>by obtain⟨its,rv,p,_⟩:=I.list h;exact⟨its,rv,p.isList⟩
def GK.inj{X pins σ H s}(I:Inv X pins σ H s):∀{b:Bool}{a:Addr}{xs ys:List V},GK X.K H b a xs->GK X.K H b a ys->xs=ys
 |true,_,_,_,h,h'=>I.tuple_inj h h'
 |false,_,_,_,h,h'=>I.list_inj h h'
def Pi.ex{h l xs}:∀{b:Bool},Pi b h l xs->∃o,h.get? l=some o
 |true,⟨o,e,_⟩=>⟨o,e⟩
 |false,⟨o,e,_⟩=>⟨o,e⟩
def XY.ex{h it l}{k:Nat}:∀{b:Bool},XY b h it l k->∃o,h.get? it=some o/\∀v,o.data ≠ .cell v
 |true,⟨o,e,_,d⟩=>⟨o,e,λv z=>by rw[d]at z;cases z⟩
 |false,⟨o,e,_,d⟩=>⟨o,e,λv z=>by rw[d]at z;cases z⟩
def Jo(K:zzA)(b1 b2:Bool)(a b:Addr):It:=
 ⟨λi H=>∃xs ys x y,GK K H b1 a xs/\GK K H b2 b ys/\xs[i]? = some x/\ys[i]? = some y,
  λi H v H'=>∃T x y,H T=none/\v = .ref T/\H'=upd H T (.tup [x,y])/\(∀xs,GK K H b1 a xs->xs[i]? = some x)/\∀ys,GK K H b2 b ys->ys[i]? = some y,
  λi H=>∃xs ys,GK K H b1 a xs/\GK K H b2 b ys/\(xs.length<=i\/ys.length<=i)⟩
def SK{P w K tg b1 b2}(a b z TI TO i1 i2)(D:ZipApart z TI TO i1 i2 a b):Turn P w K tg (Jo K b1 b2 a b) [z,TI,TO,i1,i2] z
 (λi h=>(∃f0 f1,NJ h z TI TO f0 f1/\Zf f0)/\IsPair h TI (.ref i1) (.ref i2)/\(∃p q,IsPair h TO p q)/\XY b1 h i1 a i/\XY b2 h i2 b i)where
 mem:=by simp
 obj:=λi h st c hc=>by
  obtain⟨⟨f0,f1,hz,_⟩,hTI,⟨p,q,hTO⟩,h1,h2⟩:=st;simp at hc
  rcases hc with rfl|rfl|rfl|rfl|rfl
  . exact⟨_,hz,λv z=>by cases z⟩
  . exact⟨_,hTI,λv z=>by cases z⟩
  . exact⟨_,hTO,λv z=>by cases z⟩
  . exact h1.ex
  . exact h2.ex
 keep:=λi h h' st kk=>by
  obtain⟨⟨f0,f1,hz,hf⟩,hTI,⟨p,q,hTO⟩,h1,h2⟩:=st;exact⟨⟨f0,f1,kk z (by simp) _ hz,hf⟩,kk TI (by simp) _ hTI,⟨p,q,kk TO (by simp) _ hTO⟩,h1.at λo e=>kk i1 (by simp) o e,h2.at λo e=>kk i2 (by simp) o e⟩
 item:=by
  intro X hP hw hK hc i pins s σ H E I hf st hg;subst hP hw hK;obtain⟨xs,ys,x,y,hq,hr,hx,hy⟩:=hg;obtain⟨its,rv,p⟩:=hq.ok I;obtain⟨jts,rw',p'⟩:=hr.ok I;obtain⟨u,hu,ru⟩:=rv.get hx;obtain⟨u',hu',ru'⟩:=rw'.get hy;obtain⟨⟨f0,f1,hz,zf⟩,hTI,⟨pp,qq,hTO⟩,h1,h2⟩:=st;refine MH D hz zf hTI hTO h1 h2 p p' (by simpa using hu) (by simpa using hu') λh' g0 g1 z' zf' to' i1' i2' pr kk=>⟨_,rfl,Hm tg z' zf' λh9 e0 z2 zf2 hs=>?_⟩;have hn:=I.hok.fresh<|zzN _;have fr:∀c o,s.heap.get? c=some o->c≠s.heap.objs.size:=λc o e z=>by
   have:=zxG e;rw[z]at this;exact Nat.lt_irrefl _ this
  have nz:=(fr z _ hz).symm;have k2:∀c o,c ∉ [z,TI,TO,i1,i2]->s.heap.get? c=some o->h9.get? c=some o:=λc o hb q=>by
   simp at hb;exact hs.extBut c o hb.1<|kk c o hb.1 hb.2.2.1 hb.2.2.2.1 hb.2.2.2.2 q
  have hTI2:=hs.extBut TI _ D.TIz<|kk TI _ D.TIz D.TITO D.TIi1 D.TIi2 hTI;obtain⟨p1,q1,to1⟩:=to';refine⟨.ref s.heap.objs.size,upd H s.heap.objs.size<|.tup [x,y],Qf (s:=s) (t':=s.toks) I hf k2 (zzN _) ⟨by show 2<=sizeLine;decide,[u,u'],.cons ru<|.cons ru' .nil,⟨_,hs.extBut _ _ nz pr,rfl,_,rfl⟩⟩,rfl,
   ⟨_,x,y,hn,rfl,rfl,λq hq'=>by rw[GK.inj I hq' hq];exact hx,λq hq'=>by rw[GK.inj I hq' hr];exact hy⟩,⟨⟨e0,g1,z2,zf2⟩,hTI2,⟨p1,q1,hs.extBut TO _ D.TOz to1⟩,i1'.ext hs.extBut D.i1z,i2'.ext hs.extBut D.i2z⟩,λc hc=>?_⟩
  have hcT:c≠s.heap.objs.size:=by
   simp at hc
   rcases hc with rfl|rfl|rfl|rfl|rfl
   . exact fr _ _ hz
   . exact fr _ _ hTI
   . exact fr _ _ hTO
   . obtain⟨o,e,_⟩:=h1.ex;exact fr _ _ e
   . obtain⟨o,e,_⟩:=h2.ex;exact fr _ _ e
  rw[zK hcT];exact(hf c hc).1
 done:=by
  intro X hP hw hK hc i pins s σ H E I hf st hg;subst hP hw hK;obtain⟨xs,ys,hq,hr,hx⟩:=hg;obtain⟨its,rv,p⟩:=hq.ok I;obtain⟨jts,rw',p'⟩:=hr.ok I;have hl:=rv.length;have hl':=rw'.length;obtain⟨⟨f0,f1,hz,zf⟩,hTI,⟨pp,qq,hTO⟩,h1,h2⟩:=st;refine Ms (I.ok.hd hc) D hz zf hTI hTO h1 h2 p p' (hx.imp (λh=>by simp;exact q0f hl h) λh=>by simp;exact q0f hl' h) λh' eb=>⟨rfl,PV (t':=s.toks) I hf λc o hc q=>?_⟩;simp at hc;exact eb c o hc.1 hc.2.2.1 hc.2.2.2.1 hc.2.2.2.2 q
 self:=λ_ _ _ _ _ st h=>let⟨⟨_,_,hz,_⟩,_⟩:=st;UC hz h
section
variable{X:Cx}{tg:Expr}
def sh(K:zzA)(ta:TA):TI:=λσ H R=>ta σ H λvs H1=>∃a b b1 b2,vs=[.ref a,.ref b]/\(∃xs,GK K H1 b1 a xs)/\(∃ys,GK K H1 b2 b ys)/\R (Jo K b1 b2 a b) H1
def BL{l l' ta p pos}(hg:Gl X "zip")(hm:X.mg "zip"=none)(ha:PA X [l,l'] ta)(hs:starEach [l,l'] X.env=[(false,eval l X.env),(false,eval l' X.env)])(hs2:starEach [l'] X.env=[(false,eval l' X.env)]):
 PI X tg (.Call (.Name "zip" p) [l,l'] [] pos) (sh X.K ta):=by
 intro pins s σ H R I h;refine Call_ (Yy I hg hm boot_zip<|PyProof.Rows.callWith_type1 (wD (ha pos pins s σ H _ I h) λus s1 ⟨vs,H1,I1,r1,q1⟩=>?_) (by rw[hs,hs2])<|by rw[hs2];rfl);obtain⟨a,b,b1,b2,rfl,⟨xs,hq⟩,⟨ys,hr⟩,q⟩:=q1;cases r1 with
 |cons r rr=>
  cases rr with
  |cons r' rr=>
   cases rr;cases r;cases r';obtain⟨its,rv,pl⟩:=hq.ok I1;obtain⟨jts,rw',pl'⟩:=hr.ok I1;obtain⟨o1,ho1⟩:=pl.ex;obtain⟨o2,ho2⟩:=pl'.ex;refine Hj pl pl' λh' hZ hTI hTO hi1 hi2 hk=>?_;refine UC hZ ⟨s1.heap.objs.size+4,[s1.heap.objs.size+4,s1.heap.objs.size+2,s1.heap.objs.size+3,s1.heap.objs.size,s1.heap.objs.size+1],_,_,H1,rfl,I1.kept (t':=s1.toks) hk,SK a b _ _ _ _ _<|SL _ _ _ (zxG ho1)<|zxG ho2,⟨⟨_,_,hZ,.inl rfl⟩,hTI,⟨_,_,hTO⟩,hi1,hi2⟩,λc hc=>?_,q⟩;have hb':s1.heap.objs.size<=c:=by
    simp at hc
    rcases hc with rfl|rfl|rfl|rfl|rfl<;>first|exact zzN _|exact Nat.le_add_right _ _
   exact I1.fpOk hb'<|I1.hok.fresh hb'
end
section
variable{X:Cx}{kd:KD}{tg e:Expr}{fa:EF}
def Az{K F B ad H a b b1 b2 vs ws st ds es}(hs:∀(ad3:Ad) (H3:Hp),Grow (Gw [] ad) H (Gw [] ad3) H3->GK K H3 b1 a vs)(hs':∀(ad3:Ad) (H3:Hp),Grow (Gw [] ad) H (Gw [] ad3) H3->GK K H3 b2 b ws)
 (r:RpL K kd (Lv F B (Gw [] ad) st) H vs ds) (r':RpL K kd (Lv F B (Gw [] ad) st) H ws es):ItOk K kd F B ad H (Jo K b1 b2 a b) (QV st ds es):=⟨λad3 H3 g3 tr i=>by
 have hr3:=hs ad3 H3 g3;have hr4:=hs' ad3 H3 g3;have rl3:=RpL.grow g3 r;have rl4:=RpL.grow g3 r';have hlen:=QE st ds es;have l1:=r.length;have l2:=r'.length;refine⟨λhi=>?_,λhi=>⟨_,_,hr3,hr4,⋯⟩,λv H4 hy=>?_⟩
 . obtain⟨u,hu,_⟩:=r.get<|zzE (show i<ds.length from q1i hi hlen);obtain⟨u',hu',_⟩:=r'.get<|zzE (show i<es.length from q1l hi hlen);exact⟨_,_,u,u',hr3,hr4,hu,hu'⟩
 . obtain⟨T,x,y,hn,rfl,rfl,hv,hv'⟩:=hy;refine⟨xT hn,λq hq=>?_⟩;obtain⟨d,e,hd,he,rfl⟩:=Tv hq;obtain⟨u,hu,ru⟩:=rl3.get hd;obtain⟨u',hu',ru'⟩:=rl4.get he;have:=hv _ hr3;rw[hu]at this;cases this;have:=hv' _ hr4;rw[hu']at this;cases this;exact .tup (λz=>tr _ _ z hn) (.inl ya)<|.cons (Rp.grow ⟨λb o q _=>xT hn b o q,λb z=>.inl z⟩ ru)<|.cons (Rp.grow ⟨λb o q _=>xT hn b o q,λb z=>.inl z⟩ ru') .nil⟩
def I0{K F H a b b1 b2 vs ws st ds es}(ft:∀a,F a->H a≠none)(hs:∀H3:Hp,(∀b u,H b=some u->H3 b=some u)->GK K H3 b1 a vs)(hs':∀H3:Hp,(∀b u,H b=some u->H3 b=some u)->GK K H3 b2 b ws)
 (r:RpL K kd (λa=>st=true/\F a) H vs ds) (r':RpL K kd (λa=>st=true/\F a) H ws es):ItC K kd F H (Jo K b1 b2 a b) (QV st ds es):=⟨λH3 T k hT i=>by
 have hr3:=hs H3 k;have hr4:=hs' H3 k;have hlen:=QE st ds es;have l1:=r.length;have l2:=r'.length;refine⟨λhi=>?_,λhi=>⟨_,_,hr3,hr4,⋯⟩,λv H4 hy=>?_⟩
 . obtain⟨u,hu,_⟩:=r.get<|zzE (show i<ds.length from q1i hi hlen);obtain⟨u',hu',_⟩:=r'.get<|zzE (show i<es.length from q1l hi hlen);exact⟨_,_,u,u',hr3,hr4,hu,hu'⟩
 . obtain⟨A,x,y,hn,rfl,rfl,hv,hv'⟩:=hy;have hnH:H A=none:=by
    cases e:H A with
    |none=>rfl
    |some u=>rw[k A u e]at hn;cases hn
   refine⟨xT hn,λq hq=>?_⟩;obtain⟨d,e,hd,he,rfl⟩:=Tv hq;obtain⟨u,hu,ru⟩:=r.get hd;obtain⟨u',hu',ru'⟩:=r'.get he;have:=hv _ hr3;rw[hu]at this;cases this;have:=hv' _ hr4;rw[hu']at this;cases this;have up:∀{v:V}{d:D},Rp K kd (λa=>st=true/\F a) H v d->Rp K kd (λa=>st=true/\(F a\/T a)) (upd H3 A<|.tup [x,y]) v d:=λrp=>
    (rp.since (λb o q=>xT hn b o<|k b o q) λa z=>(hT a z).1).less λa z=>z.2.elim (λy=>.inl ⟨z.1,y⟩) .inr
   exact .tup (λz=>z.2.elim (λy=>ft A y hnH) λy=>(hT A y).2 hn) (.inl ya)<|.cons (up ru)<|.cons (up ru') .nil⟩
noncomputable def IH:RV->Option (Bool×Bool×List D)
 | .ow (.lf s (.lst l))=>some (s,false,l)
 | .ow (.lf s (.tup l))=>some (s,true,l)
 |_=>none
def XJ(fr:AF):IF:=λas=>(fr as).bind λp=>(sH p.1).bind λo=>(IH o.1).bind λa=>(IH o.2).bind λb=>some (QV (a.1&&b.1) a.2.2 b.2.2,p.2)
def Y7{K F B ad σ H v r x}(e:IH r=some x)(rv:xy K kd F B [] ad σ H v r):∃a vs,v = .ref a/\GK K H x.2.1 a vs/\(∀H3:Hp,(∀b u,¬Gw [] ad b->H b=some u->H3 b=some u)->GK K H3 x.2.1 a vs)/\RpL K kd (Lv F B (Gw [] ad) x.1) H vs x.2.2:=by
 cases r with
 |bo i=>cases e
 |ow o=>
  cases o with
  |nd k os=>cases e
  |lf s d=>
   cases rv with
   |lf rp=>
    cases rp with
    |lst hn hr rl=>
     cases e;refine⟨_,_,rfl,.inl hr,λH3 k=>?_,rl⟩
     rcases hr with hr|⟨o,hr⟩
     . exact .inl<|.inl<|k _ _ (λz=>hn<|.inr z) hr
     . exact .inl (.inr ⟨o,k _ _ (λz=>hn<|.inr z) hr⟩)
    |lstK a b c rl=>cases e;exact⟨_,_,rfl,.inr ⟨_,_,_,a,rfl,rfl,rfl,b,c⟩,λH3 k=>.inr ⟨_,_,_,a,rfl,rfl,rfl,b,c⟩,rl⟩
    |tup hn hr rl=>
     cases e;refine⟨_,_,rfl,.inl hr,λH3 k=>?_,rl⟩
     rcases hr with hr|⟨o,hr⟩
     . exact .inl<|.inl<|k _ _ (λz=>hn<|.inr z) hr
     . exact .inl (.inr ⟨o,k _ _ (λz=>hn<|.inr z) hr⟩)
    |tupK a b c e' f rl=>cases e;exact⟨_,_,rfl,.inr ⟨_,_,_,a,b,c,e',f⟩,λH3 k=>.inr ⟨_,_,_,a,b,c,e',f⟩,rl⟩
    |_=>cases e
def Jj{F B G p q}:∀a,Lv F B G (p&&q) a->Lv F B G p a:=Qj λz=>(Bool.and_eq_true_iff.mp z).1
def Js{F B G p q}:∀a,Lv F B G (p&&q) a->Lv F B G q a:=Qj λz=>(Bool.and_eq_true_iff.mp z).2
def Ae{l l' fr p pos}(hg:Gl X "zip")(hm:X.mg "zip"=none)(ha:AA X kd [l,l'] fr)(hs:starEach [l,l'] X.env=[(false,eval l X.env),(false,eval l' X.env)])(hs2:starEach [l'] X.env=[(false,eval l' X.env)]):
 AI X kd tg (.Call (.Name "zip" p) [l,l'] [] pos) (XJ fr):=by
 with_unfolding_all (
 intro pins s σ H R I h;obtain⟨F,B,ad,as,ds,as',Rl,e',q⟩:=h;obtain⟨⟨rs,as1⟩,h1,e'⟩:=bS_<|e';obtain⟨_,e1,e'⟩:=bS_ e';obtain⟨x1,e2,e'⟩:=bS_ e';obtain⟨x2,e3,e'⟩:=bS_ e';cases K2 e1;cases e';refine BL hg hm ha hs hs2 pins s σ H R I ⟨F,B,ad,as,_,as1,Rl,h1,λvs ad1 H1 R1 rv1 g1=>?_⟩;cases rv1 with
 |cons r1 rr=>
  cases rr with
  |cons r2 rr=>
   cases rr;obtain⟨a,vs,rfl,sa,ka,ra⟩:=Y7 e2 r1;obtain⟨b,ws,rfl,sb,kb,rb⟩:=Y7 e3 r2;exact⟨a,b,_,_,rfl,⟨_,sa⟩,⟨_,sb⟩,q _ ad1 H1 R1 g1<|Az (λad3 H3 g3=>ka H3 λb u n h=>g3.keep b u h n) (λad3 H3 g3=>kb H3 λb u n h=>g3.keep b u h n) (ra.less Jj)<|rb.less Js⟩)
def Dp{l l' fr p pos}(hg:Gl X "zip")(hm:X.mg "zip"=none)(ha:AA X kd [l,l'] fr)(hs:starEach [l,l'] X.env=[(false,eval l X.env),(false,eval l' X.env)])(hs2:starEach [l'] X.env=[(false,eval l' X.env)]):
 IV X kd tg (.Call (.Name "zip" p) [l,l'] [] pos) (XJ fr):=by
 with_unfolding_all (
 intro pins s σ H R I h;obtain⟨F,B,ad,as,ds,as',Rl,e',q⟩:=h;obtain⟨⟨rs,as1⟩,h1,e'⟩:=bS_<|e';obtain⟨_,e1,e'⟩:=bS_ e';obtain⟨x1,e2,e'⟩:=bS_ e';obtain⟨x2,e3,e'⟩:=bS_ e';cases K2 e1;cases e';refine BL hg hm ha hs hs2 pins s σ H R I ⟨F,B,ad,as,_,as1,Rl,h1,λvs ad1 H1 R1 rv1 g1=>?_⟩;cases rv1 with
 |cons r1 rr=>
  cases rr with
  |cons r2 rr=>
   cases rr;obtain⟨a,vs,rfl,sa,ka,ra⟩:=Y7 e2 r1;obtain⟨b,ws,rfl,sb,kb,rb⟩:=Y7 e3 r2;refine⟨a,b,_,_,rfl,⟨_,sa⟩,⟨_,sb⟩,q _ ad1 H1 R1 g1<|I0 (R1.trk true) (λH3 k=>ka H3 λb u n h=>k b u h) (λH3 k=>kb H3 λb u n h=>k b u h) (ra.less λa z=>?_)<|rb.less λa z=>?_⟩
   . have z1:=(Bool.and_eq_true_iff.mp z.1).1;rw[z1];exact z.2
   . have z1:=(Bool.and_eq_true_iff.mp z.1).2;rw[z1];exact z.2)
end
def rS:List D->Option R0:=tV λx=>(uo x).bind λds=>(X8 ds).bind λns=>some<|.im<|.int ns.sum
theorem PP:∀{us:List Value}{ns:List Int},IntsAre us ns->∃ps:List (Int×Tok),us=ps.map (λp=>Value.int p.1 p.2)/\ps.map (·.1)=ns
 |_,_,.nil=>⟨[],rfl,rfl⟩
 |_,_,.cons a t h=>by
  obtain⟨b,rfl,rfl⟩:=PP h;exact⟨(a,t)::b,rfl,rfl⟩
theorem N6{ps:List (Int×Tok)}:∀k,k<=ps.length->preSum (numAt ps.toArray) k=((ps.take k).map (·.1)).sum
 |0,_=>⋯
 |k+1,h=>by
  have a:=N6 (ps:=ps) k ⋯;rw[List.take_add_one,zyM,List.sum_append];show preSum _ k+numAt ps.toArray k=_
  congr 1
  show((ps.toArray[k]?).map _).getD 0=_;rw[List.getElem?_toArray,zzE ⋯];simp
section
variable{X:Cx}{kd:KD}
def Sy(hc:X.calm=true):Z_ X kd (.builtin "sum") rS:=by
 intro f s σ H E F Q I r h;obtain⟨O,G,J,K,i,a,q⟩:=h;obtain⟨x,d,rfl,j,a⟩:=Ue i a;obtain⟨l,k,b⟩:=bS_<|a;cases Q7 k
 . obtain⟨m,n,c⟩:=bS_ b;cases c
   . cases j with
     |lst o p=>
      obtain⟨u,rfl,t⟩:=vals1 r;cases t;obtain⟨e,v,w,L⟩:=I.list o.sq;obtain⟨g,y,z⟩:=PP<|Jz p v n;refine sum_intListG (I.ok.hd hc) (xs:=g.toArray) ?_ λM A B C=>?_
      . have D:intItems g.toArray=e.toArray:=by rw[y];simp[intItems]
        rw[D];exact w.isList
      . refine⟨.int m.sum,H,I.kept (t':=A) C,⟨B, ?_⟩,yc q<|.int _⟩;rw[zzH,N6 _<|zzN _,List.take_length,z]
end
def BR(h:n<=1000000):n<=sizeLine:=zzO h (by decide)
section
variable{as:AS}{f fo a b:EF}{fr:AF}{s t:Bool}{x y z d:D}{c m:Str}{ns cs:List Str}{ds:List D}{tbl:List (Str×Fn)}{g:Fn}{o:O}
def L0(h:WD fo as s (.ob c ns ds))(hc:c ∈ cs)(hl:Ex ns ds n=some d):WD (f1 fo<|z_ cs n) as (zC d||s) d:=by
 unfold WD f1 at *;rw[h];show(if c ∈ cs then(Ex ns ds n).bind λd=>some _ else none:Option R0).bind _=_;rw[if_pos hc,hl];show(if _=true then _ else _:Option RV).bind _=_;rw[if_pos ⋯];rfl
def K0(ho:WD fo as s (.ob c ns ds))(hm:m ∉ ns)(ht:Bl tbl c=some g)(hr:WA fr as rs)(hg:g ((s,.ob c ns ds)::rs.map λx=>(zC x.2||x.1,x.2))=some o):Yc tbl m fo fr as=some (.ow o,as):=by
 unfold Yc;rw[ho];show(if m ∈ ns then none else some c:Option Str).bind _=_;rw[if_neg hm];show(Bl tbl c).bind _=_;rw[ht];rw[hr];show((Yz as _).bind _:Option _).bind _=_;rw[YW];show(g ((s,.ob c ns ds)::_)).bind _=_;rw[hg];rfl
def Mm(ho:WD fo as true (.ob c ns ds))(hm:m ∉ ns)(ht:Bl tbl c=some g)(ha:WE a as x)(hg:RE (g [(true,.ob c ns ds),(true,x)]) z):WE (Yc tbl m fo<|aC a aN) as z:=by
 obtain⟨o,b,d,e⟩:=hg;exact⟨o,K0 ho hm ht (y8 ha zq) (by show g [_,(zC x||true,x)]=_;rwa [zyD]),d,e⟩
def Ht(ho:WD fo as true (.ob c ns ds))(hm:m ∉ ns)(ht:Bl tbl c=some g)(ha:WE a as x)(hb:WE b as y)(hg:RE (g [(true,.ob c ns ds),(true,x),(true,y)]) z):WE (Yc tbl m fo<|aC a<|aC b aN) as z:=by
 obtain⟨o,d,e,f⟩:=hg;exact⟨o,K0 ho hm ht (y8 ha<|y8 hb zq) (by show g [_,(zC x||true,x),(zC y||true,y)]=_;rwa [zyD,zyD]),e,f⟩
def mF(ho:WD fo as true (.ob c ns ds))(hm:m ∉ ns)(ht:Bl tbl c=some g)(ha:WE a as x)(hb:WE b as y)(he:WE e as w)(hg:RE (g [(true,.ob c ns ds),(true,x),(true,y),(true,w)]) z):WE (Yc tbl m fo<|aC a<|aC b<|aC e aN) as z:=by
 obtain⟨o,d,f,h⟩:=hg;exact⟨o,K0 ho hm ht (y8 ha<|y8 hb<|y8 he zq) (by show g [_,(zC x||true,x),(zC y||true,y),(zC w||true,w)]=_;rwa [zyD,zyD,zyD]),f,h⟩
inductive SqD:D->List D->Prop
 |l (ds:List D):SqD (.lst ds) ds
 |t (ds:List D):SqD (.tup ds) ds
theorem Wx(st):∀(xs ys:List D),QV st xs ys=(xs.zip ys).map λq=>(st,.tup [q.1,q.2])
 | [],_=>rfl
 |_::_,[]=>rfl
 |x::r,y::t=>congrArg _<|Wx st r t
def Cb(ha:WE a as x)(hb:WE b as y)(hx:SqD x xs)(hy:SqD y ys):XJ (aC a<|aC b aN) as=some ((xs.zip ys).map λq=>(true,.tup [q.1,q.2]),as):=by
 have h:=y8 ha<|y8 hb zq;unfold XJ;rw[h,<-Wx];cases hx<;>cases hy<;>rfl
theorem KQ:∀(l:List α),(∀q ∈ l,∃as1,gg (it q) as0=some as1/\WE fe as1 (h q))->∃os,xV gg yP fe as0 (l.map it)=some os/\O.strs os=true/\O.toDs os=l.map h
 | [],_=>⟨[],rfl,rfl,rfl⟩
 |q::l,H=>by
  obtain⟨a,d,e,f⟩:=KQ l λp m=>H p<|zzD _ m;obtain⟨b,g,o,i,c,j⟩:=H q zzF;refine⟨o::a, ?_,by show(o.str&&O.strs a)=_;rw[c,e];rfl,by show o.toD::O.toDs a=_;rw[j,f];rfl⟩;show xV gg yP fe as0 (it q::l.map it)=_;unfold xV;rw[g];show((fe b).bind _)=_;rw[i];show(if o.str=true then _ else _)=_;rw[if_pos c,d];rfl
theorem Kp:∀(l:List α),(∀q ∈ l,∃as1,gg (it q) as0=some as1/\WT tt as1 (p q)/\(p q=true->WE fe as1 (h q)))->∃os,xV gg tt fe as0 (l.map it)=some os/\O.strs os=true/\O.toDs os=(l.filter p).map h
 | [],_=>⟨[],rfl,rfl,rfl⟩
 |q::l,H=>by
  obtain⟨c,d,e,f⟩:=Kp l λp m=>H p<|zzD _ m;obtain⟨a,g,b,j⟩:=H q zzF;cases hp:p q with
  |false=>
   rw[hp]at b;refine⟨c,B6 g b d,e, ?_⟩
   rwa [List.filter_cons_of_neg<|by simp[hp]]
  |true=>
   rw[hp]at b;obtain⟨o,k,i,n⟩:=j hp;refine⟨o::c, ?_,by show(o.str&&O.strs c)=_;rw[i,e];rfl, ?_⟩
   . unfold WT at b;show xV gg tt fe as0 (it q::l.map it)=_;unfold xV;rw[g];show(tt a).bind _=_;rw[b];show((fe a).bind _)=_;rw[k];show(if o.str=true then _ else _)=_;rw[if_pos i,d];rfl
   . rw[List.filter_cons_of_pos hp];show o.toD::O.toDs c=_;rw[n,f];rfl
def Mb{os}(h1:fi as=some (xs,as))(hl:xs.length<=1000000)(h2:xV gg tt fe (ZV cap as) xs=some os)(hs:O.strs os=true)(e:O.toDs os=zs):WE (yb fi cap gg tt fe) as (.lst zs):=by
 refine⟨.nd .ls os, ?_,hs,congrArg D.lst e⟩;unfold yb;rw[h1];show(if xs.length<=sizeLine then _ else _)=_;rw[if_pos<|BR hl,h2];rfl
def VI(l:List α)(h1:fi as=some (l.map it,as))(hl:l.length<=1000000)(H:∀q ∈ l,∃as1,gg (it q) (ZV cap as)=some as1/\WE fe as1 (h q)):WE (yb fi cap gg yP fe) as (.lst<|l.map h):=by
 obtain⟨d,a,b,c⟩:=KQ l H;exact Mb h1 (by rwa [zzB]) a b c
def HC(l:List α)(h1:fi as=some (l.map it,as))(hl:l.length<=1000000)(H:∀q ∈ l,∃as1,gg (it q) (ZV cap as)=some as1/\WT tt as1 (p q)/\(p q=true->WE fe as1 (h q))):WE (yb fi cap gg tt fe) as (.lst<|(l.filter p).map h):=by
 obtain⟨d,a,b,c⟩:=Kp l H;exact Mb h1 (by rwa [zzB]) a b c
def Rt(r:Option Out)(x:D):Prop:=∃o,r=some (.rt o)/\o.str=true/\o.toD=x
def zN{n m:Nat}{c ds}(hl:ds.length=m)(h:Rt (c<|Zj n ds) x):RE (wz n m c ds) x:=by
 obtain⟨o,a,b,d⟩:=h;exact⟨o,xX hl a,b,d⟩
def zc{f g}(h1:f as=some (.nx as1))(h2:Rt (g as1) x):Rt (zi f g as) x:=by
 obtain⟨o,e,h⟩:=h2;exact⟨o,zt h1 e,h⟩
def yj{f g}(h1:Rt (f as) x):Rt (zi f g as) x:=by
 obtain⟨o,e,h⟩:=h1;exact⟨o,Zs e,h⟩
def yH{c f g}(h:WT c as true)(h1:Rt (f as) x):Rt (xl c f g as) x:=by
 obtain⟨o,e,a⟩:=h1;exact⟨o,yY h e,a⟩
def zE(h:WE f as x):Rt (zx f as) x:=by
 obtain⟨o,b,a,c⟩:=h;refine⟨o, ?_,a,c⟩;unfold zx;rw[b];show((if o.str=true then some o else none).bind _)=_;rw[if_pos a];rfl
theorem RE.lf(h:r=some (.lf true x)):RE r x:=⟨_,h,rfl,rfl⟩
def Fd{c}(h:WT c as true)(ha:WE a as x):WE (Dz c a b) as x:=by
 obtain⟨o,d,e,f⟩:=ha;exact⟨o,by unfold Dz;rw[h];exact d,e,f⟩
def FC{c}(h:WT c as false)(hb:WE b as x):WE (Dz c a b) as x:=by
 obtain⟨o,d,e,f⟩:=hb;exact⟨o,by unfold Dz;rw[h];exact d,e,f⟩
def QQ{g}(ha:WE a as x)(hg:g [x]=some (.im z)):WE (fP (aC a aN) g) as z:=WD.e<|L5 ha hg
def sy{os}(h:WO fd as os)(hl:os.length<=1000000)(hs:O.strs os=true)(e:O.toDs os=zs):WE (yd fd) as (.tup zs):=by
 refine⟨XO os,M9 h<|BR hl, ?_, ?_⟩
 . unfold XO;split
   . exact hs
   . exact hs
 . subst e;unfold XO;split
   . rfl
   . rfl
def qU{os}(h:WE a as x)(hr:WO fd as os):∃o,o.str=true/\o.toD=x/\WO (dC a fd) as (o::os):=by
 obtain⟨o,b,c,d⟩:=h;exact⟨o,c,d,Tf b hr⟩
def yR(ha:WE a as x)(hb:WE b as y):WE (yd<|dC a<|dC b dN) as (.tup [x,y]):=by
 obtain⟨p,c,rfl,d⟩:=qU hb yu;obtain⟨o,e,rfl,f⟩:=qU ha d;exact sy f ⋯ (by show(o.str&&(p.str&&true))=_;rw[e,c];rfl) rfl
def N1{g}(ha:WE a as x)(hb:WE b as y)(hg:g x y=some (.im z)):WE (f2 a b g) as z:=WD.e<|BP ha hb hg
end
open AutoSeq1 (wpAny_loadPart')
section
variable{X:Cx}{kd:KD}
def rW(x:D)(lo hi:Option Int):Option R0:=(uo x).bind λxs=>if lo=none/\hi=some (-1)then some (.fl xs.reverse)else none
theorem MX:∀r:List Value,(List.range r.length).filterMap (λk=>r[k]?)=r
 | []=>rfl
 |a::r=>by
  rw[zzT,List.range_succ_eq_map,List.filterMap_cons,List.filterMap_map];show a::(List.range r.length).filterMap (λk=>r[k]?)=_;rw[MX r]
theorem Wy{α β:Type}{f g:α->Option β}:∀{l:List α},(∀a ∈ l,f a=g a)->l.filterMap f=l.filterMap g
 | [],_=>rfl
 |a::l,h=>by rw[List.filterMap_cons,List.filterMap_cons,h a zzF,Wy λb hb=>h b<|zzD _ hb]
def HS(l:List Value):slicePick l.toArray none none (some (-1))=l.reverse.toArray:=by
 have e:sliceBounds none none (some (-1)) l.toArray.size=((l.length:Int)-1, -1, -1):=⋯;unfold slicePick;rw[e];have e2:(sliceRange (l.length-1) (-1) (-1))=(List.range l.length).map λk=>l.length-1-k:=by
  unfold sliceRange;rw[if_neg<|by decide]
  rcases Nat.eq_zero_or_pos l.length with h|h
  . rw[h];rfl
  . rw[if_pos ⋯,Int.neg_neg,Int.ediv_one];have:((l.length:Int)-1 - -1 - -1-1).toNat=l.length:=⋯;show List.map _ _=_;rw[this];refine List.map_congr_left λk hk=>?_;have:=List.mem_range.mp hk;omega
 rw[e2]
 congr 1
 rw[List.filterMap_map];have e3:(List.range l.length).filterMap (λk=>l.toArray[l.length-1-k]?)=(List.range l.reverse.length).filterMap (λk=>l.reverse[k]?):=by
  rw[List.length_reverse];refine Wy λk hk=>?_;rw[List.getElem?_reverse<|List.mem_range.mp hk];simp
 exact e3.trans<|MX _
def Da{K O H vs ds}(r:RpL K kd O H vs ds):RpL K kd O H vs.reverse ds.reverse:=RpL.ind (P:=λvs ds=>RpL K kd O H vs.reverse ds.reverse) .nil (λa _ ih=>by
 rw[List.reverse_cons,List.reverse_cons];exact ih.append<|.cons a .nil) r
def tN{e st te th p2 pos}(he:PE X e te)(hst:PO X (some st) th):PE X (.Subscript e (.Slice none none (some st) p2) pos)
 (iQ (λx lo u H Q=>∃a xs,x = .ref a/\X3 X.K H a xs/\u=some (-1)/\∀p,H p=none->Q (.ref p) (upd H p<|.lst xs.reverse)) te F5 th):=by
 intro pins s σ H Q I h;refine Subscript_<|wD (he pins s σ H _ I h) λv s1 ⟨x,H1,I1,r1,q1⟩=>?_;refine wpAny_Slice ?_;refine zxE<|zxE<|wD (hst pins s1 σ H1 _ I1 q1) λvu s3 ⟨u,H3,I3,pu,q3⟩=>?_;have I4:Inv X pins σ H3 {s3 with heap:=s3.heap.push {cls:=.type "slice",data:=.fields #[.none,.none,vu]}}:=I3.kept (t':=s3.toks) λb ob q=>zxF _ q;obtain⟨a,xs,rfl,hx,rfl,q⟩:=q3;cases r1;obtain⟨its,r',pl,hz⟩:=I4.list hx;have hlen:=r'.length;refine tail_any pl.isList.typeIs slot_list_getitem.lookup (wpAny_getItem_list_slice pl.isList (Heap.IsSliceOf.new ..) .none .none pu (by decide) ?_<|by rw[zzH];exact q0f hlen hz) ⋯;rw[HS];exact⟨.ref _,_,I4.lnew (t':=s3.toks) r'.reverse (by rwa [List.length_reverse]),rfl,q _ I4.fresh⟩
def OH{a st fa fs pos p2}(ha:AE X kd a fa)(hs:AE X kd st fs):AE X kd (.Subscript a (.Slice none none (some st) p2) pos) (Yk fa oN (oS fs) rW):=by with_unfolding_all exact(yn (tN ha<|yq hs) λσ H Q h=>by
 obtain⟨F,B,ad,as,r,as',R,e,q⟩:=h;obtain⟨⟨p,as1⟩,h1,e⟩:=bS_<|e;obtain⟨_,h2,e⟩:=bS_ e;cases h2;obtain⟨⟨u,as3⟩,h3,e⟩:=bS_ e;obtain⟨⟨d,lv⟩,h4,e⟩:=bS_ e;obtain⟨r',h5,e⟩:=bS_ e;obtain⟨z,h6,e⟩:=bS_ e;cases e;obtain⟨xs,h7,h5⟩:=bS_<|h5;obtain⟨c,e5⟩:=zu h5;cases e5;refine vU R h1 λv ad1 H1 R1 rv1 g1=>⟨F,B,ad1,as1,u,_,R1,h3,λad3 H3 R3 g3=>?_⟩;have vx:=xy.vw R3 (rv1.grow g3) h4;have rq:=ZS R3 h6 λw T' H' R' rv' g'=>q w T' ad3 H' R' rv'<|(g1.trans g3).trans g';cases Q7 h7;cases vx with
 |lst hr rl=>exact⟨_,_,rfl,hr.sq,c.2,Ul rq<|Da rl⟩)
end
def JI(n:Nat)(K:zzA)(kd:KD)(F B:Addr->Prop)(ad:Ad)(σ:St)(H:Hp)(D:Ends):Out->Prop
 | .nx as'=>∀σ' ad' H',(∀i,i<n->σ'[i]? = σ[i]?)->Rel K kd F B [] ad' as' σ' H'->Grow (Gw [] ad) H (Gw [] ad') H'->D.nx σ' H'
 | .bk as'=>∀σ' ad' H',(∀i,i<n->σ'[i]? = σ[i]?)->Rel K kd F B [] ad' as' σ' H'->Grow (Gw [] ad) H (Gw [] ad') H'->D.bk σ' H'
 | .ct as'=>∀σ' ad' H',(∀i,i<n->σ'[i]? = σ[i]?)->Rel K kd F B [] ad' as' σ' H'->Grow (Gw [] ad) H (Gw [] ad') H'->D.ct σ' H'
 | .rt _=>False
def bp(n:Nat)(K:zzA)(kd:KD)(f:SF):TS:=λD σ H=>∃F B ad as o,Rel K kd F B [] ad as σ H/\f as=some o/\JI n K kd F B ad σ H D o
@[irreducible] def AP(X:Cx)(kd:KD)(n:Nat)(st:Stmt)(f:SF):Prop:=PS X st<|bp n X.K kd f
@[irreducible] def DA(X:Cx)(kd:KD)(n:Nat)(st:List Stmt)(f:SF):Prop:=NH X st<|bp n X.K kd f
def JI.pre{n:Nat}{K ad ad1 D}(s:∀i,i<n->σ1[i]? = σ[i]?)(g:Grow (Gw [] ad) H (Gw [] ad1) H1)(h:JI n K kd F B ad σ H D o):JI n K kd F B ad1 σ1 H1 D o:=by
 cases o with
 |nx as=>exact λσ' ad' H' s' R g'=>h σ' ad' H' (λi hi=>(s' i hi).trans<|s i hi) R (g.trans g')
 |bk as=>exact λσ' ad' H' s' R g'=>h σ' ad' H' (λi hi=>(s' i hi).trans<|s i hi) R (g.trans g')
 |ct as=>exact λσ' ad' H' s' R g'=>h σ' ad' H' (λi hi=>(s' i hi).trans<|s i hi) R (g.trans g')
 |rt _=>exact h
section
variable{X:Cx}{kd:KD}{n:Nat}{e c tg iter:Expr}{st:Stmt}{rest sts body:List Stmt}{fa:EF}{ta:TF}{f g:SF}{pos pos':Pos}
def KY:DA X kd n [] xj:=by with_unfolding_all exact(Xr Br λD σ H h=>by
 obtain⟨F,B,a,as,o,R,e,q⟩:=h;cases e;exact q σ a H (λ_ _=>rfl) R Grow.refl)
def wu(h1:AP X kd n st f)(h2:DA X kd n rest g):DA X kd n (st::rest) (zi f g):=by with_unfolding_all exact(Xr (V9 h1 h2) λD σ H h=>by
 obtain⟨F,B,ad,as,o,R,e,q⟩:=h;obtain⟨o1,e1,e⟩:=bS_<|e;refine⟨F,B,ad,as,o1,R,e1, ?_⟩;cases o1 with
 |nx as1=>exact λσ' ad' H' s' R' g'=>⟨F,B,ad',as1,o,R',e,q.pre s' g'⟩
 |bk as1=>cases e;exact q
 |ct as1=>cases e;exact q
 |rt r=>cases e;exact q)
def vY(h1:AP X kd n st f):DA X kd n [st] f:=by with_unfolding_all exact(Pb h1)
def GU(hc:AT X kd c ta)(ha:DA X kd n sts f)(hb:DA X kd n rest g):AP X kd n (.If c sts rest pos) (xl ta f g):=by with_unfolding_all exact(wX (D2 hc ha hb) λD σ H h=>by
 obtain⟨F,B,i,as,o,R,e,q⟩:=h;obtain⟨⟨p,a⟩,j,e⟩:=bS_<|e;refine⟨F,B,i,as,p,a,R,j,λb k d g=>?_⟩;cases p with
 |true=>exact⟨F,B,b,a,o,d,e,q.pre (λ_ _=>rfl) g⟩
 |false=>exact⟨F,B,b,a,o,d,e,q.pre (λ_ _=>rfl) g⟩)
def xD(he:AE X kd e fa)(hs:swapsWith e none pos.line X.env=pure false):AP X kd n (.Expr e pos) (zW fa):=by with_unfolding_all exact(wX (RU he hs) λD σ H h=>by
 obtain⟨F,B,c,as,o,R,e,q⟩:=h;obtain⟨⟨p,a⟩,d,e⟩:=bS_<|e;cases e;exact⟨F,B,c,as,p,a,R,d,λv j b f i k g=>q σ b f (λ_ _=>rfl) i.drop<|g.trans<|Grow.less Gw.drop⟩)
def uT{i:Nat}(hn:n<=i)(hN:X.N.Nodup)(hi:X.N[i]? = some x)(hx:Loc X.env.scope x)(he:AE X kd e fa)(hs:swapsWith e (some<|.Name x pos') pos.line X.env=pure false)(hf:X.fn x=true\/X.env.scope.names.lookup x=some .local):
 AP X kd n (.Assign [.Name x pos'] e pos) (zr z i fa):=by with_unfolding_all exact(wX (OX hN hi hx he hs hf) λD σ H h=>by
 obtain⟨F,B,c,as,o,R,e,q⟩:=h;obtain⟨⟨p,a⟩,d,e⟩:=bS_<|e;obtain⟨_,j,e⟩:=bS_ e;obtain⟨l,e⟩:=zu e;cases e;refine⟨F,B,c,as,p,a,R,d,λv w m r s t g=>?_⟩;obtain⟨b,R2,u⟩:=EN s t j l;exact q _ b r (λk A=>zzY ⋯) R2<|g.trans<|Grow.less u)
def uy(hS:∀i,i<n->i ∉ S)(hp:PassesOwn (model X.prog X.w) X.A X.env X.xe)(hc:X.calm=true)(hi:AI X kd tg iter fi)(hg:AG X kd tg S gt)(hb:DA X kd n body f)(hs:∀x,foldedSetIterable iter X.env x=pure x):
 AP X kd n (.For tg iter body [] pos) (yL fi gt f):=by with_unfolding_all exact(wX (OM hp hc hi hg hb hs) λD σ H h=>by
 obtain⟨F,B,ad,as,o,R,e,q⟩:=h;obtain⟨⟨ds,as1⟩,h1,e⟩:=bS_<|e;refine⟨F,B,ad,as,ds,as1,R,h1,λJ ad1 H1 R1 g1 it=>?_⟩;refine⟨λi m σ2 H2=>m+i=ds.length/\∃ad2 as2,(∀k,k<n->σ2[k]? = σ[k]?)/\Rel X.K kd F B [] ad2 as2 σ2 H2/\Grow _ H1 (Gw [] ad2) H2/\forL gt f (ds.drop i) as2=some o,⟨ds.length,rfl,ad1,as1,λ_ _=>rfl,R1,Grow.refl,e⟩, ?_⟩
 rintro i m σ2 H2 ⟨hm,ad2,as2,s2,R2,g2,e2⟩
 obtain⟨k1,k2,k3⟩:=it.all ad2 H2 g2 R2.trk i
 by_cases hi:i<ds.length
 . refine .inr ⟨k1 hi,λσ3 H3=>∃ad3 as3,_/\Rel X.K kd F B [] ad3 as3 σ3 H3/\Grow _ H1 _ H3/\forL gt f _ as3=some o,λσ3 H3 ⟨ad3,as3,s3,R3,g3,e3⟩=>⟨m-1,⋯,⋯,ad3,as3,s3,R3,g3,e3⟩,λv H3 hy=>?_⟩;obtain⟨kp,rp⟩:=k3 v H3 hy;rw[zyQ hi]at e2;obtain⟨as3,e3,e2⟩:=bS_<|e2;obtain⟨o3,e4,e2⟩:=bS_ e2;obtain⟨R3,g3⟩:=R2.more kp;refine⟨F,B,ad2,as2,_,as3,R3,rp _ ⋯,e3,λσ4 ad4 H4 R4 g4 s4=>?_⟩;refine⟨F,B,ad4,as3,o3,R4,e4, ?_⟩;have gg:=(g2.trans g3).trans g4;have s4':∀k,k<n->σ4[k]? = σ[k]? := λk hk=>(s4 k<|hS k hk).trans<|s2 k hk;cases o3 with
   |nx as5=>exact λσ5 ad5 H5 s5 R5 g5=>⟨ad5,as5,λk hk=>(s5 k hk).trans<|s4' k hk,R5,gg.trans g5,e2⟩
   |ct as5=>exact λσ5 ad5 H5 s5 R5 g5=>⟨ad5,as5,λk hk=>(s5 k hk).trans<|s4' k hk,R5,gg.trans g5,e2⟩
   |bk as5=>
    cases e2;exact λσ5 ad5 H5 s5 R5 g5=>q σ5 ad5 H5 (λk hk=>(s5 k hk).trans<|s4' k hk) R5 (g1.trans<|gg.trans g5)
   |rt r=>cases e2;exact q.elim
 . refine .inl ⟨k2 ⋯, ?_⟩;rw[List.drop_eq_nil_of_le ⋯]at e2;cases e2;exact q σ2 ad2 H2 s2 R2<|g1.trans g2)
end
section
variable{K:zzA}{kd:KD}{F B:Addr->Prop}{ad:Ad}{as:AS}{σ:St}{H H':Hp}
def G1(G:Addr->Prop)(T T':List Addr):Addr->Prop:=λa=>(G a/\a ∉ T)\/a ∈ T'
def Rel.chg1{i:Nat}(R:Rel K kd F B [] ad as σ H)(hi:i<as.length)(s0:σ[i]? = some (some v0))(nd:T0.Nodup)
 (sub:∀a ∈ T0,a ∈ ad i\/H a=none) (kp:∀c u,H c=some u->c ∉ ad i->H' c=some u) (al:∀a ∈ T0,H' a≠none)
 (r0:vM K kd F B (G1 (Gw [] ad) (ad i) T0) H' v0 o0 T0):
 Rel K kd F B [] (yX ad i T0) (as.set i<|some o0) σ H'/\Grow (Gw [] ad) H (Gw []<|yX ad i T0) H':=by
 have v:yX ad i T0 i=T0:=zQ;have q:∀k,k≠i->yX ad i T0 k=ad k:=λk h=>zS h;have r:∀k a,k≠i->a ∈ ad k->a ∉ ad i:=λk a h m z=>h<|R.inj k i a m z;have C:∀a,Gw [] (yX ad i T0) a->G1 (Gw [] ad) _ T0 a:=λa z=>by
  rcases z with z|⟨k,z⟩
  . exact nomatch z
  . by_cases e:k=i
    . subst e;rw[v]at z;exact .inr z
    . rw[q k e]at z;exact .inl ⟨.inr ⟨k,z⟩,r k a e z⟩
 have A:=λk a h m z=>(sub a z).elim (r k a h m) λy=>(R.gtr a<|.inr ⟨k,m⟩).1 y;have g:Grow _ H _ H':=⟨λb o h n=>kp b o h λz=>n<|.inr ⟨i,z⟩,λb z=>(C b z).elim (λy=>.inl y.1) λy=>(sub b y).elim (λx=>.inl<|.inr ⟨i,x⟩) .inr⟩;have D:∀a,H a≠none->a ∉ ad i->H' a≠none:=λa h n=>by
  cases e:H a with
  |none=>exact absurd e h
  |some u=>rw[kp a u e n];simp
 have d:∀a,a ∈ ad i->Gw [] ad a:=λa z=>.inr ⟨i,z⟩;refine⟨⟨by rw[zzU];exact R.len,λk I=>?_,λk=>?_,λk l a j p=>?_,zyJ,(λ_ _ _ z=>nomatch z),λa z=>D a (R.ftr a z) λy=>(R.gtr a<|d a y).2 z,λa z=>?_,λa z=>?_,λk s e=>?_⟩,g⟩
 . rw[zzU]at I;rw[q k ⋯];exact R.out k I
 . by_cases e:k=i
   . subst e;rwa [v]
   . rw[q k e];exact R.nd k
 . by_cases e:k=i
   . subst e;rw[v]at j
     by_cases E:l=k
     . exact E.symm
     . rw[q l E]at p;exact absurd j<|A l a E p
   . rw[q k e]at j
     by_cases t:l=i
     . subst t;rw[v]at p;exact absurd p<|A k a e j
     . rw[q l t]at p;exact R.inj k l a j p
 . obtain⟨j,p,G⟩:=R.btr a z;refine⟨D a j λy=>G<|d a y,p,λy=>(C a y).elim (λx=>G x.1) λx=>(sub a x).elim (λw=>G<|d a w) j⟩
 . rcases C a z with⟨y,n⟩|y
   . exact⟨D a (R.gtr a y).1 n,(R.gtr a y).2⟩
   . exact⟨al a y,(sub a y).elim (λw=>(R.gtr a<|d a w).2) λw f=>R.ftr a f w⟩
 . by_cases t:k=i
   . subst t;rw[zyK hi]at e;cases e;rw[v];exact⟨v0,s0,vM.lv (λJ a z=>z.imp id<|C a) r0⟩
   . rw[zzY λz=>t z.symm]at e;rw[q k t];exact(R.sl k s e).grow g λa m u h=>kp a u h<|r k a t m
end
section
variable{X:Cx}{kd:KD}{n:Nat}
def Eh(z)(i:Nat)(hn:n<=i)(hN:X.N.Nodup)(he:AE X kd e fa)(hi:X.N[i]? = some x:=by rfl)(hx:Loc X.env.scope x:=by first|exact Or.inl rfl|exact Or.inr rfl)(hs:swapsWith e (some<|.Name x pos') pos.line X.env=pure false:=by rfl)(hf:X.fn x=true\/X.env.scope.names.lookup x=some .local:=by first|exact Or.inl rfl|exact Or.inr rfl):
 AP X kd n (.Assign [.Name x pos'] e pos) (zr z i fa):=uT hn hN hi hx he hs hf
end
noncomputable def Sd(f:EF):EF:=λas=>(f as).bind λp=>some (p.1.frz,p.2)
def TV(h:AE X kd e fa):AE X kd e (Sd fa):=by with_unfolding_all exact(yn h λσ H Q q=>by
 obtain⟨F,B,ad,as,r,as',R,e,k⟩:=q;obtain⟨⟨p,as1⟩,h1,e⟩:=bS_<|e;cases e;exact⟨F,B,ad,as,p,as1,R,h1,λv T' ad' H' R' rv g=>k v [] ad' H' R'.drop (xy.drop R' rv)<|g.trans<|Grow.less Gw.drop⟩)
section
variable{X:Cx}{kd:KD}{P:Program}{w:World}{K:zzA}{a b e o:Expr}{es:List Expr}{fa fb fo:EF}{fr:AF}{fd_:DF}{pos p apos:Pos}{k n:Nat}
def rV(h1:sc.kind = .function:=by rfl)(h2:sc.isCoroutine=false:=by rfl)(h3:sc.isGenerator=false:=by rfl)(h4:N.Nodup:=by decide +kernel)(h5:N.take Ps.length=Ps:=by rfl)(h6:∀x ∈ Ps,sc.names.lookup x=some .local\/sc.names.lookup x=some .cell:=by decide +kernel)(h7:∀y ∈ sc.names,y.2 ≠ .free:=by decide +kernel):FnScope N Ps sc:=⟨h1,h2,h3,h4,h5,h6,h7⟩
def bc(ha:AE X kd a fa)(hr:AA X kd es fr)(hs:isStar a=false:=by rfl):AA X kd (a::es) (aC fa fr):=Ak ha hr<|G8 hs
def bd(ha:AE X kd a fa)(hr:AD X kd es fd_)(hs:isStar a=false:=by rfl):AD X kd (a::es) (dC fa fd_):=Jw ha hr<|G8 hs
def bn{op}(ha:AE X kd a fa)(hb:AE X kd b fb):AE X kd (.BinOp a op b pos) (f2 fa fb<|Yj op):=sW (uB op) ha hb
def tc{op}(hkd:qb P w K kd)(hr:Room k X.A)(ha:AE X kd a fa)(hb:AE X kd b fb)(h1:X.prog=P:=by rfl)(h2:X.w=w:=by rfl)(h3:X.K=K:=by rfl)(hm:behindInMarks op b=false:=by exact HK _):AT X kd (.Compare a [op] [b] pos) (fT<|f2 fa fb<|zw op):=O1 (Vz (hkd _ h1 h2 h3) (U2 hr) op) (BZ op) ha hb hm
def ec{op}(hkd:qb P w K kd)(hr:Room k X.A)(ha:AE X kd a fa)(hb:AE X kd b fb)(h1:X.prog=P:=by rfl)(h2:X.w=w:=by rfl)(h3:X.K=K:=by rfl)(hm:behindInMarks op b=false:=by exact HK _):AE X kd (.Compare a [op] [b] pos) (f2 fa fb<|zw op):=rR (Vz (hkd _ h1 h2 h3) (U2 hr) op) ha hb hm
def fd(hc:CF X.K kd cs f)(ha:AE X kd a fa)(hb:attributeBase a f X.env (eval a X.env)=eval a X.env:=by rfl):AE X kd (.Attribute a f pos) (f1 fa<|z_ cs f):=uZ hc ha hb
def bi{id}(hc:Z_ X kd (.builtin id) gg)(hm:X.mg x=none)(hv:bootBuiltins x=some (.builtin id))(ha:AA X kd (e::es) fr)(hg:Gl X x:=by rfl)(hn:x≠"__name__":=by exact Bt.n _ rfl)(hdb:(x==("__debug__":Str))=false:=by decide)
 (he:starEach (e::es) X.env=(false,eval e X.env)::starEach es X.env:=by rfl) (hpl:(backTo pos<|starEach es X.env).any (·.1)=false:=by rfl):AE X kd (.Call (.Name x p) (e::es) [] pos) (fP fr gg):=rH hc hg hm hv ha hn hdb he hpl
def DT(hc:Z_ X kd (.type T) gg)(hm:X.mg x=none)(hv:bootBuiltins x=some (.type T))(ha:AA X kd (e::es) fr)(hg:Gl X x:=by rfl)(hn:x≠"__name__":=by exact Bt.n _ rfl)(hdb:(x==("__debug__":Str))=false:=by decide)
 (he:starEach (e::es) X.env=(false,eval e X.env)::starEach es X.env:=by rfl) (hpl:(backTo pos<|starEach es X.env).any (·.1)=false:=by rfl):AE X kd (.Call (.Name x p) (e::es) [] pos) (fP fr gg):=sr hc hg hm hv ha hn hdb he hpl
def sj(i:Nat){rest}(hN:X.N.Nodup)(he:AE X kd e fa)(h2:FW X kd rest g)(hi:X.N[i]? = some x:=by rfl)(hx:Loc X.env.scope x:=by first|exact Or.inl rfl|exact Or.inr rfl)(hs:swapsWith e (some<|.Name x pos') pos.line X.env=pure false:=by rfl)(hf:X.fn x=true\/X.env.scope.names.lookup x=some .local:=by first|exact Or.inl rfl|exact Or.inr rfl):
 FW X kd (.Assign [.Name x pos'] e pos::rest) (zi (zr z i fa) g):=yh (CM hN hi hx he hs hf) h2
def mt(hT:MT X.prog X.w X.K X.mg X.base kd m k tbl)(hr:Room n X.A)(ho:AE X kd o fo)(ha:AA X kd (e::es) fr)
 (ht:eval (.Call (.Attribute o m apos) (e::es) [] pos) X.env=(do
  let ov <-eval o X.env
  standAt apos.atName
  let(f,first) <-holding [ov] (getMethod ov m pl)
  callWith pos f first (backTo pos<|starEach (e::es) X.env) (backToKw pos<|keywordEach [] X.env)))
 (hn:k<=n:=by omega) (hst:starEach (e::es) X.env=(false,eval e X.env)::starEach es X.env:=by rfl) (hpl:(backTo pos<|starEach es X.env).any (·.1)=false:=by rfl):
 AE X kd (.Call (.Attribute o m apos) (e::es) [] pos) (Yc tbl m fo fr):=sx hT (hr.mono hn) yG ho ha hst hpl ht
end
section
variable{K:zzA}{kd:KD}{F B:Addr->Prop}{ad:Ad}{as:AS}{σ:St}{H:Hp}{i:Nat}{c f1 f2:Str}{st:Bool}{w:D}{ts:List O}
def Rel.mks(R:Rel K kd F B [] ad as σ H)(k:as[i]? = some (some<|.nd (.ob c [f1,f2]) [.lf st w,.nd .ls ts])):∃a dx l v1 vs fp,σ[i]? = some (some<|.ref a)/\H a=some (.ins (kd.c c) dx [(f1,v1),(f2,.ref l)])/\Rp K kd (Lv F B (Gw [] ad) st) H v1 w/\H l=some (.lst vs)/\v_ K kd F B (Gw [] ad) H vs ts fp/\ad i=a::l::fp:=by
 obtain⟨v,e,d⟩:=R.sl i _ k;generalize f:ad i=g at d;cases d with
 |ob h j t m=>
  have ec:=h.cl_eq;subst ec;cases m with
  |cons n o=>
   cases n with
   |lf p=>
    cases o with
    |cons q r=>
     cases r with
     |nil=>
      cases q with
      |ls s b=>exact⟨_,_,_,_,_,_,e,j,p,s,b,⋯⟩
end
structure MV where
 (c f g:Str)(s:Bool)(w:D)(ts:List O)
def mkV:Option (Option O)->Option MV
 |some (some (.nd (.ob c [f1,f2]) [.lf st w,.nd .ls ts]))=>some ⟨c,f1,f2,st,w,ts⟩
 |_=>none
def lfV:Option (Option O)->Option (Bool×D)
 |some (some (.lf s d))=>some (s,d)
 |_=>none
def lfW{x y}(e:lfV x=some y):x=some (some<|.lf y.1 y.2):=by
 cases x with
 |none=>cases e
 |some x=>
 cases x with
 |none=>cases e
 |some o=>
 cases o with
 |nd=>cases e
 |lf s d=>cases e;rfl
noncomputable def LN(i:Nat)(cs:List Str)(f:Str):EF:=λas=>(mkV as[i]?).bind λz=>if z.c ∈ cs/\f=z.f then some (.ow<|.lf z.s z.w,as)else none
noncomputable def qD(i:Nat)(cs:List Str)(f:Str):EF:=λas=>(mkV as[i]?).bind λz=>if z.c ∈ cs/\f=z.g/\z.f≠z.g then some (.ow<|.lf true<|.int z.ts.length,as)else none
noncomputable def pM(i j:Nat)(cs:List Str)(f:Str):SF:=λas=>(mkV as[i]?).bind λz=>(lfV as[j]?).bind λy=>if z.c ∈ cs/\f=z.g/\z.f≠z.g/\z.ts.length<sizeLine then some (.nx<|as.set i<|some<|.nd (.ob z.c [z.f,z.g]) [.lf z.s z.w,.nd .ls<|z.ts++[.lf y.1 y.2]])else none
def mkW{x z}(e:mkV x=some z):x=some (some<|.nd (.ob z.c [z.f,z.g]) [.lf z.s z.w,.nd .ls z.ts]):=by
 cases x with
 |none=>cases e
 |some s=>
 cases s with
 |none=>cases e
 |some o=>
 cases o with
 |lf=>cases e
 |nd k os=>
 cases k with
 |ls=>cases e
 |tp=>cases e
 |dc _=>cases e
 |ob c ns=>
 cases ns with
 |nil=>cases e
 |cons f1 ns=>
 cases ns with
 |nil=>cases e
 |cons f2 ns=>
 cases ns with
 |cons=>cases e
 |nil=>
 cases os with
 |nil=>cases e
 |cons a os=>
 cases a with
 |nd=>cases e
 |lf st w=>
 cases os with
 |nil=>cases e
 |cons b os=>
 cases b with
 |lf=>cases e
 |nd k2 ts=>
 cases os with
 |cons=>cases k2<;>cases e
 |nil=>
 cases k2 with
 |tp=>cases e
 |dc _=>cases e
 |ob _ _=>cases e
 |ls=>
  cases e;rfl
def Jy{i:Nat}{cs f as x}(e:LN i cs f as=some x):∃c f2 st w ts,as[i]? = some (some<|.nd (.ob c [f,f2]) [.lf st w,.nd .ls ts])/\c ∈ cs/\x=(.ow<|.lf st w,as):=by
 unfold LN at e;obtain⟨z,h,e⟩:=bS_ e;obtain⟨⟨a,b⟩,d⟩:=zu e;subst b;cases d;exact⟨_,_,_,_,_,mkW h,a,rfl⟩
def JV{i:Nat}{cs f as x}(e:qD i cs f as=some x):∃c f1 st w ts,as[i]? = some (some<|.nd (.ob c [f1,f]) [.lf st w,.nd .ls ts])/\c ∈ cs/\f1≠f/\x=(.ow<|.lf true<|.int ts.length,as):=by
 unfold qD at e;obtain⟨z,h,e⟩:=bS_ e;obtain⟨⟨a,b,d⟩,g⟩:=zu e;subst b;cases g;exact⟨_,_,_,_,_,mkW h,a,d,rfl⟩
def A8{i j:Nat}{cs f as x}(e:pM i j cs f as=some x):∃c f1 st w ts s d,as[i]? = some (some<|.nd (.ob c [f1,f]) [.lf st w,.nd .ls ts])/\as[j]? = some (some<|.lf s d)/\c ∈ cs/\f1≠f/\ts.length<sizeLine/\x = .nx (as.set i<|some<|.nd (.ob c [f1,f]) [.lf st w,.nd .ls<|ts++[.lf s d]]):=by
 unfold pM at e;obtain⟨z,h,e⟩:=bS_ e;obtain⟨y,k,e⟩:=bS_ e;obtain⟨⟨b,g,q,l⟩,m⟩:=zu e;subst g;cases m;exact⟨_,_,_,_,_,_,_,mkW h,lfW k,b,q,l,rfl⟩
section
variable{X:Cx}{kd:KD}{i j n:Nat}{cs:List Str}{f x y:Str}{p p' pos apos cpos:Pos}
def UU(hc:CF X.K kd cs f)(ho:PE X (.Name x p) (VL i))(hb:attributeBase (.Name x p) f X.env (eval (.Name x p) X.env)=eval (.Name x p) X.env):AE X kd (.Attribute (.Name x p) f pos) (LN i cs f):=by
 with_unfolding_all exact(yn (K8 ho hb) λσ H Q h=>by
  obtain⟨F,B,g,as,r,j,R,e,q⟩:=h;obtain⟨c,f2,u,w,v,k,b,e⟩:=Jy e;cases e;obtain⟨a,m,l,d,y,z,n,o,s,A,C,t⟩:=R.mks k;exact⟨.ref a,n,a,_,m,_,d,rfl,o,(hc _ b).1,(hc _ b).2,⋯,q d [] g H R (.lf s) Grow.refl⟩)
def qf(hc:CF X.K kd cs f)(ho:PE X (.Name x p) (VL i))(hb:attributeBase (.Name x p) f X.env (eval (.Name x p) X.env)=eval (.Name x p) X.env)(hg:Gl X "len")(hm:X.mg "len"=none)
 (he:starEach [.Attribute (.Name x p) f pos] X.env=(false,eval (.Attribute (.Name x p) f pos) X.env)::starEach [] X.env) (hpl:(backTo cpos<|starEach [] X.env).any (·.1)=false):
 AE X kd (.Call (.Name "len" p') [.Attribute (.Name x p) f pos] [] cpos) (qD i cs f):=by
 with_unfolding_all exact(yn (T7 Hx hg hm rfl (Xb (K8 ho hb) Uo he) (by decide) (by decide) he hpl) λσ H Q h=>by
  obtain⟨F,B,ad,as,r,as',R,e,q⟩:=h;obtain⟨c,f1,st,w,ts,k,hm,hne,e⟩:=JV e;cases e;obtain⟨a,dx,l,v1,vs,fp,hs,hH,rp,hL,rl,hfp⟩:=R.mks k;refine⟨.ref a,hs,a,_,dx,_,.ref l,rfl,hH,(hc _ hm).1,(hc _ hm).2, ?_,.ref l,ts.length,rfl,.inl ⟨vs,.inl<|.inl hL,rl.length.symm⟩,q _ [] ad H R (.lf<|.int _) Grow.refl⟩;rw[List.lookup_cons,beq_eq_false_iff_ne.mpr<|Ne.symm hne];simp)
def nE(hc:CF X.K kd cs f)(ho:PE X (.Name x p) (VL i))(hy:PE X (.Name y p') (VL j))(hb:attributeBase (.Name x p) f X.env (eval (.Name x p) X.env)=eval (.Name x p) X.env)
 (hbase:attributeBase (.Attribute (.Name x p) f pos) "append" X.env (eval (.Attribute (.Name x p) f pos) X.env)=eval (.Attribute (.Name x p) f pos) X.env)
 (hfew:((backTo cpos<|starEach [.Name y p'] X.env).all (λx=>!x.1)&&(backToKw cpos<|keywordEach [] X.env).all (λx=>x.1.isSome)
  && decide (([.Name y p']:List Expr).length+([]:List Keyword).length+(if([]:List Keyword).isEmpty then 0 else 1)<30))=true)
 (hline:(apos.endLine==cpos.line)=true) (hst:starEach [.Name y p'] X.env=(false,eval (.Name y p') X.env)::starEach [] X.env) (hplain:(backTo cpos<|starEach [] X.env).any (·.1)=false) {spos}
 (hsw:swapsWith (.Call (.Attribute (.Attribute (.Name x p) f pos) "append" apos) [.Name y p'] [] cpos) none spos.line X.env=pure false):
 AP X kd n (.Expr (.Call (.Attribute (.Attribute (.Name x p) f pos) "append" apos) [.Name y p'] [] cpos) spos) (pM i j cs f):=by
 with_unfolding_all exact(wX (RU (DP PySem.F.plainAttrs_list PySem.F.slot_list_append PySem.F.type_list_append YU (K8 ho hb) (Xb hy Uo hst) hbase hfew hline hst hplain) hsw) λD σ H h=>by
  obtain⟨F,B,g,as,o,R,e,q⟩:=h;obtain⟨c,f1,O,w,E,s,d,k,k',P,G,hz,e⟩:=A8 e;subst e;obtain⟨a,Q,l,v1,t,fp,S,T,rp,U,V,r⟩:=R.mks k;obtain⟨v,hj,A⟩:=R.sl j _ k';have hi:=(zzG.mp k).1;generalize hfj:g j=fj at A;cases A with
  |lf I=>
   have nd:=R.nd i;rw[r]at nd;have J:a≠l:=λe=>(zzW.mp nd).1 (by rw[e];exact zzF);have L:=(zzW.mp (zzW.mp nd).2).1;have W:l ∈ g i:=by rw[r];exact zzD _ zzF
   have M:Grow _ H (G1 (Gw [] g) (g i)<|g i) (upd H l<|.lst<|t++[v]):=⟨λb u h n=>by rw[zK λe=>n<|by subst e;exact .inr ⟨i,W⟩];exact h,λb z=>.inl<|z.elim (λy=>y.1) λy=>.inr ⟨i,y⟩⟩;obtain⟨R2,g2⟩:=R.chg1 (H':=upd H l<|.lst _) hi S (R.nd i) (λa m=>.inl m) (λb u h n=>by rwa [zK λe=>n<|by subst e;exact W]) (λb m=>by
    by_cases e:b=l
    . subst e;rw[ya];simp
    . rw[zK e];exact(R.gtr b<|.inr ⟨i,m⟩).1) (by
    have r2:=NN (Rp.grow M I) E<|v_.grow M (λb m u h=>by rwa [zK λe=>L<|by subst e;exact m]) V;have Y:=RoL.cons (Ro.lf<|Rp.grow M rp)<|RoL.cons (Ro.ls ya r2) .nil;rw[zyE]at Y;have Z:=Ro.ob (Rp.cl c) (show upd H l _ a=some (.ins (kd.c c) Q<|[f1,f].zip [v1,.ref l]) by rwa [zK J]) rfl Y;rw[r]
    rwa [r]at Z)
   refine⟨.ref a,S,a,_,Q,_,.ref l,rfl,T,(hc _ P).1,(hc _ P).2, ?_,.inl ⟨rfl,t,.inl<|.inl U⟩,v,hj,l,t,v,rfl,rfl,U,by rw[V.length];exact hz,q σ _ _ (λ_ _=>rfl) R2 g2⟩;rw[List.lookup_cons,beq_eq_false_iff_ne.mpr<|Ne.symm G];simp)
end
noncomputable def nc(n0:List Str):Nat->D->Bool
 |0,_=>false
 |n+1,.tup ds=>ds.all (nc n0 n)
 |n+1,.ob _ ns ds=>decide (ns≠n0)&&ds.all (nc n0 n)
 |_+1,.lst _=>false
 |_+1,.dct _=>false
 |_+1,_=>true
section
variable{K:zzA}{kd:KD}{O:Addr->Prop}{H:Hp}{a l C dx:Addr}{f1 f2:Str}{v1 v2:V}{vs0:List V}
def mf(ha:H a=some (.ins C dx [(f1,v1),(f2,v2)]))(hl:H l=some (.lst vs0)){v d}(h:Rp K kd O H v d):∀n,nc [f1,f2] n d=true->Rp K kd (λz=>O z\/z=a\/z=l) H v d:=
 Rp.rec (motive_2:=λg f _=>∀n,f.all _=true->RpL K kd _ H g f) (motive_3:=λ_ _ _=>True)
  (λ_ _=>.non) (λb _ _=>.bl b) (λi _ _=>.int i) (λx _ _=>.str x)
  (λ{c g f} n h _ r m e=>by
   cases m with
   |zero=>cases e
   |succ m=>
    refine .tup (λz=>z.elim n λq=>?_) h<|r m e
    rcases q with q|q<;>subst q
    . rcases h with h|⟨o,h⟩<;>(rw[ha]at h;cases h)
    . rcases h with h|⟨o,h⟩<;>(rw[hl]at h;cases h))
  (λk p s t u _ r m e=>by
   cases m with
   |zero=>cases e
   |succ m=>exact .tupK k p s t u (r m e))
  (λ_ _ _ _ m e=>by cases m<;>cases e) (λ_ _ _ _ _ m e=>by cases m<;>cases e)
  (λ_ _ _ _ m e=>by cases m<;>cases e) (λ_ _ _ m e=>by cases m<;>cases e) (λc _ _=>.cl c)
  (λ{c w A j g f} n h y _ r m e=>by
   cases m with
   |zero=>cases e
   |succ m=>
    have e:(decide _&&f.all _)=true:=e;rw[zyC]at e;refine .ob (λz=>z.elim n λq=>?_) h y<|r m e.2
    rcases q with q|q<;>subst q
    . rw[ha]at h;injection h with h
      injection h with _ _ h
      have:=List.map_fst_zip (l₁:=j) (l₂:=g) ⋯;rw[<-h]at this;exact of_decide_eq_true e.1 this.symm
    . rw[hl]at h;cases h)
  (λ_ _=>.nil) (λ_ _ h r n e=>by
   rw[List.all_cons,zyC]at e;exact .cons (h n e.1)<|r n e.2) ⋯ (λ_ _ _ _=>⋯) h
end
theorem RpA.less{K kd F F' H}(g:∀a,F' a->F a):∀{vs:List V}{ds:List (Bool×D)},RpA K kd F H vs ds->RpA K kd F' H vs ds
 |_,_,.nil=>.nil
 |_,_,.cons h r=>.cons (h.less λz q=>⟨q.1,g z q.2⟩)<|RpA.less g r
def gP(n0:List Str):O->Bool
 | .lf _ d=>nc n0 60 d
 |_=>false
def DQ(n0:List Str):O->Bool
 | .lf _ d=>nc n0 60 d
 | .nd .ls os=>os.all (gP n0)
 |_=>false
def Tg(x:Option (Option O)):Option D:=(mkV x).bind λz=>if z.s=true/\z.ts.all O.isLf=true/\O.strs z.ts=true then some (.ob z.c [z.f,z.g] [z.w,.lst<|O.toDs z.ts])else none
noncomputable def gj:D->List Str
 | .ob _ ns _=>ns
 |_=>[]
def Tz{s d}(e:Tg s=some d):∃c f1 f2 w ts,s=some (some<|.nd (.ob c [f1,f2]) [.lf true w,.nd .ls ts])/\ts.all O.isLf=true/\O.strs ts=true/\d = .ob c [f1,f2] [w,.lst<|O.toDs ts]:=by
 unfold Tg at e;obtain⟨z,h,e⟩:=bS_ e;obtain⟨⟨a,b,f⟩,g⟩:=zu e;cases g;have h:=mkW h;rw[a]at h;exact⟨_,_,_,_,_,h,b,f,rfl⟩
def xB(i:Nat)(tbl:List (Str×Fn))(m:Str)(fr:AF):EF:=λas=>(Tg as[i]?).bind λd0=>(ik m d0).bind λc=>(Bl tbl c).bind λg=>(fr as).bind λq=>(Tg q.2[i]?).bind λd=>(Yz q.2 q.1).bind λx=>(g ((true,d)::x)).bind λo=>if DQ (gj d) o=true then some (.ow o,q.2)else none
section
variable{K:zzA}{kd:KD}{F F' B G:Addr->Prop}{H:Hp}{T:List Addr}{n0:List Str}
def sk(cv:∀v d,nc n0 60 d=true->Rp K kd (WM F' (· ∈ T)) H v d->∀st,Rp K kd (Lv F B G st) H v d){N v o fp}(e:DQ n0 o=true)(h:Ro (λ_ v d=>Rp K kd (WM F' (· ∈ T)) H v d) N H v o fp):vM K kd F B G H v o fp:=by
 cases h with
 |lf r=>exact .lf (cv _ _ e r _)
 |ls a c=>
  refine .ls a ?_;exact RoL.ind (P:=λf b g=>b.all _=true->v_ K kd F B G H f b g) (λ_=>.nil) (λh _ i e=>by
   rw[List.all_cons,zyC]at e;cases h with
   |lf r=>exact .cons (.lf<|cv _ _ e.1 r _) (i e.2)
   |_=>cases e.1) c e
 |_=>cases e
end
section
variable{X:Cx}{kd:KD}{e:Expr}{es:List Expr}{fr:AF}{pos apos p:Pos}{m x:Str}{tbl:List (Str×Fn)}{k i:Nat}
def u6(hT:MT X.prog X.w X.K X.mg X.base kd m k tbl)(hr:Room k X.A){σ H Q t}(ht:∀σ H Q,De X.K kd fr σ H Q->t σ H Q)(h:al X.K kd (xB i tbl m fr) σ H Q):A3 X m (VL i) t σ H Q:=by
 obtain⟨F,B,ad,as,r,as',R,e,q⟩:=h;obtain⟨d0,h0,e⟩:=bS_<|e;obtain⟨c,p,e⟩:=bS_ e;obtain⟨g,h4,e⟩:=bS_ e;obtain⟨⟨rs,G⟩,h5,e⟩:=bS_ e;obtain⟨d,h6,e⟩:=bS_ e;obtain⟨ds,h7,e⟩:=bS_ e;obtain⟨o,h8,e⟩:=bS_ e;obtain⟨I,e⟩:=zu e;cases e;obtain⟨c0,f1,f2,w,ts,k0,_,_,e0⟩:=Tz h0;subst e0;obtain⟨a,dx,l,v1,vs0,fp,Z,hH,_,_,_,_⟩:=R.mks k0;have p:(if m ∈ _ then none else some c0)=some c:=p
 by_cases u:m ∈ [f1,f2]
 . rw[if_pos u]at p;cases p
 rw[if_neg u]at p;cases p;obtain⟨k',f,fd,ps,J,cl,me,F1,b⟩:=hT _ _ h4;refine⟨.ref a,Z,a,_,dx,_,k',f,fd,ps,_,rfl,hH,cl,me, ?_,F1,hr.mono J,b,ht _ _ _ ⟨F,B,ad,as,rs,G,R,h5,λvs j H2 R2 L g2=>?_⟩⟩
 . have:List.lookup m ([f1,f2].zip [v1,V.ref l])=none:=(Yb _ _ _).trans<|V_ u;exact this
 obtain⟨c1,g1,M,w1,ts1,k1,N,O,s⟩:=Tz h6;subst s;obtain⟨a',dx',D,v1',vs',fp',x,y,P,C,S,hfp'⟩:=R2.mks k1;rw[Z]at x;cases x;refine⟨λz=>Lv F B _ true z/\z≠a/\z≠D,_,o,λz n=>R2.trk true z n.1,.cons ?_ ?_,h8,λv T H' u hT U W ro=>?_⟩
 . refine .ob (λz=>z.2.2.1 rfl) y rfl<|.cons (P.less λz q=>q.2.1)<|.cons (.lst (λz=>z.2.2.2 rfl) (.inl C) ?_) .nil;have:=Uq S N;rw[O]at this;exact this.less λz q=>q.2.1
 . exact(Ph R2 L h7).less λz q=>q.1
 . obtain⟨R',g'⟩:=R2.news u hT U W;refine q v T j H' R' (sk (F':=λz=>Lv F B _ true z/\z≠a/\z≠D) (λv d Y rp st=>?_) I ro)<|g2.trans g';refine(mf (U _ _ y) (U _ _ C) rp 60 Y).less λz n=>?_
   by_cases s:z=a
   . exact .inr<|.inl s
   by_cases E:z=D
   . exact .inr<|.inr E
   refine .inl ?_
   rcases n with(n|n)|n|n
   . exact .inl ⟨.inl<|.inl ⟨rfl,n.2⟩,s,E⟩
   . exact .inl ⟨.inl<|.inr n,s,E⟩
   . exact .inr n
   . exact .inl ⟨.inr<|.inr n,s,E⟩
def xr{pl}(hT:MT X.prog X.w X.K X.mg X.base kd m k tbl)(hr:Room k X.A)(hx:Z0 XQ X λ_ _ _=>False)(ho:PE X (.Name x p) (VL i))(ha:AA X kd (e::es) fr)
 (hst:starEach (e::es) X.env=(false,eval e X.env)::starEach es X.env) (hpl:(backTo pos<|starEach es X.env).any (·.1)=false)
 (ht:eval (.Call (.Attribute (.Name x p) m apos) (e::es) [] pos) X.env=(do
  let ov <-eval (.Name x p) X.env
  standAt apos.atName
  let(f,first) <-holding [ov] (getMethod ov m pl)
  callWith pos f first (backTo pos<|starEach (e::es) X.env) (backToKw pos<|keywordEach [] X.env))):
 AE X kd (.Call (.Attribute (.Name x p) m apos) (e::es) [] pos) (xB i tbl m fr):=by
 with_unfolding_all exact(yn (EO ho hx ha hst hpl ht) λσ H Q h=>u6 hT hr (λσ H Q z=>z) h)
end
noncomputable def DB(i:Nat)(cs:List Str)(f:Str)(fe:EF):Sg:=λas=>(fe as).bind λp=>match p.1 with
 | .ow o=>match p.2[i]? with
  |some (some (.nd (.ob c ns) os))=>if c ∈ cs/\f ∉ ns/\ns.length<1000 then some (p.2.set i<|some<|.nd (.ob c<|ns++[f])<|os++[o])else none
  |_=>none
 |_=>none
def B5{i:Nat}{cs:List Str}{f}{r:RV}{as as':AS}(e:(match r with
 | .ow o=>match as[i]? with
  |some (some (.nd (.ob c ns) os))=>if c ∈ cs/\f ∉ ns/\ns.length<1000 then some (as.set i<|some<|.nd (.ob c<|ns++[f])<|os++[o])else none
  |_=>none
 |_=>none)=some as'):∃o c ns os,r = .ow o/\as[i]? = some (some<|.nd (.ob c ns) os)/\c ∈ cs/\f ∉ ns/\ns.length<1000/\as'=as.set i (some<|.nd (.ob c<|ns++[f])<|os++[o]):=by
 split at e
 . split at e
   . obtain⟨⟨a,b,d⟩,g⟩:=zu e;cases g;rename_i k;exact⟨_,_,_,_,rfl,k,a,b,d,rfl⟩
   . cases e
 . cases e
def Ck{X:Cx}{kd e o}{fe:EF}{pos pos' cs n}{j:Nat}(hc:CF X.K kd cs n)(ho:PE X o (VL j))(he:AE X kd e fe)(hs:swapsWith e (some<|.Attribute o n pos') pos.line X.env=pure false):oj X kd (.Assign [.Attribute o n pos'] e pos) (DB j cs n fe):=by
 with_unfolding_all exact(wX (CZ ho he hs) λD σ H h=>by
  obtain⟨F,B,ad,as,as',R,e,q⟩:=h;obtain⟨⟨p,as1⟩,h1,e⟩:=bS_<|e;obtain⟨o0,c,ns,os,rfl,k1,hm,hf,hz,rfl⟩:=B5 e;refine⟨F,B,ad,as,_,as1,R,h1,λv T1 ad1 H1 R1 rv1 g1=>?_⟩;obtain⟨v0,hs0,ro0⟩:=R1.sl j _ k1;refine⟨v0,hs0, ?_⟩;generalize hfp:ad1 j=fp1 at ro0;cases ro0 with
  |ob hC hH hl rl=>
   rename_i l dx C vs fp;have ec:=hC.cl_eq;subst ec;have hnd:=R1.nd j;rw[hfp]at hnd;have rl':v_ X.K kd F B _ H1 _ _ _:=rl.append<|RoL.one rv1;refine⟨l,_,dx,_,rfl,hH,(hc _ hm).1,(hc _ hm).2,by rw[List.length_zip,hl,Nat.min_self,<-hl];exact hz, ?_⟩;rw[Tc hl hf];have dis:=λa m=>R1.dis j a (by rw[hfp];exact zzD _ m);obtain⟨R4,g4⟩:=R1.mut (n:=.nd (.ob c<|ns++[n]) _) (zzG.mp k1).1 hfp hs0 (fp':=fp++T1) (λa m=>by
    rwa [zyE]at m) (by
    rw[zyE];exact zxC.mpr ⟨(zzW.mp hnd).2,R1.tnd,λa m b m' e=>dis a m<|by rw[e];exact m'⟩) (by rw[hH];simp) λH' G' hl' gr kp=>.ob (.cl c) hl' (by rw[zzJ,zzJ,hl];rfl)<|v_.grow gr kp rl'
   exact q _ _ R4<|g1.trans g4)
abbrev VF:=AS->Option (D×AS)
def bv(n:Nat)(K:zzA)(kd:KD)(f:VF):TS:=λD σ H=>∃F B ad as d as',Rel K kd F B [] ad as σ H/\f as=some (d,as')/\∀σ' ad' H' v,(∀i,i<n->σ'[i]? = σ[i]?)->Rel K kd F B [] ad' as' σ' H'->Grow (Gw [] ad) H (Gw [] ad') H'->Rp K kd (Lv F B (Gw [] ad') true) H' v d->D.rt v H'
@[irreducible] def lG(X:Cx)(kd:KD)(n:Nat)(st:List Stmt)(f:VF):Prop:=NH X st<|bv n X.K kd f
def fu:RV×AS->Option (D×AS)
 |(.ow (.lf st d),as)=>if st=true\/zC d=true then some (d,as)else none
 |_=>none
def VY(fe:EF):VF:=λas=>(fe as).bind fu
noncomputable def Yl(f:SF)(g:VF):VF:=λas=>(f as).bind λo=>match o with
 | .nx as1=>g as1
 |_=>none
section
variable{X:Cx}{kd:KD}{n:Nat}{e:Expr}{st:Stmt}{rest:List Stmt}{fe:EF}{f:SF}{g:VF}{pos:Pos}
def DI:AP X kd n st IE:=by with_unfolding_all exact(λa s σ H D I h=>by obtain⟨F,B,b,as,o,R,e,q⟩:=h;cases e)
def YZ(he:AE X kd e fe):lG X kd n [.Return (some e) pos] (VY fe):=by with_unfolding_all exact(Xr (Pb<|Ov he) λD σ H h=>by
 obtain⟨F,B,ad,as,d,as',R,e,q⟩:=h;obtain⟨⟨p,as1⟩,h1,e⟩:=bS_<|e
 match p,e,h1 with
 | .ow (.lf st d0),e,h1=>
  obtain⟨hf,e⟩:=zu<|e;cases e;refine⟨F,B,ad,as,_,_,R,h1,λv T' ad' H' R' rv g=>?_⟩;cases rv with
  |lf rp=>exact q σ ad' H' v (λ_ _=>rfl) R' g (hf.elim (λe=>by subst e;exact rp) rp.flat))
def yp(h1:AP X kd n st f)(h2:lG X kd n rest g):lG X kd n (st::rest) (Yl f g):=by with_unfolding_all exact(Xr (V9 h1 h2) λD σ H h=>by
 obtain⟨F,B,l,as,d,a,R,e,q⟩:=h;obtain⟨o,p,e⟩:=bS_<|e;cases o with
 |nx b=>exact⟨F,B,l,as,_,R,p,λA c C r s t=>⟨F,B,c,b,d,a,s,e,λu j w v x R2 y z=>q u j w v (λi k=>(x i k).trans<|r i k) R2 (t.trans y) z⟩⟩
 |_=>cases e)
end
def IG(n m:Nat)(c:VF)(xs:List wG)(o:O):Option (D×O):=if xs.length+1=m then(c<|wV n (o::xs.map Ee)).bind λz=>(z.2[0]?).bind λs=>s.bind λr=>if r.str=true then some (z.1,r)else none else none
def spS(K:zzA)(kd:KD)(g:List wG->O->Option (D×O)):Sp:=λvs H Q _=>∃(F:Addr->Prop) (T:List Addr) (v:V) (ws:List V) (xs:List wG) (o:O) (d:D) (r:O),vs=v::ws/\(∀a,F a->H a≠none)/\T.Nodup/\(∀a ∈ T,H a≠none/\¬F a)/\RpI K kd F (λ_=>False) (· ∈ T) H ws xs/\vM K kd F (λ_=>False) (· ∈ T) H v o T/\g xs o=some (d,r)/\
 ∀(u:V) (H':Hp) (T':List Addr),(∀c u,H c=some u->c ∉ T->H' c=some u)->T'.Nodup->(∀a ∈ T',a ∈ T\/H a=none)->(∀a ∈ T',H' a≠none)->vM K kd F (λ_=>False) (· ∈ T') H' v r T'->Rp K kd (Lv F (λ_=>False) (· ∈ T') true) H' u d->Q u H'
section
variable{P:Program}{w:World}{K:zzA}{mg:Str->Option Value}{base:Heap}
def VC{kd x qual st f fd N ps}{k:Nat}{c}(Fn:Fun K x qual st f fd)(S:FnScope N ps (zO st))(hN:ps.length<=N.length)
 (hb:∀(cdv:Value) (A:Around) (outer:List Env) (s:Shared) (H:Hp) (E:XK),Room k (A.deeper<|envOfC qual (zO st) s.heap.objs.size f cdv)->lG (Rb XQ P w K mg base N qual (zO st) f cdv A outer s H E).nox kd 1 (Ze st) c):
 FnOk P w K mg base XQ (k+1) f fd ps (spS K kd<|IG N.length ps.length c):=by
 with_unfolding_all (
 refine Fn.ok S (λX H Q E h=>?_) λB A b s H X Q E Y h=>⟨_,hb B A b s H E Y, ?_⟩
 . obtain⟨F,T,v,C,t,o,d,r,rfl,L,M,O,j,U,e,q⟩:=h;obtain⟨V,_⟩:=ite_some'<|e
   rwa [zzT,j.length]
 . obtain⟨F,T,v,C,t,o,d,r,rfl,L,M,O,j,U,e,q⟩:=h;obtain⟨V,Z⟩:=ite_some'<|e;obtain⟨⟨d0,D⟩,e1,z1⟩:=bS_ Z;obtain⟨G,k0,z2⟩:=bS_ z1;obtain⟨r0,e2,z3⟩:=bS_ z2;obtain⟨hr0,z4⟩:=zu z3;subst e2;cases z4;have J:v_ K kd F (λ_=>False) (· ∈ T) H (v::C) (o::t.map Ee) T:=by
    have:=RoL.cons U<|Ii j
    rwa [zyE]at this
   have R0:=Ge (N:=N) L M O (FM t) (by rw[zzT,zzB];omega) J;have W:∀a,Gw [] (λi=>if i=0 then T else[]) a->a ∈ T:=λa z=>z.elim ⋯ λ⟨i,y⟩=>by
    by_cases e:i=0
    . subst e;simpa using y
    . simp[e]at y
   refine⟨F,λ_=>False,_,wV N.length _,d0,D,R0,e1,λσ' l H' u sp R g rp=>?_⟩;obtain⟨u0,G,t0⟩:=R.sl 0 _ k0;rw[sp 0 ⋯]at G;have sv:(L2.start N (v::C))[0]? = some _:=rfl;cases(sv.symm.trans G);have p:∀a,a ∈ l 0->Gw [] l a:=λa z=>.inr ⟨_,z⟩;exact q u H' _ (λc u h n=>g.keep c u h λz=>n<|W c z) (R.nd _) (λa m=>(g.own a<|p a m).imp (W a) id) (λa m=>(R.gtr a<|p a m).1) (vM.lv (λst a z=>z.imp id<|p a) t0)<|rp.less λa z=>z.imp id<|p a)
end
def Ro.monoS{L L' N N' H}(hL:∀v d,L true v d->L' true v d)(hN:∀a,N a->N' a){v o fp}(s:o.str=true)(h:Ro L N H v o fp):Ro L' N' H v o fp:=
 Ro.rec (motive_2:=λg f b _=>O.strs f=true->RoL L' N' H g f b)
  (λ{i v d} h s=>by have e:=s;subst e;exact .lf<|hL _ _ h) (λh _ r s=>.ls h<|r s) (λh l _ r s=>.dc h l<|r s) (λc h l _ r s=>.ob (hL _ _ c) h l<|r s) (λn h _ r s=>.tp (hN _ n) h<|r s)
  (λ_=>.nil) (λ_ _ h r s=>.cons (h ((zyC _ _).mp s).1)<|r ((zyC _ _).mp s).2) h s
def GW(i:Nat)(as:AS):List RV->Option (List wG)
 | []=>some []
 | .ow o::rs=>(GW i as rs).bind λy=>some ((zC o.toD||o.str,o.toD)::y)
 | .bo j::rs=>(as[j]?).bind λs=>s.bind λo=>if j=i then none else(GW i as rs).bind λy=>some ((false,o.toD)::y)
section
variable{K:zzA}{kd:KD}{F B:Addr->Prop}{ad:Ad}{as:AS}{σ:St}{H:Hp}{i:Nat}
def JS(R:Rel K kd F B [] ad as σ H){vs rs xs}(h:RVs K kd F B ad σ H vs rs)(e:GW i as rs=some xs):RpI K kd (λz=>Lv F B (Gw [] ad) true z/\z ∉ ad i) (λ_=>False) (· ∈ ad i) H vs xs:=by
 induction h generalizing xs with
 |nil=>cases e;exact .nil
 |cons h t l=>
  rename_i v r E q;cases r with
  |ow o=>
   obtain⟨y,f,e⟩:=bS_<|e;cases e;refine .cons ?_<|l f;cases hf:zC o.toD with
   |true=>exact(Ud h).flat hf
   |false=>
    refine(Uc h).less λa z=>?_
    rcases z with(z|z)|z
    . rw[show o.str=true from z.1];exact z.2.1
    . exact z.elim
    . exact .inr (.inr ⟨i,z⟩)
  |bo j=>
   obtain⟨s,k,u⟩:=bS_<|e;obtain⟨o,x,c⟩:=bS_ u;subst x
   by_cases g:j=i
   . rw[if_pos g]at c;cases c
   rw[if_neg g]at c;obtain⟨y,f,A⟩:=bS_ c;cases A;refine .cons ?_<|l f;obtain⟨w,p,C⟩:=R.sl j _ k;rw[h.2]at p;cases p;have ob:∀z,Lv (λz=>Lv F B (Gw [] ad) true z/\z ∉ ad i) (λ_=>False) _ false z->z ∈ ad i:=λz b=>by
    rcases b with(b|b)|b
    . exact nomatch b.1
    . exact b.elim
    . exact b
   exact Ro.rp false (λD v d _ r=>(r).less λz b=>.inr<|.inr ⟨i,ob z b⟩) (λa n z=>n<|.inr<|.inr ⟨i,ob a z⟩) ⋯ (λa m z=>g<|R.inj j i a m<|ob a z) C
end
def n_{K:zzA}{kd:KD}{F B:Addr->Prop}{ad:Ad}{as:AS}{σ:St}{H:Hp}{i:Nat}{T:List Addr}(R:Rel K kd F B [] ad as σ H){a}(z:Gw [] (yX ad i T) a):G1 (Gw [] ad) (ad i) T a:=by
 rcases z with z|⟨k,z⟩
 . exact nomatch z
 . by_cases e:k=i
   . subst e;rw[zQ]at z;exact .inr z
   . rw[zS e]at z;exact .inl ⟨.inr ⟨k,z⟩,λy=>e<|R.inj k i a z y⟩
noncomputable def iA(m:Str):Option (Option O)->Option Str
 |some (some (.nd (.ob c ns) _))=>if m ∈ ns then none else some c
 |_=>none
def vK(i:Nat)(c0 m:Str)(g:List wG->O->Option (D×O))(fr:AF):EF:=λas=>(iA m as[i]?).bind λc=>if c=c0 then(fr as).bind λq=>(GW i q.2 q.1).bind λxs=>(q.2[i]?).bind λs=>s.bind λo=>(g xs o).bind λz=>if z.2.str=true then some (.ow<|.lf true z.1,q.2.set i<|some z.2)else none else none
def MS(P:Program)(w:World)(K:zzA)(mg:Str->Option Value)(base:Heap)(kd:KD)(m:Str)(k:Nat)(c:Str)(g:List wG->O->Option (D×O)):Prop:=
 ∃k' f fd ps,k'<=k/\Cls K (kd.c c)/\Meth K (kd.c c) m f/\FnOk P w K mg base XQ k' f fd ps (spS K kd g)/\Binds K fd ps []
section
variable{X:Cx}{kd:KD}{e:Expr}{es:List Expr}{fr:AF}{pos apos p:Pos}{m x c0:Str}{g:List wG->O->Option (D×O)}{k i:Nat}
def uC(hT:MS X.prog X.w X.K X.mg X.base kd m k c0 g)(hr:Room k X.A){σ H Q t}(ht:∀σ H Q,De X.K kd fr σ H Q->t σ H Q)(h:al X.K kd (vK i c0 m g fr) σ H Q):A3 X m (VL i) t σ H Q:=by
 obtain⟨F,B,ad,as,r,as',R,e,q⟩:=h;obtain⟨c,h0,e⟩:=bS_<|e;obtain⟨ec,z0⟩:=ite_some' e;subst ec;obtain⟨⟨rs,as2⟩,h5,z1⟩:=bS_ z0;obtain⟨xs,h6,z2⟩:=bS_ z1;obtain⟨s,k2,z3⟩:=bS_ z2;obtain⟨o,e1,z4⟩:=bS_ z3;subst e1;obtain⟨⟨d,r⟩,h7,z5⟩:=bS_ z4;obtain⟨hst,z6⟩:=zu z5;cases z6;obtain⟨ns,os,k0,hn⟩:∃ns os,as[i]? = some (some _)/\m ∉ ns:=by
  unfold iA at h0
  split at h0
  . rename_i c' ns' os' k0
    by_cases hm:m ∈ ns'
    . rw[if_pos hm]at h0;cases h0
    . rw[if_neg hm]at h0;cases h0;exact⟨_,_,k0,hm⟩
  . cases h0
 obtain⟨v,hs,ro⟩:=R.sl i _ k0;generalize hfp:ad i=fp0 at ro;cases ro with
 |ob hC hH hl rl=>
  rename_i a dx C vs0 fp;have ec:=hC.cl_eq;subst ec;obtain⟨k',f,fd,ps,hk',cl,me,F1,b⟩:=hT;refine⟨.ref a,hs,a,_,dx,_,k',f,fd,ps,_,rfl,hH,cl,me,(Yb _ _ _).trans<|V_ hn,F1,hr.mono hk',b,ht _ _ _ ⟨F,B,ad,as,rs,as2,R,h5,λvs ad2 H2 R2 rv2 g2=>?_⟩⟩;obtain⟨v',hv',ro'⟩:=R2.sl i _ k2;rw[hs]at hv';cases hv';have hi:=(zzG.mp k2).1;refine⟨λz=>Lv F B _ true z/\z ∉ ad2 i,ad2 i,.ref a,vs,xs,o,d,r,rfl,λz hz=>R2.trk true z hz.1,R2.nd i,λz mz=>⟨(R2.gtr z<|.inr ⟨i,mz⟩).1,λy=>y.2 mz⟩,JS R2 rv2 h6,vM.lv (λst z hz=>?_) ro',h7,λu H' T' kp nd sub al ro3 rp=>?_⟩
  . rcases hz with(hz|hz)|hz
    . rw[hz.1];exact hz.2.1
    . exact hz.elim
    . exact .inr<|.inr ⟨i,hz⟩
  . have le:∀z,Lv F B (G1 _ _ T') true z->Lv (λz=>Lv F B (Gw [] ad2) true z/\z ∉ ad2 i) (λ_=>False) _ true z:=λz hz=>by
     rcases hz with(hz|hz)|hz|hz
     . exact .inl<|.inl ⟨rfl,.inl<|.inl hz,λy=>(R2.gtr z<|.inr ⟨i,y⟩).2 hz.2⟩
     . exact .inl<|.inl ⟨rfl,.inl<|.inr hz,λy=>(R2.btr z hz).2.2<|.inr ⟨i,y⟩⟩
     . exact .inl<|.inl ⟨rfl,.inr hz.1,hz.2⟩
     . exact .inr hz
    have r0:vM X.K kd F B _ H' _ r T':=Ro.monoS (λv d h=>Rp.less le h) (λz n y=>n<|le z y) hst ro3;obtain⟨R3,g3⟩:=R2.chg1 hi hs nd sub kp al r0;exact q u [] _ H' R3 (.lf<|rp.less λz y=>le z<|y.imp id<|n_ R2)<|g2.trans g3
def xY{pl}(hT:MS X.prog X.w X.K X.mg X.base kd m k c0 g)(hr:Room k X.A)(hx:Z0 XQ X λ_ _ _=>False)(ho:PE X (.Name x p) (VL i))(ha:AA X kd (e::es) fr)
 (hst:starEach (e::es) X.env=(false,eval e X.env)::starEach es X.env) (hpl:(backTo pos<|starEach es X.env).any (·.1)=false)
 (ht:eval (.Call (.Attribute (.Name x p) m apos) (e::es) [] pos) X.env=(do
  let ov <-eval (.Name x p) X.env
  standAt apos.atName
  let(f,first) <-holding [ov] (getMethod ov m pl)
  callWith pos f first (backTo pos<|starEach (e::es) X.env) (backToKw pos<|keywordEach [] X.env))):
 AE X kd (.Call (.Attribute (.Name x p) m apos) (e::es) [] pos) (vK i c0 m g fr):=by
 with_unfolding_all exact(yn (EO ho hx ha hst hpl ht) λσ H Q h=>uC hT hr (λσ H Q z=>z) h)
end
def qw{P w K mg base kd m c}{k k':Nat}{C f fd ps g}(ci:CI K kd mg c C)(me:Meth K C m f)(F:FnOk P w K mg base XQ k' f fd ps (spS K kd g))(b:Binds K fd ps [])(hk:k'<=k:=by decide):MS P w K mg base kd m k c g:=by
 have e:=ci.eq;subst e;exact⟨_,_,_,_,hk,ci.cl,me,F,b⟩
abbrev DM(h:Heap)(T:Nat)(a b c:Value):Prop:=h.get? T=some {cls:=.type "tuple",data:=.seq #[a,b,c]}
structure Z3(h:Heap)(I l1 l2 l3 k:Nat)(f0:Value):Prop where
 z:IsZip h (I+5) (I+3) (I+4) f0
 ti:DM h (I+3) (.ref I) (.ref<|I+1) (.ref<|I+2)
 to:∃a b c,DM h (I+4) a b c
 h1:h.IsListIter I l1 k
 h2:h.IsListIter (I+1) l2 k
 h3:h.IsListIter (I+2) l3 k
section
variable{prog:Program}{w:World}{A:Around}{E:Value->Shared->Prop}{s:Shared}
def LY{T:Nat}{a b c x}{k:Nat}{Q}(hT:DM s.heap T a b c)
 (h:∀h',h'.get? T=some {cls:=.type "tuple",data:=.seq ((#[a,b,c]:Array Value).setIfInBounds k x)}->Heap.SameBut T s.heap h'->Q () {s with heap:=h'}):wpAny (model prog w) A (updateSeq T (·.setIfInBounds k x)) Q E s:=by
 refine wpAny_updateSeq hT rfl<|h _ ?_<|Heap.SameBut.update ..;rw[Heap.get?_update_self _ hT rfl];simp[Obj.mapSeq]
def IL{I l1 l2 l3 k:Nat}{xs ys zs x y z}{Q:Value->Shared->Prop}(d1:l1<I)(d2:l2<I)(d3:l3<I)(Z:Z3 s.heap I l1 l2 l3 k .none)
 (hl1:s.heap.IsList l1 xs) (hl2:s.heap.IsList l2 ys) (hl3:s.heap.IsList l3 zs) (hx:xs[k]? = some x) (hy:ys[k]? = some y) (hw:zs[k]? = some z)
 (hQ:∀h',Z3 h' I l1 l2 l3 (k+1) (rawInt s.heap.objs.size)->DM h' s.heap.objs.size x y z->(∀(c:Nat) o,c<I\/I+5<c->s.heap.get? c=some o->h'.get? c=some o)->Q (.ref s.heap.objs.size) {s with heap:=h'}):
 wpAny (model prog w) A (Builtin.«zip.__next__» ⟨[.ref<|I+5],[]⟩) (λfin s'=>∃v,fin = .done (.ret v)/\Q v s') E s:=by
 obtain⟨t,B,⟨a,b,c,K⟩,h1,h2,h3⟩:=Z;have d:∀{p q:Nat},p<q\/q<p->p≠q:=λh=>q0A h
 show wpAny _ _ (field (.ref<|I+5) 2 >>= _) _ _ _;refine zxD<|wpAny_field t rfl rfl ?_;refine zxD<|wpAny_field t rfl rfl ?_;refine zxD<|wpAny_seqItems B rfl ?_;refine zxD ?_;unfold Builtin.SmallTypes.ownedTupleIsFree;refine zxD<|wpAny_field t rfl (x:=.none) rfl<|zxE ?_;simp only[if_true];refine zxD<|wpAny_rule ?_;refine zxD<|wpAny_field t rfl rfl ?_;refine zxD (wpAny_setField_rec t (by simp) λg1 g V=>?_)
 replace g:IsZip g1 (I+5) (I+3) (I+4) .ellipsis:=g
 refine zxD ?_;simp only[List.zipIdx_cons,List.zipIdx_nil,List.forIn_cons,List.forIn_nil];refine zxD<|zxD<|wpAny_onRaise ?_;have L:=λp o n=>V.extBut p o n;refine zxD<|wpAny_nextOf_list_item (h1.at λo e=>L _ o (d<|(q0g)) e) (hl1.at λo e=>L _ o (d<|(q0m d1)) e) hx λg2 i2 M=>zxE ?_;have W:=λp o n (m:p≠I) e=>M.extBut p o m<|L p o n e;have X:=W _ _ (d<|(q0v)) (d<|by omega) K;refine zxD<|wpAny_seqItems X rfl ?_;refine zxD (LY X λY N F=>?_)
 replace N:DM Y (I+4) x b c:=N
 refine zxD<|wpAny_letGo<|zxE ?_;have O:=λp o n (m:p≠I) r e=>F.extBut p o r<|W p o n m e;have i3:=i2.at λo e=>F.extBut _ o (d<|(q0w)) e;refine zxD<|zxD<|wpAny_onRaise ?_;refine zxD<|wpAny_nextOf_list_item (h2.at λo e=>O _ o (d<|(q0u)) (d<|by omega) (d<|(q0x)) e) (hl2.at λo e=>O _ o (d<|(q0m d2)) (d<|by omega) (d<|(q1u d2)) e) hy λg4 j4 C=>zxE ?_;have t4:=C.extBut _ _ (d<|by omega) N;refine zxD<|wpAny_seqItems t4 rfl ?_;refine zxD (LY t4 λP R D=>?_)
 replace R:DM P (I+4) x y c:=R
 refine zxD<|wpAny_letGo<|zxE ?_;have S:=λp o n (m:p≠I) r u e=>D.extBut p o r<|C.extBut p o u<|O p o n m r e;have i5:=i3.at λo e=>D.extBut _ o (d<|(q0w))<|C.extBut _ o (d<|by omega) e;have j5:=j4.at λo e=>D.extBut _ o (d<|(q0x)) e;refine zxD<|zxD<|wpAny_onRaise ?_;refine zxD<|wpAny_nextOf_list_item (h3.at λo e=>S _ o (d<|(q0s)) (d<|by omega) (d<|(q1n)) (d<|by omega) e) (hl3.at λo e=>S _ o (d<|(q0m d3)) (d<|by omega) (d<|(q1u d3)) (d<|by omega) e) hw λg6 l6 i=>zxE ?_;have t6:=i.extBut _ _ (d<|by omega) R;refine zxD<|wpAny_seqItems t6 rfl ?_;refine zxD (LY t6 λf G j=>?_)
 replace G:DM f (I+4) x y z:=G
 refine zxD<|wpAny_letGo<|zxE<|zxE ?_;have k7:=λp o n (m:p≠I) (r:p≠I+4) (u:p≠I+1) (v:p≠I+2) e=>j.extBut p o r<|i.extBut p o v<|S p o n m r u e;have i7:=i5.at λo e=>j.extBut _ o (d<|(q0w))<|i.extBut _ o (d<|by omega) e;have j7:=j5.at λo e=>j.extBut _ o (d<|(q0x))<|i.extBut _ o (d<|by omega) e;have l7:=l6.at λo e=>j.extBut _ o (d<|(q1n)) e;have z7:=j.extBut _ _ (d<|(q0y))<|i.extBut _ _ (d<|by omega)<|D.extBut _ _ (d<|(q0y))<|C.extBut _ _ (d<|by omega)<|F.extBut _ _ (d<|(q0y))<|M.extBut _ _ (d<|(q1p)) g;have u7:=k7 _ _ (d<|(q0t)) (d<|by omega) (d<|by omega) (d<|by omega) (d<|by omega) B;have T:f.objs.size=s.heap.objs.size:=by rw[j.1,i.1,D.1,C.1,F.1,M.1,V.1]
 refine zxD<|wpAny_seqItems G rfl ?_;refine zxD<|wpAny_newTuple ?_;have zl:=zxG z7;refine zxD ?_;unfold Builtin.SmallTypes.ownedTupleHandOut;have z8:IsZip (f.push {cls:=.type "tuple",data:=.seq #[x,y,z]}) (I+5) (I+3) (I+4) .ellipsis:=zxF _ z7;refine zxD (wpAny_setField_rec z8 (by simp) λg9 U q9=>?_)
 replace U:IsZip g9 (I+5) (I+3) (I+4) (rawInt f.objs.size):=U
 refine wpAny_setField_rec U (by simp) λH J q0=>?_
 replace J:IsZip H (I+5) (I+3) (I+4) (rawInt f.objs.size):=J
 have l:∀(c:Nat) o,c≠I+5->f.get? c=some o->H.get? c=some o:=λc o c1 e=>q0.extBut _ _ c1<|q9.extBut _ _ c1<|zxF _ e;have hT:=q0.extBut _ _ (d<|.inr zl)<|q9.extBut _ _ (d<|.inr zl)<|zxH _ rfl;refine zxE ⟨_,rfl, ?_⟩;rw[T]at J hT ⊢;exact hQ H ⟨J,l _ _ (d<|(q0t)) u7,⟨x,y,z,l _ _ (d<|(q0v)) G⟩,i7.at λo e=>l _ o (d<|(q0g)) e,j7.at λo e=>l _ o (d<|(q0u)) e,l7.at λo e=>l _ o (d<|(q0s)) e⟩ hT λc o hc e=>l c o (d<|(q0i hc))<|k7 c o (d<|(q0i hc)) (d<|(q1g hc)) (d<|by omega) (d<|by omega) (d<|by omega) e
def tF{I l1 l2 l3 k:Nat}{xs Q}(hh:A.handled=none)(d1:l1<I)(Z:Z3 s.heap I l1 l2 l3 k .none)(hl1:s.heap.IsList l1 xs)(hx:xs[k]? = none)
 (hE:∀h' e,(∀(c:Nat) o,c<I\/I+5<c->s.heap.get? c=some o->h'.get? c=some o)->(∃o,h'.get? e=some o/\o.cls = .type "StopIteration")->E (.ref e) {s with heap:=h'}):
 wpAny (model prog w) A (Builtin.«zip.__next__» ⟨[.ref<|I+5],[]⟩) Q E s:=by
 obtain⟨i,m,⟨a,b,c,y⟩,z,J,K⟩:=Z;have g:∀{p q:Nat},p<q\/q<p->p≠q:=λh=>q0A h
 show wpAny _ _ (field _ 2 >>= _) _ _ _;refine zxD<|wpAny_field i rfl rfl ?_;refine zxD<|wpAny_field i rfl rfl ?_;refine zxD<|wpAny_seqItems m rfl ?_;refine zxD ?_;refine zxD<|wpAny_field i rfl rfl<|zxE ?_;refine zxD<|wpAny_rule ?_;refine zxD<|wpAny_field i rfl rfl ?_;refine zxD (wpAny_setField_rec i (by simp) λB d C=>?_)
 replace d:IsZip B (I+5) (I+3) (I+4) .ellipsis:=d
 refine zxD ?_;refine zxD<|zxD<|wpAny_onRaise ?_;have r:=λp o n=>C.extBut p o n;refine zxD<|wpAny_nextOf_list_end hh (z.at λo e=>r _ o (g<|(q0g)) e) (hl1.at λo e=>r _ o (g<|(q0m d1)) e) hx λD e u F=>?_;obtain⟨G,f,j⟩:=F;have l:=u _ _ (g<|(q1p)) d;have t:e≠I+5:=λx=>by subst x;rw[l]at f;cases f;simp at j
 refine wpAny_setField_rec l (by simp) λH _ v=>hE H e (λc o L x=>v.extBut _ _ (g<|(q0i L))<|u _ _ (g<|(q1g L))<|r c o (g<|(q0i L)) x) ⟨G,v.extBut _ _ t f,j⟩
end
section
variable{prog:Program}{w:World}{A:Around}{E:Value->Shared->Prop}{s:Shared}
def HX{I l1 l2 l3 k:Nat}{xs ys zs x y z Q}(d1:l1<I)(d2:l2<I)(d3:l3<I)(Z:Z3 s.heap I l1 l2 l3 k .none)
 (hl1:s.heap.IsList l1 xs) (hl2:s.heap.IsList l2 ys) (hl3:s.heap.IsList l3 zs) (hx:xs[k]? = some x) (hy:ys[k]? = some y) (hw:zs[k]? = some z)
 (hQ:∀h',Z3 h' I l1 l2 l3 (k+1) (rawInt s.heap.objs.size)->DM h' s.heap.objs.size x y z->(∀(c:Nat) o,c<I\/I+5<c->s.heap.get? c=some o->h'.get? c=some o)->Q (some<|.ref s.heap.objs.size) {s with heap:=h'}):
 wpAny (model prog w) A (pyNext<|.ref<|I+5) Q E s:=by
 have hT:s.TypeIs (.ref _) "zip":=⟨_,Z.z,rfl⟩;exact zxD<|wpAny_attempt<|wpAny_callSpecial?_slot hT PySem.F.slot_zip_next<|zxL PySem.F.slot_zip_next hT PySem.F.entry_zip_next (IL d1 d2 d3 Z hl1 hl2 hl3 hx hy hw λh' a1 a2 a3=>zxE<|hQ h' a1 a2 a3)<|PySem.F.args_zip_next_1 _
def OY{I l1 l2 l3 k:Nat}{xs Q}(hh:A.handled=none)(d1:l1<I)(Z:Z3 s.heap I l1 l2 l3 k .none)(hl1:s.heap.IsList l1 xs)(hx:xs[k]? = none)
 (hQ:∀h',(∀(c:Nat) o,c<I\/I+5<c->s.heap.get? c=some o->h'.get? c=some o)->Q none {s with heap:=h'}):wpAny (model prog w) A (pyNext<|.ref<|I+5) Q E s:=by
 have hT:s.TypeIs (.ref _) "zip":=⟨_,Z.z,rfl⟩;refine zxD<|wpAny_attempt<|wpAny_callSpecial?_slot hT PySem.F.slot_zip_next<|zxL PySem.F.slot_zip_next hT PySem.F.entry_zip_next (tF hh d1 Z hl1 hx λh' e hk he=>?_)<|PySem.F.args_zip_next_1 _;obtain⟨o,ho,hc⟩:=he;refine zxD<|wpAny_isInstance ⟨o,ho,hc⟩ isSubtype_stop ?_;exact zxE<|hQ _ hk
end
noncomputable abbrev lF(h:Heap)(l1 l2 l3:Nat):Heap:=zipH1 (zipH2 h l1 l2) l3
abbrev lC(h:Heap)(l1 l2 l3:Nat):Heap:=(lF h l1 l2 l3).push {cls:=.type "tuple",data:=.seq #[.ref h.objs.size,.ref (zipH1 h l1).objs.size,.ref (zipH2 h l1 l2).objs.size]}
abbrev lr(h:Heap)(l1 l2 l3:Nat):Heap:=(lC h l1 l2 l3).push {cls:=.type "tuple",data:=.seq #[.none,.none,.none]}
abbrev tX(h:Heap)(l1 l2 l3:Nat):Heap:=(lr h l1 l2 l3).push {cls:=.type "zip",data:=.fields #[.none,.bool false,.bool false,.ref (lF h l1 l2 l3).objs.size,.ref (lC h l1 l2 l3).objs.size]}
set_option maxHeartbeats 4000000 in
def sF(l1 l2 l3:Nat)(xs ys zs):Meets (Builtin.«zip.__new__» ⟨[.type "zip",.ref l1,.ref l2,.ref l3],[]⟩) (λ_ R s=>s.heap.IsList l1 xs/\s.heap.IsList l2 ys/\s.heap.IsList l3 zs/\
 R (.ok<|.ret<|.ref (lr s.heap l1 l2 l3).objs.size) {s with heap:=tX s.heap l1 l2 l3}):=
 .of_wp λprog w A R s h=>by
  obtain⟨hp,g,d,tk,os⟩:=s;obtain⟨hl1,hl2,hl3,h⟩:=h;have hsub:=sub_zip;have hL1:=hl1;have hL2:Heap.IsList (Shared.heap ⟨hp.push {cls:=.type "list_iterator",data:=.fields #[.ref l1,.int 0 0]},g,d,tk,os⟩) l2 ys:=Heap.IsList.push hl2 _;have hL3:Heap.IsList (Shared.heap ⟨(hp.push {cls:=.type "list_iterator",data:=.fields #[.ref l1,.int 0 0]}).push {cls:=.type "list_iterator",data:=.fields #[.ref l2,.int 0 0]},g,d,tk,os⟩) l3 zs:=Heap.IsList.push (Heap.IsList.push hl3 _) _
  wp_walk using wpAny_pyIter_list hL1,wpAny_pyIter_list hL2,wpAny_pyIter_list hL3
  exact⟨_,rfl,h⟩
def J7(a b c):checkTypeCall "zip" ⟨[a,b,c],[]⟩=pure ():=⋯
theorem JX(a b c):checkBuiltinCall "zip.__new__" ⟨[.type "zip",a,b,c],[]⟩=pure ():=by kernel_rfl
def JK(a b c d):argsOk "object.__init__" ⟨[a,b,c,d],[]⟩:=⋯
def Hg{prog w A E s}{l1 l2 l3:Nat}{xs ys zs Q}(hl1:s.heap.IsList l1 xs)(hl2:s.heap.IsList l2 ys)(hl3:s.heap.IsList l3 zs)
 (h:∀h',Z3 h' s.heap.objs.size l1 l2 l3 0 .none->(∀c o,s.heap.get? c=some o->h'.get? c=some o)->Q (.ref<|s.heap.objs.size+5) {s with heap:=h'}):
 wpAny (model prog w) A (call (.type "zip") [.ref l1,.ref l2,.ref l3]) Q E s:=by
 refine callType_new PySem.F.called_zip (by decide) (J7 _ _ _) (JX _ _ _) (λobj=>JK obj _ _ _) PySem.F.entry_zip_new (sF l1 l2 l3 xs ys zs) ⟨hl1,hl2,hl3, ?_⟩;have z1:(zipH1 s.heap l1).objs.size=s.heap.objs.size+1:=zxJ ..;have z2:(zipH2 s.heap l1 l2).objs.size=s.heap.objs.size+2:=by rw[zxJ,z1]
 have z3:(lF s.heap l1 l2 l3).objs.size=s.heap.objs.size+3:=by rw[zxJ,z2]
 have z4:(lC s.heap l1 l2 l3).objs.size=s.heap.objs.size+4:=by rw[zxJ,z3]
 have z5:(lr s.heap l1 l2 l3).objs.size=s.heap.objs.size+5:=by rw[zxJ,z4]
 have g6:(tX s.heap l1 l2 l3).get? (lr s.heap l1 l2 l3).objs.size=some _:=zxH _ rfl;have g5:(tX s.heap l1 l2 l3).get? (lC s.heap l1 l2 l3).objs.size=some _:=zxF _<|zxH _ rfl;have g4:(tX s.heap l1 l2 l3).get? (lF s.heap l1 l2 l3).objs.size=some _:=zxF _<|zxF _<|zxH _ rfl;have g3:(tX s.heap l1 l2 l3).get? (zipH2 s.heap l1 l2).objs.size=some _:=zxF _<|zxF _<|zxF _<|zxH _ rfl;have g2:(tX s.heap l1 l2 l3).get? (zipH1 s.heap l1).objs.size=some _:=zxF _<|zxF _<|zxF _<|zxF _<|zxH _ rfl;have g1:(tX s.heap l1 l2 l3).get? s.heap.objs.size=some _:=zxF _<|zxF _<|zxF _<|zxF _<|zxF _<|zxH _ rfl;rw[z3,z4,z5]at g6;rw[z4]at g5;rw[z1,z2,z3]at g4;rw[z2]at g3;rw[z1]at g2;rw[z5];exact⟨⟨_,g6,rfl⟩,h _ ⟨g6,g4,⟨_,_,_,g5⟩,⟨_,g1,rfl,rfl⟩,⟨_,g2,rfl,rfl⟩,⟨_,g3,rfl,rfl⟩⟩ λc o x=>zxF _<|zxF _<|zxF _<|zxF _<|zxF _<|zxF _ x⟩
def um(K:zzA)(a b c:Addr):It:=
 ⟨λi H=>∃xs ys zs x y z,X3 K H a xs/\X3 K H b ys/\X3 K H c zs/\xs[i]? = some x/\ys[i]? = some y/\zs[i]? = some z,
  λi H v H'=>∃T x y z,H T=none/\v = .ref T/\H'=upd H T (.tup [x,y,z])/\(∀xs,X3 K H a xs->xs[i]? = some x)/\(∀ys,X3 K H b ys->ys[i]? = some y)/\∀zs,X3 K H c zs->zs[i]? = some z,
  λi H=>∃xs,X3 K H a xs/\xs.length<=i⟩
def Lc{I c:Nat}:c ∈ [I+5,I+3,I+4,I,I+1,I+2] ↔ I<=c/\c<=I+5:=by
 simp;omega
def Se{P w K elts}{kk:Nat}{pos}(a b c I:Nat)(d1:a<I)(d2:b<I)(d3:c<I):Turn P w K (.Tuple elts kk pos) (um K a b c) [I+5,I+3,I+4,I,I+1,I+2] (I+5) (λi h=>Z3 h I a b c i .none)where
 mem:=by simp
 obj:=λi h st d hd=>by
  obtain⟨hz,hTI,⟨p,q,r,hTO⟩,⟨o1,e1,c1,f1⟩,⟨o2,e2,c2,f2⟩,⟨o3,e3,c3,f3⟩⟩:=st;simp at hd
  rcases hd with rfl|rfl|rfl|rfl|rfl|rfl
  . exact⟨_,hz,λv z=>by cases z⟩
  . exact⟨_,hTI,λv z=>by cases z⟩
  . exact⟨_,hTO,λv z=>by cases z⟩
  . exact⟨o1,e1,λv z=>by rw[f1]at z;cases z⟩
  . exact⟨o2,e2,λv z=>by rw[f2]at z;cases z⟩
  . exact⟨o3,e3,λv z=>by rw[f3]at z;cases z⟩
 keep:=λi h h' st k=>by
  obtain⟨hz,hTI,⟨p,q,r,hTO⟩,h1,h2,h3⟩:=st;exact⟨k _ (by simp) _ hz,k _ (by simp) _ hTI,⟨p,q,r,k _ (by simp) _ hTO⟩,h1.at λo e=>k _ (by simp) o e,h2.at λo e=>k _ (by simp) o e,h3.at λo e=>k _ (by simp) o e⟩
 item:=by
  intro X hP hw hK hc i pins s σ H E I' hf st hg;subst hP hw hK;obtain⟨xs,ys,zs,x,y,z,hq,hr,hs,hx,hy,hz⟩:=hg;obtain⟨its,rv,p,_⟩:=I'.list hq;obtain⟨jts,rv',p',_⟩:=I'.list hr;obtain⟨kts,rv'',p'',_⟩:=I'.list hs;obtain⟨u,hu,ru⟩:=rv.get hx;obtain⟨u',hu',ru'⟩:=rv'.get hy;obtain⟨u'',hu'',ru''⟩:=rv''.get hz;refine HX d1 d2 d3 st p.isList p'.isList p''.isList (by simpa using hu) (by simpa using hu') (by simpa using hu'') λh1 hZ hT k1=>?_;refine⟨_,rfl,wpAny_letOwnedTupleGo_zip hZ.z λh2 hz2 q2=>?_⟩;have zl:I+5<s.heap.objs.size:=zxG st.z;have nq:∀{p q:Nat},p<q\/q<p->p≠q:=λh=>q0A h
  have hn:=I'.hok.fresh<|zzN _;have k2:∀c o,c ∉ [I+5,I+3,I+4,I,I+1,I+2]->s.heap.get? c=some o->h2.get? c=some o:=λc o hc e=>by
   rw[Lc]at hc;exact q2.extBut c o (nq<|by omega)<|k1 c o (q1h hc) e
  have hT2:IsTup h2 s.heap.objs.size #[u,u',u'']:=⟨_,q2.extBut _ _ (nq<|.inr zl) hT,rfl,_,rfl⟩;obtain⟨_,t2,⟨ta,tb,tc,t3⟩,t4,t5,t6⟩:=hZ;refine⟨.ref s.heap.objs.size,upd H s.heap.objs.size<|.tup [x,y,z],Qf (s:=s) (t':=s.toks) I' hf k2 (zzN _) ⟨by show 3<=sizeLine;decide,[u,u',u''],.cons ru<|.cons ru'<|.cons ru'' .nil,hT2⟩,rfl,⟨_,x,y,z,hn,rfl,rfl,λq hq'=>by rw[I'.list_inj hq' hq];exact hx,λq hq'=>by rw[I'.list_inj hq' hr];exact hy,λq hq'=>by rw[I'.list_inj hq' hs];exact hz⟩,⟨hz2,q2.extBut _ _ (nq<|(q0t)) t2,⟨ta,tb,tc,q2.extBut _ _ (nq<|(q0v)) t3⟩,t4.at λo e=>q2.extBut _ o (nq<|(q0g)) e,t5.at λo e=>q2.extBut _ o (nq<|(q0u)) e,t6.at λo e=>q2.extBut _ o (nq<|(q0s)) e⟩,λd hd=>?_⟩;have hd':=Lc.mp hd;rw[zK<|nq<|by omega];exact(hf d hd).1
 done:=by
  intro X hP hw hK hc i pins s σ H E I' hf st hg;subst hP hw hK;obtain⟨xs,hq,hx⟩:=hg;obtain⟨its,rv,p,_⟩:=I'.list hq;have hl:=rv.length;refine OY (I'.ok.hd hc) d1 st p.isList (by simp;exact q0f hl hx) λh' k=>⟨rfl,PV (t':=s.toks) I' hf λc o hc e=>k c o ?_ e⟩;rw[Lc]at hc;exact q1h hc
 self:=λ_ _ _ _ _ st h=>wpAny_pyIter_zip st.z h
section
variable{X:Cx}
def rO(K:zzA)(ta:TA):TI:=λσ H R=>ta σ H λvs H1=>∃a b c,vs=[.ref a,.ref b,.ref c]/\(∃xs,X3 K H1 a xs)/\(∃ys,X3 K H1 b ys)/\(∃zs,X3 K H1 c zs)/\R (um K a b c) H1
def J6{l l' l'' ta p pos pos' elts}{k:Nat}(hg:Gl X "zip")(hm:X.mg "zip"=none)(ha:PA X [l,l',l''] ta)(hs:starEach [l,l',l''] X.env=(false,eval l X.env)::starEach [l',l''] X.env)(hs2:(backTo pos<|starEach [l',l''] X.env).any (·.1)=false):
 PI X (.Tuple elts k pos') (.Call (.Name "zip" p) [l,l',l''] [] pos) (rO X.K ta):=by
 intro pins s σ H R I h;refine Call_<|Yy I hg hm boot_zip<|PyProof.Rows.callWith_type1 (wD (ha pos pins s σ H _ I h) λus s1 ⟨vs,H1,I1,r1,q1⟩=>?_) hs hs2;obtain⟨a,b,c,rfl,⟨xs,hq⟩,⟨ys,hr⟩,⟨zs,ht⟩,q⟩:=q1;cases r1 with
 |cons r rr=>
  cases rr with
  |cons r' rr=>
   cases rr with
   |cons r'' rr=>
    cases rr;cases r;cases r';cases r'';obtain⟨its,rv,pl,hz⟩:=I1.list hq;obtain⟨jts,rw',pl',hz'⟩:=I1.list hr;obtain⟨kts,rx',pl'',hz''⟩:=I1.list ht;obtain⟨o1,ho1,_⟩:=pl.isList;obtain⟨o2,ho2,_⟩:=pl'.isList;obtain⟨o3,ho3,_⟩:=pl''.isList;refine Hg pl.isList pl'.isList pl''.isList λh' hZ hk=>?_;refine wpAny_pyIter_zip hZ.z ⟨_,_,_,_,H1,rfl,I1.kept (t':=s1.toks) hk,Se a b c s1.heap.objs.size (zxG ho1) (zxG ho2)<|zxG ho3,hZ,λd hd=>?_,q⟩;have hb':s1.heap.objs.size<=d:=(Lc.mp hd).1;exact I1.fpOk hb'<|I1.hok.fresh hb'
end
noncomputable def Xv(st:Bool):List D->List D->List D->List wG
 |x::r,y::t,z::u=>(st,.tup [x,y,z])::Xv st r t u
 |_,_,_=>[]
theorem Uh(st):∀(xs ys zs:List D),xs.length=ys.length->ys.length=zs.length->(Xv st xs ys zs).length=xs.length
 | [],_,_,_,_=>⋯
 |_::_,[],_,h,_=>by simp at h
 |_::_,_::_,[],_,h=>by simp at h
 |_::r,_::t,_::u,h,h'=>by
  simp only[Xv,zzT]at h h' ⊢;rw[Uh st r t u ⋯ ⋯]
theorem KR{st}:∀{xs ys zs:List D}{i:Nat}{y:wG},(Xv st xs ys zs)[i]? = some y->∃d e f,xs[i]? = some d/\ys[i]? = some e/\zs[i]? = some f/\y=(st,.tup [d,e,f])
 | [],_,_,_,_,h=>by simp[Xv]at h
 |_::_,[],_,_,_,h=>by simp[Xv]at h
 |_::_,_::_,[],_,_,h=>by simp[Xv]at h
 |x::r,y::t,z::u,0,w,h=>by
  cases h;exact⟨x,y,z,rfl,rfl,rfl,rfl⟩
 |x::r,y::t,z::u,i+1,w,h=>by
  simp only[Xv]at h;obtain⟨d,e,f,h1,h2,h3,h4⟩:=KR h;exact⟨d,e,f,⋯,⋯,⋯,h4⟩
noncomputable def qt:List RV->Option (RV×RV×RV)
 | [a,b,c]=>some (a,b,c)
 |_=>none
def BI(fr:AF):IF:=λas=>(fr as).bind λp=>(qt p.1).bind λo=>(lg o.1).bind λa=>(lg o.2.1).bind λb=>(lg o.2.2).bind λc=>if a.2.length=b.2.length/\b.2.length=c.2.length then some (Xv (a.1&&(b.1&&c.1)) a.2 b.2 c.2,p.2)else none
def IT{l a b c}(h:qt l=some (a,b,c)):l=[a,b,c]:=by
 match l,h with
 | [a,b,c],h=>cases h;rfl
section
variable{X:Cx}{kd:KD}
def HU{K F H a b c vs ws us st ds es fs}(ft:∀a,F a->H a≠none)(hs:∀H3:Hp,(∀b u,H b=some u->H3 b=some u)->X3 K H3 a vs)(hs':∀H3:Hp,(∀b u,H b=some u->H3 b=some u)->X3 K H3 b ws)(hs'':∀H3:Hp,(∀b u,H b=some u->H3 b=some u)->X3 K H3 c us)
 (r:RpL K kd (λa=>st=true/\F a) H vs ds) (r':RpL K kd (λa=>st=true/\F a) H ws es) (r'':RpL K kd (λa=>st=true/\F a) H us fs) (q1:ds.length=es.length) (q2:es.length=fs.length):ItC K kd F H (um K a b c) (Xv st ds es fs):=⟨λH3 T k hT i=>by
 have hr3:=hs H3 k;have hr4:=hs' H3 k;have hr5:=hs'' H3 k;have hlen:=Uh st ds es fs q1 q2;have l1:=r.length;refine⟨λhi=>?_,λhi=>⟨_,hr3,⋯⟩,λv H4 hy=>?_⟩
 . obtain⟨u,hu,_⟩:=r.get<|zzE (show i<ds.length by omega);obtain⟨u',hu',_⟩:=r'.get<|zzE (show i<es.length by omega);obtain⟨u'',hu'',_⟩:=r''.get<|zzE (show i<fs.length by omega);exact⟨_,_,_,u,u',u'',hr3,hr4,hr5,hu,hu',hu''⟩
 . obtain⟨A,x,y,z,hn,rfl,rfl,hv,hv',hv''⟩:=hy;have hnH:H A=none:=by
    cases e:H A with
    |none=>rfl
    |some u=>rw[k A u e]at hn;cases hn
   refine⟨xT hn,λq hq=>?_⟩;obtain⟨d,e,f,hd,he,hf,rfl⟩:=KR hq;obtain⟨u,hu,ru⟩:=r.get hd;obtain⟨u',hu',ru'⟩:=r'.get he;obtain⟨u'',hu'',ru''⟩:=r''.get hf;have e1:=hv _ hr3;rw[hu]at e1;cases e1;have e2:=hv' _ hr4;rw[hu']at e2;cases e2;have e3:=hv'' _ hr5;rw[hu'']at e3;cases e3;have up:∀{v:V}{d:D},Rp K kd (λa=>st=true/\F a) H v d->Rp K kd (λa=>st=true/\(F a\/T a)) (upd H3 A<|.tup [x,y,z]) v d:=λrp=>
    (rp.since (λb o q=>xT hn b o<|k b o q) λa z=>(hT a z).1).less λa z=>z.2.elim (λy=>.inl ⟨z.1,y⟩) .inr
   exact .tup (λz=>z.2.elim (λy=>ft A y hnH) λy=>(hT A y).2 hn) (.inl ya)<|.cons (up ru)<|.cons (up ru')<|.cons (up ru'') .nil⟩
def A9{l l' l'' fr p pos pos' elts}{k:Nat}(hg:Gl X "zip")(hm:X.mg "zip"=none)(ha:AA X kd [l,l',l''] fr)(hs:starEach [l,l',l''] X.env=(false,eval l X.env)::starEach [l',l''] X.env)(hs2:(backTo pos<|starEach [l',l''] X.env).any (·.1)=false):
 IV X kd (.Tuple elts k pos') (.Call (.Name "zip" p) [l,l',l''] [] pos) (BI fr):=by
 with_unfolding_all (
 intro pins s σ H R I h;obtain⟨F,B,ad,as,ds,as',Rl,e',q⟩:=h;obtain⟨⟨rs,as1⟩,h1,z1⟩:=bS_<|e';obtain⟨⟨o1,o2,o3⟩,e1,z2⟩:=bS_ z1;obtain⟨⟨s1,d1⟩,e2,z3⟩:=bS_ z2;obtain⟨⟨s2,d2⟩,e3,z4⟩:=bS_ z3;obtain⟨⟨s3,d3⟩,e4,z5⟩:=bS_ z4;obtain⟨⟨q1,q2⟩,z6⟩:=zu z5;cases IT e1;cases Ez e2;cases Ez e3;cases Ez e4;cases z6;refine J6 hg hm ha hs hs2 pins s σ H R I ⟨F,B,ad,as,_,as1,Rl,h1,λvs ad1 H1 R1 rv1 g1=>?_⟩;cases rv1 with
 |cons r1 rr=>
  cases rr with
  |cons r2 rr=>
   cases rr with
   |cons r3 rr=>
    cases rr;have ls:∀{st:Bool}{l:List D},IH (.ow<|.lf st<|.lst l)=some _:=rfl;obtain⟨a,vs,rfl,sa,ka,ra⟩:=Y7 (ls) r1;obtain⟨b,ws,rfl,sb,kb,rb⟩:=Y7 (ls) r2;obtain⟨c,us,rfl,sc,kc,rc⟩:=Y7 (ls) r3;refine⟨a,b,c,rfl,⟨_,sa⟩,⟨_,sb⟩,⟨_,sc⟩,q _ ad1 H1 R1 g1<|HU (R1.trk true) (λH3 k=>ka H3 λb u n h=>k b u h) (λH3 k=>kb H3 λb u n h=>k b u h) (λH3 k=>kc H3 λb u n h=>k b u h) (ra.less λa z=>?_) (rb.less λa z=>?_) (rc.less λa z=>?_) q1 q2⟩
    . have z1:=(Bool.and_eq_true_iff.mp z.1).1;rw[z1];exact z.2
    . have z1:=(Bool.and_eq_true_iff.mp (Bool.and_eq_true_iff.mp z.1).2).1;rw[z1];exact z.2
    . have z1:=(Bool.and_eq_true_iff.mp (Bool.and_eq_true_iff.mp z.1).2).2;rw[z1];exact z.2)
end
noncomputable def HP:List Str->List Str->List (Option Nat)->List Str
 |t::ts,XN,none::c=>t::HP ts XN c
 | [],XN,none::c=>""::HP [] XN c
 |ts,XN,some j::c=>XN.getD j ""::HP ts XN c
 |_,_,[]=>[]
noncomputable def pX:Expr->Str
 | .Name x _=>x
 |_=>""
def ub:Expr->List Str
 | .Tuple es _ _=>es.map pX
 |e=>[pX e]
noncomputable def qa:Nat->List (Option Nat)->List Nat
 |_,[]=>[]
 |k,none::c=>k::qa (k+1) c
 |k,some _::c=>qa (k+1) c
theorem Eu:∀(c d:List (Option Nat)) (i:Nat),i ∈ qa d.length c->(d++c)[i]? = some none
 | [],_,_,h=>nomatch h
 |none::c,d,i,h=>by
  have ih:=Eu c (d++[none]) i;rw[zzJ,zxA]at ih
  rcases zzC.mp (h)with rfl|h
  . simp
  . exact ih h
 |some x::c,d,i,h=>by
  have ih:=Eu c (d++[some x]) i;rw[zzJ,zxA]at ih;exact ih h
def OP{cap}:(qa 0 cap).all (λi=>cap[i]? == some none)=true:=List.all_eq_true.mpr λi m=>by
 have:=Eu cap [] i m;rw[List.nil_append]at this;rw[this];rfl
def hW{N:List Str}(h:decide N.Nodup=true):N.Nodup:=of_decide_eq_true h
section
variable{X:Cx}{kd:KD}{elt tg iter e:Expr}{es ifs:List Expr}{scope:Scope}{pos p:Pos}{cap:List (Option Nat)}{g:GF}{tt:TF}{fe:EF}{fi:IF}{S:List Nat}{fr:AF}{k n:Nat}
def gc{a}{i:Nat}{gs}(h1:AG X kd a [i] g)(h2:DC X kd es S gs)(hs:(assignEach (a::es) X.env).map (·.2)=assign a X.env::(assignEach es X.env).map (·.2):=by rfl):DC X kd (a::es) (i::S) (y6 g gs):=ZA h1 h2 hs
def r_(X:Cx)(kd:KD)(tg:Expr)(g:GF):Prop:=∃S,AG X kd tg S g
def Iz(X:Cx)(kd:KD)(es:List Expr)(gs:Dr):Prop:=∃S,DC X kd es S gs
def jw(i:Nat){x}(hN:X.N.Nodup)(hi:X.N[i]? = some x:=by rfl)(hx:Loc X.env.scope x:=by first|exact Or.inl rfl|exact Or.inr rfl)(hf:X.fn x=true\/X.env.scope.names.lookup x=some .local:=by first|exact Or.inl rfl|exact Or.inr rfl):r_ X kd (.Name x pos) (gN i):=⟨_,BQ hN hi hx hf⟩
def kz{gs}{j m:Nat}(h:Iz X kd es gs)(hc:X.calm=true:=by rfl)(hn:(assignEach es X.env).length=m:=by rfl)(hst:(assignEach es X.env).findIdx? (·.1)=none:=by rfl):r_ X kd (.Tuple es j pos) (gT m gs):=h.elim λ_ h=>⟨_,Tu hc h hn hst⟩
def jF{a gs}(h1:r_ X kd a g)(h2:Iz X kd es gs)(hs:(assignEach (a::es) X.env).map (·.2)=assign a X.env::(assignEach es X.env).map (·.2):=by rfl):Iz X kd (a::es) (y6 g gs):=h1.elim λ_ h1=>h2.elim λ_ h2=>⟨_,ZA h1 h2 hs⟩
def jb:Iz X kd [] Xn:=⟨_,Qb⟩
def gb{body f}(hi:AI X kd tg iter fi)(hg:r_ X kd tg g)(hb:FW X kd body f)(hp:PassesOwn (model X.prog X.w) X.A X.env X.xe:=by exact PassesOwn.never)(hc:X.calm=true:=by rfl)(hs:∀x,foldedSetIterable iter X.env x=pure x:=by exact λ_=>rfl):Fk X kd (.For tg iter body [] pos) (yL fi g f):=hg.elim λ_ hg=>EY hp hc hi hg hb hs
def kX(he:AE X kd e fe)(hg:r_ X kd tg g)(hs:swapsWithSole [tg] e pos.line X.env=pure false:=by rfl)(hw:swappedStores [tg] e X.env=pure none:=by rfl)(h1:(assignEach [tg] X.env).map (·.2)=[assign tg X.env]:=by rfl):Fk X kd (.Assign [tg] e pos) (X1 fe g):=hg.elim λ_ hg=>sO he hg hs hw h1
theorem cm(hi:IV X kd tg iter fi)(hg:∀cl s H fp,AG (yW X (HP (ub tg) X.N cap) scope cl s H fp) kd tg (qa 0 cap) g)(ht:∀cl s H fp,Ho (yW X (HP (ub tg) X.N cap) scope cl s H fp) ifs<|Jl X.K kd tt)(he:∀cl s H fp,AE (yW X (HP (ub tg) X.N cap) scope cl s H fp) kd elt fe)
 (hc:X.calm=true:=by rfl) (hk:scope.kind = .function:=by rfl) (hcap:Vn (HP (ub tg) X.N cap) X.N scope.names X.env.scope.names cap=true:=by kernel_rfl) (hs:∀x,foldedSetIterable iter X.env x=pure x:=by exact λ_=>rfl):AE X kd (.ListComp elt [⟨tg,iter,ifs,0⟩] scope pos) (yb fi cap g tt fe):=Ll hc hi hk hcap OP hg ht he hs
theorem fw{z}{i:Nat}{y py spos}(hN:X.N.Nodup)(hi:IV X kd tg iter fi)(hg:∀cl s H fp,AG (yW X (HP (ub tg) X.N cap) scope cl s H fp) kd tg (qa 0 cap) g)(ht:∀cl s H fp,Ho (yW X (HP (ub tg) X.N cap) scope cl s H fp) ifs<|Jl X.K kd tt)(he:∀cl s H fp,AE (yW X (HP (ub tg) X.N cap) scope cl s H fp) kd elt fe)
 (hiy:X.N[i]? = some y:=by rfl) (hy:Loc X.env.scope y:=by first|exact Or.inl rfl|exact Or.inr rfl) (hf:X.fn y=true\/X.env.scope.names.lookup y=some .local:=by first|exact Or.inl rfl|exact Or.inr rfl) (hsw:swapsWith (.ListComp elt [⟨tg,iter,ifs,0⟩] scope pos) (some<|.Name y py) spos.line X.env=pure true:=by rfl)
 (hc:X.calm=true:=by rfl) (hk:scope.kind = .function:=by rfl) (hcap:Vn (HP (ub tg) X.N cap) X.N scope.names X.env.scope.names cap=true:=by kernel_rfl) (hs:∀x,foldedSetIterable iter X.env x=pure x:=by exact λ_=>rfl):Fk X kd (.Assign [.Name y py] (.ListComp elt [⟨tg,iter,ifs,0⟩] scope pos) spos) (zr z i<|yb fi cap g tt fe):=JR hN hiy hy hf hsw hc hi hk hcap OP hg ht he hs
end
section
variable{K:zzA}{kd:KD}{F B:Addr->Prop}{ad:Ad}{as:AS}{σ:St}{H H':Hp}
def Rel.chg2{i j:Nat}{o0 o1}{v0 v1}{T0 T1}(R:Rel K kd F B [] ad as σ H)(hij:i≠j)(hi:i<as.length)(hj:j<as.length)(s0:σ[i]? = some (some v0))(s1:σ[j]? = some (some v1))(nd:(T0++T1).Nodup)
 (sub:∀a ∈ T0++T1,a ∈ ad i++ad j\/H a=none) (kp:∀c u,H c=some u->c ∉ ad i++ad j->H' c=some u) (al:∀a ∈ T0++T1,H' a≠none)
 (r0:vM K kd F B (G1 (Gw [] ad) (ad i++ad j)<|T0++T1) H' v0 o0 T0) (r1:vM K kd F B (G1 (Gw [] ad) (ad i++ad j)<|T0++T1) H' v1 o1 T1):
 Rel K kd F B [] (yX (yX ad i T0) j T1) ((as.set i<|some o0).set j<|some o1) σ H'/\Grow (Gw [] ad) H (Gw []<|yX (yX ad i T0) j T1) H':=by
 have ai:yX (yX ad i T0) j T1 i=T0:=by rw[zS hij,zQ]
 have aj:yX (yX ad i T0) j T1 j=T1:=zQ;have ak:∀k,k≠i->k≠j->yX (yX ad i T0) j T1 k=ad k:=λk h1 h2=>by rw[zS h2,zS h1]
 have off:∀k a,k≠i->k≠j->a ∈ ad k->a ∉ ad i++ad j:=λk a h1 h2 m z=>(zzM.mp z).elim (λy=>h1<|R.inj k i a m y) λy=>h2<|R.inj k j a m y;have gw:∀a,Gw [] (yX (yX ad i T0) j T1) a->G1 (Gw [] ad) (ad i++ad j) (T0++T1) a:=λa z=>by
  rcases z with z|⟨k,z⟩
  . exact nomatch z
  . by_cases e:k=i
    . subst e;rw[ai]at z;exact .inr<|zzP _ z
    . by_cases e':k=j
      . subst e';rw[aj]at z;exact .inr<|zzL _ z
      . rw[ak k e e']at z;exact .inl ⟨.inr ⟨k,z⟩,off k a e e' z⟩
 have nin:=λk a h1 h2 m z=>(sub a z).elim (off k a h1 h2 m) λy=>(R.gtr a<|.inr ⟨k,m⟩).1 y;have g:Grow (Gw [] ad) H _ H':=⟨λb o h n=>kp b o h λz=>n<|(zzM.mp z).elim (λy=>.inr ⟨i,y⟩) λy=>.inr ⟨j,y⟩,λb z=>(gw b z).elim (λy=>.inl y.1) λy=>(sub b y).elim (λx=>.inl<|(zzM.mp x).elim (λy=>.inr ⟨i,y⟩) λy=>.inr ⟨j,y⟩) .inr⟩;have kn:∀a,H a≠none->a ∉ ad i++ad j->H' a≠none:=λa h n=>by
  cases e:H a with
  |none=>exact absurd e h
  |some u=>rw[kp a u e n];simp
 obtain⟨n0,n1,n2⟩:=zxC.mp nd;have own:∀a,a ∈ ad i++ad j->Gw [] ad a:=λa z=>(zzM.mp z).elim (λy=>.inr ⟨i,y⟩) λy=>.inr ⟨j,y⟩;refine⟨⟨by rw[zzU,zzU];exact R.len,λk hk=>?_,λk=>?_,λk l a h1 h2=>?_,zyJ,(λ_ _ _ z=>nomatch z),λa z=>kn a (R.ftr a z) λy=>(R.gtr a<|own a y).2 z,λa z=>?_,λa z=>?_,λk s e=>?_⟩,g⟩
 . rw[zzU,zzU]at hk;rw[ak k (q0W hi hk)<|(q0W hj hk)];exact R.out k hk
 . by_cases e:k=i
   . subst e;rwa [ai]
   . by_cases e':k=j
     . subst e';rwa [aj]
     . rw[ak k e e'];exact R.nd k
 . by_cases e:k=i
   . subst e;rw[ai]at h1
     by_cases e':l=k
     . exact e'.symm
     . by_cases e2:l=j
       . subst e2;rw[aj]at h2;exact absurd rfl<|n2 a h1 a h2
       . rw[ak l e' e2]at h2;exact absurd (zzP _ h1)<|nin l a e' e2 h2
   . by_cases e':k=j
     . subst e';rw[aj]at h1
       by_cases e2:l=k
       . exact e2.symm
       . by_cases e3:l=i
         . subst e3;rw[ai]at h2;exact absurd rfl<|n2 a h2 a h1
         . rw[ak l e3 e2]at h2;exact absurd (zzL _ h1)<|nin l a e3 e2 h2
     . rw[ak k e e']at h1
       by_cases e2:l=i
       . subst e2;rw[ai]at h2;exact absurd (zzP _ h2)<|nin k a e e' h1
       . by_cases e3:l=j
         . subst e3;rw[aj]at h2;exact absurd (zzL _ h2)<|nin k a e e' h1
         . rw[ak l e2 e3]at h2;exact R.inj k l a h1 h2
 . obtain⟨h1,h2,h3⟩:=R.btr a z;refine⟨kn a h1 λy=>h3<|own a y,h2,λy=>(gw a y).elim (λx=>h3 x.1) λx=>(sub a x).elim (λw=>h3<|own a w) h1⟩
 . rcases gw a z with⟨y,n⟩|y
   . exact⟨kn a (R.gtr a y).1 n,(R.gtr a y).2⟩
   . exact⟨al a y,(sub a y).elim (λw=>(R.gtr a<|own a w).2) λw f=>R.ftr a f w⟩
 . by_cases e1:k=j
   . subst e1;rw[zyK<|by rwa [zzU]]at e;cases e;rw[aj];exact⟨v1,s1,vM.lv (λst a z=>z.imp id<|gw a) r1⟩
   . rw[zzY λz=>e1 z.symm]at e
     by_cases e2:k=i
     . subst e2;rw[zyK hi]at e;cases e;rw[ai];exact⟨v0,s0,vM.lv (λst a z=>z.imp id<|gw a) r0⟩
     . rw[zzY λz=>e2 z.symm]at e;rw[ak k e2 e1];exact(R.sl k s e).grow g λa m u h=>kp a u h<|off k a e2 e1 m
end
noncomputable def ins{α:Type}:Nat->α->α->List α->List α
 |0,x,y,r=>x::y::r
 |c+1,x,y,w::r=>w::ins c x y r
 |_+1,_,_,[]=>[]
theorem QB{α:Type}{x y:α}:∀{c:Nat}{r:List α},c<=r.length->(ins c x y r).length=r.length+2
 |0,r,_=>rfl
 |c+1,w::r,h=>by show(ins c x y r).length+1=r.length+1+2;rw[QB<|Nat.le_of_succ_le_succ h]
noncomputable def Oc(c:Nat)(T0 T1:List Addr):Ad:=λk=>if k=c then T0 else if k=c+1 then T1 else[]
def NQ{c:Nat}{T0 T1:List Addr}:Oc c T0 T1 c=T0:=if_pos rfl
def Mr{c:Nat}{T0 T1:List Addr}:Oc c T0 T1 (c+1)=T1:=by unfold Oc;rw[if_neg ⋯,if_pos rfl]
def P7{c k:Nat}{T0 T1:List Addr}(h:k≠c)(h':k≠c+1):Oc c T0 T1 k=[]:=by unfold Oc;rw[if_neg h,if_neg h']
def ql{c k:Nat}{T0 T1:List Addr}:Oc (c+1) T0 T1 (k+1)=Oc c T0 T1 k:=by
 unfold Oc
 by_cases e:k=c
 . rw[if_pos e,if_pos ⋯]
 . by_cases e':k=c+1
   . rw[if_neg e,if_pos e',if_neg ⋯,if_pos ⋯]
   . rw[if_neg e,if_neg e',if_neg ⋯,if_neg ⋯]
def Nb{c:Nat}{T0 T1:List Addr}{a}:Gw [] (Oc c T0 T1) a ↔ a ∈ T0++T1:=by
 constructor
 . rintro(z|⟨k,z⟩)
   . exact nomatch z
   . by_cases e:k=c
     . subst e;rw[NQ]at z;exact zzP _ z
     . by_cases e':k=c+1
       . subst e';rw[Mr]at z;exact zzL _ z
       . rw[P7 e e']at z;exact nomatch z
 . intro z
   rcases zzM.mp z with z|z
   . exact .inr ⟨c,by rwa [NQ]⟩
   . exact .inr ⟨c+1,by rwa [Mr]⟩
section
variable{K:zzA}{kd:KD}{F B G:Addr->Prop}{H:Hp}{v0 v1:V}{o0 o1:O}{T0 T1:List Addr}
def A6{ws:List V}{xs:List wG}(h:RpI K kd F B G H ws xs):∀{k:Nat}{o:O},(xs.map Ee)[k]? = some o->∃v,ws[k]? = some v/\vM K kd F B G H v o []:=by
 induction h with
 |nil=>intro k o e;simp at e
 |cons a _ ih=>
  intro k o e;cases k with
  |zero=>cases e;exact⟨_,rfl,.lf a⟩
  |succ k=>exact ih e
theorem CD(r0:vM K kd F B G H v0 o0 T0)(r1:vM K kd F B G H v1 o1 T1):∀{c:Nat}{ws:List V}{xs:List wG}{k:Nat}{o:O},RpI K kd F B G H ws xs->c<=xs.length->(ins c o0 o1<|xs.map Ee)[k]? = some o->∃v,(ins c v0 v1 ws)[k]? = some v/\vM K kd F B G H v o (Oc c T0 T1 k)
 |0,ws,xs,k,o,h,hc,e=>by
  match k,e with
  |0,e=>cases e;exact⟨v0,rfl,r0⟩
  |1,e=>cases e;exact⟨v1,rfl,r1⟩
  |k+2,e=>
   obtain⟨v,h1,h2⟩:=A6 h e;exact⟨v,h1,h2⟩
 |c+1,ws,xs,k,o,h,hc,e=>by
  cases h with
  |nil=>exact absurd hc ⋯
  |cons a t=>
   cases k with
   |zero=>cases e;exact⟨_,rfl,.lf a⟩
   |succ k=>
    obtain⟨v,h1,h2⟩:=CD r0 r1 t (Nat.le_of_succ_le_succ hc) e;exact⟨v,h1,by rwa [ql]⟩
def RpI.len{ws:List V}{xs:List wG}(h:RpI K kd F B G H ws xs):ws.length=xs.length:=by
 induction h with
 |nil=>rfl
 |cons _ _ ih=>exact congrArg _ ih
def Fv{N:List Str}{c:Nat}{ws:List V}{xs:List wG}(ht:∀a,F a->H a≠none)(nd:(T0++T1).Nodup)(hT:∀a ∈ T0++T1,H a≠none/\¬F a)(hN:xs.length+2<=N.length)(hc:c<=xs.length)(rp:RpI K kd F (λ_=>False) (· ∈ T0++T1) H ws xs)
 (r0:vM K kd F (λ_=>False) (· ∈ T0++T1) H v0 o0 T0) (r1:vM K kd F (λ_=>False) (· ∈ T0++T1) H v1 o1 T1):
 Rel K kd F (λ_=>False) [] (Oc c T0 T1) (wV N.length<|ins c o0 o1<|xs.map Ee) (L2.start N<|ins c v0 v1 ws) H:=by
 have wl:=rp.len;have l1:(ins c o0 o1<|xs.map Ee).length=xs.length+2:=by rw[QB (by rwa [zzB]),zzB]
 have l2:(ins c v0 v1 ws).length=xs.length+2:=by rw[QB<|by omega];omega
 obtain⟨n0,n1,n2⟩:=zxC.mp nd;refine⟨by unfold wV L2.start;simp[l1,l2],λi hi=>?_,λi=>?_,λi j a x y=>?_,zyJ,⋯,ht,(λ_ z=>z.elim),λa z=>hT a<|Nb.mp z,λi s e=>?_⟩
 . have:N.length<=i:=by unfold wV at hi;simp[l1]at hi;omega
   exact P7 (by omega) (by omega)
 . by_cases e:i=c
   . subst e;rwa [NQ]
   . by_cases e':i=c+1
     . subst e';rwa [Mr]
     . rw[P7 e e'];exact zyJ
 . by_cases e:i=c
   . subst e;rw[NQ]at x
     by_cases f:j=i
     . exact f.symm
     . by_cases f':j=i+1
       . subst f';rw[Mr]at y;exact absurd rfl<|n2 a x a y
       . rw[P7 f f']at y;exact nomatch y
   . by_cases e':i=c+1
     . subst e';rw[Mr]at x
       by_cases f:j=c
       . subst f;rw[NQ]at y;exact absurd rfl<|n2 a y a x
       . by_cases f':j=c+1
         . exact f'.symm
         . rw[P7 f f']at y;exact nomatch y
     . rw[P7 e e']at x;exact nomatch x
 . unfold wV at e;unfold L2.start
   by_cases k:i<(ins c o0 o1<|xs.map Ee).length
   . rw[zyP (by rwa [zzB]),zzI]at e;obtain⟨o,k1,k2⟩:=zzX.mp e;subst k2;obtain⟨v,h1,h2⟩:=CD r0 r1 rp hc k1;rw[zyP (by rw[zzB];omega),zzI,h1];exact⟨v,rfl,vM.lv (λst a z=>z.imp id Nb.mp) h2⟩
   . rw[zyR<|by rw[zzB];omega]at e;have ea:=(List.mem_replicate.mp<|zyA e).2;subst ea;exact P7 (by omega) (by omega)
end
def jO(c n m:Nat)(f:VF)(xs:List wG)(o0 o1:O):Option (D×O×O):=if xs.length+2=m/\c<=xs.length then(f<|wV n<|ins c o0 o1<|xs.map Ee).bind λz=>(z.2[c]?).bind λa=>a.bind λr0=>(z.2[c+1]?).bind λb=>b.bind λr1=>if r0.str=true/\r1.str=true then some (z.1,r0,r1)else none else none
def spT(c:Nat)(K:zzA)(kd:KD)(g:List wG->O->O->Option (D×O×O)):Sp:=λvs H Q _=>∃(F:Addr->Prop) (T0 T1:List Addr) (v0 v1:V) (ws:List V) (xs:List wG) (o0 o1:O) (d:D) (r0 r1:O),vs=ins c v0 v1 ws/\(∀a,F a->H a≠none)/\(T0++T1).Nodup/\(∀a ∈ T0++T1,H a≠none/\¬F a)/\RpI K kd F (λ_=>False) (· ∈ T0++T1) H ws xs/\vM K kd F (λ_=>False) (· ∈ T0++T1) H v0 o0 T0/\vM K kd F (λ_=>False) (· ∈ T0++T1) H v1 o1 T1/\g xs o0 o1=some (d,r0,r1)/\
 ∀(u:V) (H':Hp) (T0' T1':List Addr),(∀c u,H c=some u->c ∉ T0++T1->H' c=some u)->(T0'++T1').Nodup->(∀a ∈ T0'++T1',a ∈ T0++T1\/H a=none)->(∀a ∈ T0'++T1',H' a≠none)->vM K kd F (λ_=>False) (· ∈ T0'++T1') H' v0 r0 T0'->vM K kd F (λ_=>False) (· ∈ T0'++T1') H' v1 r1 T1'->Rp K kd (Lv F (λ_=>False) (· ∈ T0'++T1') true) H' u d->Q u H'
theorem O5{α:Type}{x y:α}:∀{c:Nat}{r:List α},c<=r.length->(ins c x y r)[c]? = some x/\(ins c x y r)[c+1]? = some y
 |0,r,_=>⟨rfl,rfl⟩
 |c+1,w::r,h=>O5 (r:=r)<|Nat.le_of_succ_le_succ h
noncomputable def ug:Nat->Nat->Nat->List RV->Option (List RV)
 |0,i,j,.bo a :: .bo b::r=>if a=i/\b=j then some r else none
 |c+1,i,j,r::rs=>(ug c i j rs).bind λt=>some (r::t)
 |_,_,_,_=>none
def FN(i j:Nat)(as:AS):List RV->Option (List wG)
 | []=>some []
 | .ow o::rs=>(FN i j as rs).bind λy=>some ((zC o.toD||o.str,o.toD)::y)
 | .bo k::rs=>(as[k]?).bind λs=>s.bind λo=>if k=i\/k=j then none else(FN i j as rs).bind λy=>some ((false,o.toD)::y)
section
variable{K:zzA}{kd:KD}{F B:Addr->Prop}{ad:Ad}{as:AS}{σ:St}{H:Hp}{i j:Nat}
theorem BA:∀{c:Nat}{vs:List V}{rs rs':List RV},RVs K kd F B ad σ H vs rs->ug c i j rs=some rs'->∃v0 v1 ws,vs=ins c v0 v1 ws/\c<=rs'.length/\σ[i]? = some (some v0)/\σ[j]? = some (some v1)/\RVs K kd F B ad σ H ws rs'
 |0,vs,rs,rs',h,e=>by
  match rs,h,e with
  | .bo a :: .bo b::r,.cons h0 (.cons h1 t),e=>
   obtain⟨⟨rfl,rfl⟩,e'⟩:=zu<|e;cases e';exact⟨_,_,_,rfl,Nat.zero_le _,h0.2,h1.2,t⟩
 |c+1,vs,rs,rs',h,e=>by
  match rs,h,e with
  |r::rs,.cons h0 t,e=>
   obtain⟨t',e1,e⟩:=bS_<|e;cases e;obtain⟨v0,v1,ws,rfl,hl,s0,s1,t2⟩:=BA t e1;exact⟨v0,v1,_::ws,rfl,Nat.succ_le_succ hl,s0,s1,.cons h0 t2⟩
def AB(R:Rel K kd F B [] ad as σ H){vs rs xs}(h:RVs K kd F B ad σ H vs rs)(e:FN i j as rs=some xs):RpI K kd (λz=>Lv F B (Gw [] ad) true z/\z ∉ ad i++ad j) (λ_=>False) (· ∈ ad i++ad j) H vs xs:=by
 have own:∀a,a ∈ ad i++ad j->Gw [] ad a:=λa z=>(zzM.mp z).elim (λy=>.inr ⟨_,y⟩) λy=>.inr ⟨_,y⟩
 induction h generalizing xs with
 |nil=>cases e;exact .nil
 |cons h t l=>
  rename_i v r E q;cases r with
  |ow o=>
   obtain⟨y,f,e⟩:=bS_<|e;cases e;refine .cons ?_<|l f;cases hf:zC o.toD with
   |true=>exact(Ud h).flat hf
   |false=>
    refine(Uc h).less λa z=>?_
    rcases z with(z|z)|z
    . rw[show o.str=true from z.1];exact z.2.1
    . exact z.elim
    . exact .inr (own a z)
  |bo k=>
   obtain⟨s,k1,u⟩:=bS_<|e;obtain⟨o,x,c⟩:=bS_ u;subst x
   by_cases g:k=i\/k=j
   . rw[if_pos g]at c;cases c
   rw[if_neg g]at c;obtain⟨y,f,A⟩:=bS_ c;cases A;refine .cons ?_<|l f;obtain⟨w,p,C⟩:=R.sl k _ k1;rw[h.2]at p;cases p;have ob:∀z,Lv (λz=>Lv F B (Gw [] ad) true z/\z ∉ ad i++ad j) (λ_=>False) _ false z->z ∈ ad i++ad j:=λz b=>by
    rcases b with(b|b)|b
    . exact nomatch b.1
    . exact b.elim
    . exact b
   exact Ro.rp false (λD v d _ r=>(r).less λz b=>.inr<|own z<|ob z b) (λa n z=>n<|.inr<|own a<|ob a z) ⋯ (λa m z=>(zzM.mp<|ob a z).elim (λy=>g<|.inl<|R.inj k i a m y) λy=>g<|.inr<|R.inj k j a m y) C
end
def pz{K:zzA}{kd:KD}{F B:Addr->Prop}{ad:Ad}{as:AS}{σ:St}{H:Hp}{i j:Nat}{T0 T1:List Addr}(R:Rel K kd F B [] ad as σ H)(hij:i≠j){a}(z:Gw [] (yX (yX ad i T0) j T1) a):G1 (Gw [] ad) (ad i++ad j) (T0++T1) a:=by
 rcases z with z|⟨k,z⟩
 . exact nomatch z
 . by_cases e:k=j
   . subst e;rw[zQ]at z;exact .inr<|zzL _ z
   . rw[zS e]at z
     by_cases f:k=i
     . subst f;rw[zQ]at z;exact .inr<|zzP _ z
     . rw[zS f]at z;exact .inl ⟨.inr ⟨k,z⟩,λy=>(zzM.mp y).elim (λw=>f<|R.inj k i a z w) λw=>e<|R.inj k j a z w⟩
def T_(c i j:Nat)(fr:AF)(g:List wG->O->O->Option (D×O×O)):EF:=λas=>(fr as).bind λq=>(ug c i j q.1).bind λrs=>(FN i j q.2 rs).bind λxs=>(q.2[i]?).bind λa=>a.bind λo0=>(q.2[j]?).bind λb=>b.bind λo1=>(g xs o0 o1).bind λz=>if z.2.1.str=true/\z.2.2.str=true/\i≠j then some (.ow<|.lf true z.1,(q.2.set i<|some z.2.1).set j<|some z.2.2)else none
section
variable{X:Cx}{kd:KD}{e:Expr}{es:List Expr}{fr:AF}{pos p:Pos}{n k c i j:Nat}
def IX{g σ H Q E}(h:al X.K kd (T_ c i j fr g) σ H Q):CS (spT c X.K kd g) [] E (De X.K kd fr) σ H Q:=by
 obtain⟨F,B,ad,as,r,as',R,e,q⟩:=h;obtain⟨⟨rs0,as1⟩,h1,e1⟩:=bS_<|e;obtain⟨rs,h2,e2⟩:=bS_ e1;obtain⟨xs,h3,e3⟩:=bS_ e2;obtain⟨a,k0,e4⟩:=bS_ e3;obtain⟨o0,x0,e5⟩:=bS_ e4;obtain⟨b,k1,e6⟩:=bS_ e5;obtain⟨o1,x1,e7⟩:=bS_ e6;obtain⟨⟨d,s0,s1⟩,h4,e8⟩:=bS_ e7;obtain⟨⟨hs0,hs1,hij⟩,e9⟩:=zu e8;subst x0 x1;cases e9;refine⟨F,B,ad,as,rs0,as1,R,h1,λvs ad1 H1 R1 rv1 g1=>?_⟩;show spT c X.K kd g _ H1 Q E;rw[zyE];obtain⟨v0,v1,ws,rfl,hc,t0,t1,rv⟩:=BA rv1 h2;obtain⟨w0,u0,ro0⟩:=R1.sl i _ k0;obtain⟨w1,u1,ro1⟩:=R1.sl j _ k1;rw[t0]at u0;rw[t1]at u1;cases u0;cases u1;have own:∀a,a ∈ ad1 i++ad1 j->Gw [] ad1 a:=λa z=>(zzM.mp z).elim (λy=>.inr ⟨_,y⟩) λy=>.inr ⟨_,y⟩;have lv2:∀st z,Lv (λz=>Lv F B _ true z/\z ∉ ad1 i++ad1 j) (λ_=>False) _ st z->Lv F B _ st z:=λst z hz=>by
  rcases hz with(hz|hz)|hz
  . rw[hz.1];exact hz.2.1
  . exact hz.elim
  . exact .inr<|own z hz
 refine⟨λz=>Lv F B _ true z/\z ∉ ad1 i++ad1 j,ad1 i,ad1 j,v0,v1,ws,xs,o0,o1,d,s0,s1,rfl,λz hz=>R1.trk true z hz.1,zxC.mpr ⟨R1.nd i,R1.nd j,λa m b m' z=>hij<|R1.inj i j a m<|z ▸ m'⟩,λz mz=>⟨(R1.gtr z<|own z mz).1,λy=>y.2 mz⟩,AB R1 rv h3,vM.lv lv2 ro0,vM.lv lv2 ro1,h4,λu H' T0 T1 kp nd sub al r0 r1 rp=>?_⟩;have le:∀z,Lv F B (G1 _ _<|T0++T1) true z->Lv (λz=>Lv F B (Gw [] ad1) true z/\z ∉ ad1 i++ad1 j) (λ_=>False) _ true z:=λz hz=>by
  rcases hz with(hz|hz)|hz|hz
  . exact .inl<|.inl ⟨rfl,.inl<|.inl hz,λy=>(R1.gtr z<|own z y).2 hz.2⟩
  . exact .inl<|.inl ⟨rfl,.inl<|.inr hz,λy=>(R1.btr z hz).2.2<|own z y⟩
  . exact .inl<|.inl ⟨rfl,.inr hz.1,hz.2⟩
  . exact .inr hz
 have q0:vM X.K kd F B _ H' v0 s0 T0:=Ro.monoS (λv d h=>Rp.less le h) (λz n y=>n<|le z y) hs0 r0;have q1:vM X.K kd F B _ H' v1 s1 T1:=Ro.monoS (λv d h=>Rp.less le h) (λz n y=>n<|le z y) hs1 r1;obtain⟨R3,g3⟩:=R1.chg2 hij (zzG.mp k0).1 (zzG.mp k1).1 t0 t1 nd sub kp al q0 q1;exact q u [] _ H' R3 (.lf<|rp.less λz y=>le z<|y.imp id<|pz R1 hij)<|g1.trans g3
def HM(c i j:Nat){f fdt ps gg x}(F:FnOk X.prog X.w X.K X.mg X.base XQ k f fdt ps (spT c X.K kd gg))(hr:Room n X.A)(hm:X.mg x=some (.ref f))(hk:W.keepIn X.K (.ref f)=true)
 (hb:Binds X.K fdt ps []) (ha:AA X kd (e::es) fr) (hn:k<=n:=by omega) (hg:Gl X x:=by rfl) (hdb:(x==("__debug__":Str))=false:=by decide) (he:starEach (e::es) X.env=(false,eval e X.env)::starEach es X.env:=by rfl) (hpl:(backTo pos<|starEach es X.env).any (·.1)=false:=by rfl):
 AE X kd (.Call (.Name x p) (e::es) [] pos) (T_ c i j fr gg):=by with_unfolding_all exact(yn (FX F (hr.mono hn) hg hm hk hb .nil yG ha hdb he hpl) λσ H Q h=>IX h)
end
def rK{X:Cx}{kd:KD}{n:Nat}{e tg:Expr}{fa:EF}{S:List Nat}{g:GF}{pos:Pos}(hS:∀i,i<n->i ∉ S)(he:AE X kd e fa)(hg:AG X kd tg S g)(hs:swapsWithSole [tg] e pos.line X.env=pure false)(hw:swappedStores [tg] e X.env=pure none)(h1:(assignEach [tg] X.env).map (·.2)=[assign tg X.env]):
 AP X kd n (.Assign [tg] e pos) (X1 fa g):=by with_unfolding_all exact(wX (Cf he hg hs hw h1) λD σ H h=>by
 obtain⟨F,B,ad,as,o,R,e,q⟩:=h;obtain⟨⟨p,as1⟩,h1,e⟩:=bS_<|e;obtain⟨⟨x,as2⟩,h2,e⟩:=bS_ e;obtain⟨as3,h3,e⟩:=bS_ e;cases e;refine⟨F,B,ad,as,p,as1,R,h1,λv T' ad' H' R' rv g1=>?_⟩;obtain⟨ad2,R2,rp,le⟩:=YM R' rv h2;exact⟨F,B,ad2,as2,_,as3,R2,rp,h3,λσ' ad' H' R' g' s=>q σ' ad' H' (λi hi=>s i<|hS i hi) R'<|(g1.trans<|Grow.less le).trans g'⟩)
def Fq(K:zzA)(mg:Str->Option Value)(x:Str)(st:Stmt):Prop:=∃f d,Fun K x x st f d/\mg x=some (.ref f)
def Cn(x:Str)(P:Program)(w:World)(K:zzA)(mg:Str->Option Value)(base:Heap)(k:Nat)(sp:Sp):Prop:=∃f d ps,FnOk P w K mg base XQ k f d ps sp/\mg x=some (.ref f)/\W.keepIn K (.ref f)=true/\Binds K d ps []
def Mq(K:zzA)(kd:KD)(c m q:Str)(st:Stmt):Prop:=∃f d,Meth K (kd.c c) m f/\Fun K m q st f d
def Cm(c m:Str)(P:Program)(w:World)(K:zzA)(mg:Str->Option Value)(base:Heap)(kd:KD)(k:Nat)(sp:Sp):Prop:=CI K kd mg c (kd.c c)/\∃f d ps,Meth K (kd.c c) m f/\FnOk P w K mg base XQ k f d ps sp/\Binds K d ps []
abbrev Bd(x q:Str)(st:Stmt)(ps:List Str):Prop:=∀(kV doc pm:Value) (an:Option Addr) (cdv ct:Value) (us:List Value),us.length=ps.length->bindArgs (W.fnOf x q (Pa st) (Ze st) (zO st) .none kV doc pm an cdv ct) ⟨us,[]⟩=pure (ps.zip us)
def gE{α:Type}{P:List α->Prop}(h:∀a b c d e f g,P [a,b,c,d,e,f,g]):∀us:List α,us.length=7->P us
 | [a,b,c,d,e,f,g],_=>h a b c d e f g
section
variable{P:Program}{w:World}{K:zzA}{mg:Str->Option Value}{base:Heap}{kd:KD}{x q c m:Str}{st:Stmt}{N:List Str}{n k:Nat}{sp:Sp}
def Oi(Q:Fq K mg x st)(g:∀{f d},Fun K x x st f d->FnScope N (N.take n) (zO st)->FnOk P w K mg base XQ k f d (N.take n) sp)
 (S:FnScope N (N.take n) (zO st):=by exact rV) (h:Bd x x st (N.take n):=by first|exact λ_ _ _ _ _ _=>n4 λ_=>rfl|exact λ_ _ _ _ _ _=>qR λ_ _=>rfl|exact λ_ _ _ _ _ _=>qk λ_ _ _=>rfl|exact λ_ _ _ _ _ _=>oR λ_ _ _ _=>rfl|exact λ_ _ _ _ _ _=>nJ λ_ _ _ _ _=>rfl|exact λ_ _ _ _ _ _=>l6_ λ_ _ _ _ _ _=>rfl):Cn x P w K mg base k sp:=by
 obtain⟨f,d,F,e⟩:=Q;exact⟨f,d,_,g F S,e,F.kp,F.binds h⟩
def Wf(C:CI K kd mg c (kd.c c))(Q:Mq K kd c m q st)(g:∀{f d},Fun K m q st f d->FnScope N (N.take n) (zO st)->FnOk P w K mg base XQ k f d (N.take n) sp)
 (S:FnScope N (N.take n) (zO st):=by exact rV) (h:Bd m q st (N.take n):=by first|exact λ_ _ _ _ _ _=>n4 λ_=>rfl|exact λ_ _ _ _ _ _=>qR λ_ _=>rfl|exact λ_ _ _ _ _ _=>qk λ_ _ _=>rfl|exact λ_ _ _ _ _ _=>oR λ_ _ _ _=>rfl|exact λ_ _ _ _ _ _=>nJ λ_ _ _ _ _=>rfl|exact λ_ _ _ _ _ _=>gE λ_ _ _ _ _ _ _=>rfl):Cm c m P w K mg base kd k sp:=by
 obtain⟨f,d,e,F⟩:=Q;exact⟨C,f,d,_,e,g F S,F.binds h⟩
def oT(Q:Fq K mg x st)(N:List Str)(n:Nat)(S:FnScope N (N.take n) (zO st):=by exact rV)(h:Bd x x st (N.take n):=by first|exact λ_ _ _ _ _ _=>n4 λ_=>rfl|exact λ_ _ _ _ _ _=>qR λ_ _=>rfl|exact λ_ _ _ _ _ _=>qk λ_ _ _=>rfl|exact λ_ _ _ _ _ _=>oR λ_ _ _ _=>rfl|exact λ_ _ _ _ _ _=>nJ λ_ _ _ _ _=>rfl):Cn x P w K mg base k (V4 K kd λ_=>none):=Oi Q (λ_ _=>AR) S h
def Yi{cc:SF}(Q:Fq K mg x st)
 (hb:N.Nodup->∀(f:Addr) (cdv:Value) (A:Around) (outer:List Env) (s:Shared) (H:Hp) (E:XK),Room k (A.deeper<|envOfC x (zO st) s.heap.objs.size f cdv)->FW (Rb XQ P w K mg base N x (zO st) f cdv A outer s H E).nox kd (Ze st) cc)
 (S:FnScope N (N.take n) (zO st):=by exact rV) (h:Bd x x st (N.take n):=by first|exact λ_ _ _ _ _ _=>n4 λ_=>rfl|exact λ_ _ _ _ _ _=>qR λ_ _=>rfl|exact λ_ _ _ _ _ _=>qk λ_ _ _=>rfl|exact λ_ _ _ _ _ _=>oR λ_ _ _ _=>rfl|exact λ_ _ _ _ _ _=>nJ λ_ _ _ _ _=>rfl):
 Cn x P w K mg base (k+1) (V4 K kd<|wz N.length (N.take n).length cc):=Oi Q (λF S=>O8 F S<|hb S.nd _) S h
def Io{cc:SF}(C:CI K kd mg c (kd.c c))(Q:Mq K kd c m q st)
 (hb:N.Nodup->∀(f:Addr) (cdv:Value) (A:Around) (outer:List Env) (s:Shared) (H:Hp) (E:XK),Room k (A.deeper<|envOfC q (zO st) s.heap.objs.size f cdv)->FW (Rb XQ P w K mg base N q (zO st) f cdv A outer s H E).nox kd (Ze st) cc)
 (S:FnScope N (N.take n) (zO st):=by exact rV) (h:Bd m q st (N.take n):=by first|exact λ_ _ _ _ _ _=>n4 λ_=>rfl|exact λ_ _ _ _ _ _=>qR λ_ _=>rfl|exact λ_ _ _ _ _ _=>qk λ_ _ _=>rfl|exact λ_ _ _ _ _ _=>oR λ_ _ _ _=>rfl|exact λ_ _ _ _ _ _=>nJ λ_ _ _ _ _=>rfl):
 Cm c m P w K mg base kd (k+1) (V4 K kd<|wz N.length (N.take n).length cc):=Wf C Q (λF S=>O8 F S<|hb S.nd _) S h
def ID{g tbl}{k':Nat}(C:Cm c m P w K mg base kd k' (V4 K kd g))(h:MT P w K mg base kd m k tbl)(hk:k'<=k:=by decide):MT P w K mg base kd m k ((c,g)::tbl):=by
 obtain⟨ci,f,d,ps,e,F,b⟩:=C;exact tH ci e F hk b h
def uv{g}{k':Nat}(C:Cm c m P w K mg base kd k' (spS K kd g))(hk:k'<=k:=by decide):MS P w K mg base kd m k c g:=by
 obtain⟨ci,f,d,ps,e,F,b⟩:=C;exact qw ci e F b hk
end
section
variable{X:Cx}{kd:KD}{e:Expr}{es:List Expr}{fr:AF}{pos p:Pos}{x c:Str}{k n:Nat}
def cn{gg}(C:Cn x X.prog X.w X.K X.mg X.base k (V4 X.K kd gg))(hr:Room n X.A)(ha:AA X kd (e::es) fr)(hn:k<=n:=by omega)(hg:Gl X x:=by rfl)(hdb:(x==("__debug__":Str))=false:=by decide)(he:starEach (e::es) X.env=(false,eval e X.env)::starEach es X.env:=by rfl)(hpl:(backTo pos<|starEach es X.env).any (·.1)=false:=by rfl):
 AE X kd (.Call (.Name x p) (e::es) [] pos) (zg fr gg):=by
 obtain⟨f,d,ps,F,m,kp,b⟩:=C;exact IJ F (hr.mono hn) hg m kp b yG ha hdb he hpl
def kP{g}(C:Cm c "__init__" X.prog X.w X.K X.mg X.base kd k (rd X.K kd c g))(hr:Room n X.A)
 (ha:AA X kd (e::es) fr) (hn:k+1<=n:=by omega) (hg:Gl X c:=by rfl) (hdb:(c==("__debug__":Str))=false:=by decide) (he:starEach (e::es) X.env=(false,eval e X.env)::starEach es X.env:=by rfl) (hpl:(backTo pos<|starEach es X.env).any (·.1)=false:=by rfl):
 AE X kd (.Call (.Name c p) (e::es) [] pos) (zg fr g):=by
 obtain⟨ci,f,d,ps,me,F,b⟩:=C;exact JM rfl (ci.mk' me) F (hr.mono hn) hg ci.mg b yG ha hdb he hpl
end
def kdN{P:Program}{w:World}{K:zzA}{c:Str->Addr}:qb P w K (kdL [] c):=uU λp m=>absurd m List.not_mem_nil
section
variable{K:zzA}{mg:Str->Option Value}{h:Heap}{KL:List (Addr×List (Key×V))}{x c m q:Str}{st:Stmt}{f C:Addr}
def qo(X:K.In h)(G:h.Ns mainGlobals mg)(a:W.nsIn K mainGlobals x=some (some<|.ref f))(l:∃d,Fun K x x st f d):Fq K mg x st:=⟨f,l.elim λd F=>⟨d,F,W.mg_of X G a⟩⟩
def mK(X:K.In h)(G:h.Ns mainGlobals mg)(a:W.nsIn K mainGlobals c=some (some<|.ref C))(p1:W.plainGet K C Str.empty=true)(p2:W.hasDictIn K C=true)(p3:W.plainOver K C=true)(p4:W.findIn K (.ref C) "__setattr__"=some (some<|.builtin "object.__setattr__"))(p5:W.makesIn K C=true)(p6:W.keepIn K (.ref C)=true):CI K (kdL KL<|GA mg) mg c ((kdL KL<|GA mg).c c):=by
 have e:(kdL KL<|GA mg).c c=C:=L4<|W.mg_of X G a;rw[e];exact⟨e,⟨p1,p2,p3,p4⟩,p5,p6,W.mg_of X G a⟩
def n3(X:K.In h)(G:h.Ns mainGlobals mg)(a:W.nsIn K mainGlobals c=some (some<|.ref C))(p1:W.findIn K (.ref C) m=some (some<|.ref f))(p2:W.isFn K (.ref f)=true)(p3:W.keepIn K (.ref f)=true)(l:∃d,Fun K m q st f d):Mq K (kdL KL<|GA mg) c m q st:=by
 have e:(kdL KL<|GA mg).c c=C:=L4<|W.mg_of X G a;obtain⟨d,F⟩:=l;exact⟨f,d,by rw[e];exact⟨p1,p2,p3⟩,F⟩
def pZ(X:K.In h)(G:h.Ns mainGlobals mg)(a:W.nsIn K mainGlobals c=some (some<|.ref C))(p:W.findIn K (.ref C) m=some none):yJ K ((kdL KL<|GA mg).c c) m:=by
 have e:(kdL KL<|GA mg).c c=C:=L4<|W.mg_of X G a
 rwa [e]
end
end PF
end
section
namespace L2
open PySem PySem.Spec PyProof.Rows
noncomputable def ja(lo c:Int)(n:Nat):It:=⟨λi _=>i<n,λi H x H'=>H'=H/\x = .int (lo+i*c),λi _=>n<=i⟩
def NP{P w K tg}(it)(lo c:Int)(n:Nat):Turn P w K tg (ja lo c n) [it] it (λi h=>IsRangeIter h it (lo+(i:Nat)*c) ((n:Int)-(i:Nat)) c)where
 mem:=by simp
 obj:=λi h st b hb=>by
  have e:b=it:=by simpa using hb
  subst e;exact⟨_,st,λv z=>by
   have z':Data.fields _=Data.cell v:=z;cases z'⟩
 keep:=λi h h' st k=>k it (by simp) _ st
 item:=by
  intro X hP hw hK hc i pins s σ H E I hf st hg;subst hP hw hK;obtain⟨f0,f1,f2,f3,f4,f5⟩:=hf it (by simp);have W:=Walks.range (prog:=X.prog) (w:=X.w) (I.ok.hd hc) it lo c n;refine W.item i s _ _ hg st λv h' tk hv st' kk=>?_;obtain⟨t,rfl⟩:=hv;have I1:Inv X pins σ H {s with heap:=h',toks:=tk}:=I.turned (λb o hb e=>kk b o (by simpa using hb) e) f0 f1 f3 f4 f5;exact⟨_,rfl,Ba st' rfl rfl (by decide) ⟨.int<|lo+i*c,H,I1,⟨t,rfl⟩,⟨rfl,rfl⟩,st',λb hb=>(hf b hb).1⟩⟩
 done:=by
  intro X hP hw hK hc i pins s σ H E I hf st hg;subst hP hw hK;obtain⟨f0,f1,f2,f3,f4,f5⟩:=hf it (by simp);exact wpAny_pyNext_range_end (I.ok.hd hc) st (by have:n<=i:=hg;omega) λh' eb=>⟨rfl,I.turned (t':=s.toks) (λb o hb e=>eb b o hb e) f0 f1 f3 f4 f5⟩
 self:=λ_ _ _ _ _ st h=>wpAny_pyIter_rangeiter st h
def JA{b c:Int}(h1:0<=b)(h2:b<1000000)(h3:1<=c)(h4:c<1000000):Builtin.Range.small 0 b c=true:=by
 unfold Builtin.Range.small Builtin.Range.rangeSize;have hc:c > 0:=q1r h3 h4
 have hd:0<=(b-0-1)/c+1/\(b-0-1)/c+1<1000001:=by
  have h5:(b-0-1)/c<=1000000:=Int.ediv_le_of_le_mul (q1r h3 h4) (by have:1000000*1<=1000000*c:=Int.mul_le_mul_of_nonneg_left (by omega) (by decide);omega);have h6 : -1<=(b-0-1)/c:=(Int.le_ediv_iff_mul_le hc).mpr (by omega);constructor
  . omega
  . rcases Int.lt_or_eq_of_le h5 with h|h
    . omega
    . exact absurd ((Int.le_ediv_iff_mul_le hc).mp<|Int.le_of_eq h.symm) (by
       have:1000000*1<=1000000*c:=Int.mul_le_mul_of_nonneg_left (by omega) (by decide);omega)
 simp only[Builtin.Range.rangeFitsLong,zyC,Bool.or_eq_true,decide_eq_true_eq,beq_iff_eq,hc,if_true]
 split<;>omega
section
variable{X:Cx}{tg:Expr}
def qT(ta:TA):TI:=λσ H R=>ta σ H λvs H1=>∃j c:Int,vs=[.int 0,.int j,.int c]/\(0<=j/\j<1000000/\1<=c/\c<1000000)/\R (ja 0 c (Builtin.Range.rangeSize 0 j c).toNat) H1
def Sx{a b d ta p pos}(hg:Gl X "range")(hm:X.mg "range"=none)(ha:PA X [a,b,d] ta)(hs:starEach [a,b,d] X.env=[(false,eval a X.env),(false,eval b X.env),(false,eval d X.env)]:=by rfl)(hs2:starEach [b,d] X.env=[(false,eval b X.env),(false,eval d X.env)]:=by rfl):
 PI X tg (.Call (.Name "range" p) [a,b,d] [] pos) (qT ta):=by
 intro pins s σ H R I h;refine Call_ (Yy I hg hm boot_range<|PyProof.Rows.callWith_type1 (wD (ha pos pins s σ H _ I h) λus s1 ⟨vs,H1,I1,r1,q1⟩=>?_) (by rw[hs,hs2])<|by rw[hs2];rfl);obtain⟨j,c,e,⟨q1,q2,q3,q4⟩,q⟩:=q1;subst e;cases r1 with
 |cons r rr=>
  cases rr with
  |cons r' rr=>
   cases rr with
   |cons r'' rr=>
    cases rr;obtain⟨t,rfl⟩:=r;obtain⟨t',rfl⟩:=r';obtain⟨t'',rfl⟩:=r'';refine call_range_3 (by omega) ?_ (Or.inl<|PyProof.noPylong_small<|by omega);refine wpAny_pyIter_range (IsRange.new ..) (JA q1 q2 q3 q4) ?_;have I2:Inv X pins σ H1 {s1 with heap:=s1.heap.push {cls:=.type "range",data:=.fields #[.int 0 t,.int j t',.int c t'']},toks:=s1.toks}:=I1.kept λb o e=>zxF _ e;refine⟨(s1.heap.push {cls:=.type "range",data:=.fields #[.int 0 t,.int j t',.int c t'']}).objs.size,[(s1.heap.push {cls:=.type "range",data:=.fields #[.int 0 t,.int j t',.int c t'']}).objs.size],_,_,H1,rfl,
     I2.kept (t':=s1.toks) λb o e=>zxF _ e,NP _ 0 c (Builtin.Range.rangeSize 0 j c).toNat, ?_,λb hb=>?_,q⟩
    . have e1:(0:Int)+((0:Nat):Int)*c=0:=by simp
      have e2:(((Builtin.Range.rangeSize 0 j c).toNat:Nat):Int)-((0:Nat):Int)=Builtin.Range.rangeSize 0 j c:=by
       have:0<=Builtin.Range.rangeSize 0 j c:=by
        unfold Builtin.Range.rangeSize;rw[if_pos (show c > 0 from q1r q3 q4)]
        split
        . have:0<=(j-0-1)/c:=Int.ediv_nonneg (by omega) (by omega);omega
        . omega
       omega
      rw[e1,e2];exact zxH _ rfl
    . have e:b=(s1.heap.push {cls:=.type "range",data:=.fields #[.int 0 t,.int j t',.int c t'']}).objs.size:=by simpa using hb
      subst e;exact I2.fpOk (zzN _)<|I2.hok.fresh<|zzN _
end
end L2
namespace PF
open PySem PySem.Spec PyProof.Rows L2
noncomputable def Rn(c:Int)(n:Nat):List wG:=(List.range n).map λ(i:Nat)=>(true,D.int<|(i:Int)*c)
def OS:List D->Option (List wG)
 | [.int a,.int j,.int c]=>if a=0/\0<=j/\j<1000000/\1<=c/\c<1000000 then some (Rn c (Builtin.Range.rangeSize 0 j c).toNat)else none
 |_=>none
section
variable{X:Cx}{kd:KD}{a b d tg:Expr}{fr:AF}{p pos:Pos}
def AQ{K F B ad H}(c:Int)(n:Nat):ItOk K kd F B ad H (ja 0 c n) (Rn c n):=⟨λe h g _ i=>by
 have l:(Rn c n).length=n:=by unfold Rn;simp
 refine⟨λa=>by rw[l]at a;exact a,λa=>by rw[l]at a;exact a,λv j f=>?_⟩;obtain⟨rfl,rfl⟩:=f;refine⟨λ_ _ z=>z,λd b=>?_⟩;have a:i<n:=by rw[<-l];exact(zzG.mp b).1
 unfold Rn at b;rw[zzI,List.getElem?_range a]at b;cases b;rw[Int.zero_add];exact .int _⟩
def B2(hg:Gl X "range")(hm:X.mg "range"=none)(ha:AA X kd [a,b,d] fr)(hs:starEach [a,b,d] X.env=[(false,eval a X.env),(false,eval b X.env),(false,eval d X.env)])(hs2:starEach [b,d] X.env=[(false,eval b X.env),(false,eval d X.env)]):AI X kd tg (.Call (.Name "range" p) [a,b,d] [] pos) (yt fr OS):=by
 with_unfolding_all (
 intro c s σ H R I h;obtain⟨F,B,n,as,o,r,t,e,q⟩:=h;obtain⟨⟨u,v⟩,w,e⟩:=bS_<|e;obtain⟨⟨x,J⟩,d,e⟩:=bS_ e;obtain⟨K,f,e⟩:=bS_ e;cases e
 match x,f,d with
 | [.int i,.int j,.int k],f,d=>
  obtain⟨⟨rfl,y⟩,z⟩:=zu<|f;cases z;refine Sx hg hm ha hs hs2 c s σ H R I ⟨F,B,n,as,u,_,t,w,λL g A m l C=>?_⟩;have D:=Y_ m l d;cases D with
  |cons E1 L1=>
   cases L1 with
   |cons E2 L2=>
    cases L2 with
    |cons E3 L3=>
     cases L3;cases E1;cases E2;cases E3;exact⟨j,k,rfl,y,q _ g A m C<|AQ k _⟩)
end
noncomputable def Sz(f:SF):VF:=λas=>(f as).bind λo=>match o with
 | .nx as'=>some (.non,as')
 |_=>none
def Je{f:SF}{as:AS}{d:D}{as':AS}(h:Sz f as=some (d,as')):d = .non/\f as=some (.nx as'):=by
 obtain⟨o,h1,h2⟩:=bS_<|show(f as).bind _=_ from h;cases o with
 |nx b=>cases h2;exact⟨rfl,h1⟩
 |_=>cases h2
section
variable{P:Program}{w:World}{K:zzA}{mg:Str->Option Value}{base:Heap}
def An{kd x qual st f fd N ps}{k:Nat}(c:Nat){b}(Fn:Fun K x qual st f fd)(S:FnScope N ps (zO st))(hN:ps.length<=N.length)
 (hb:∀(cdv:Value) (A:Around) (outer:List Env) (s:Shared) (H:Hp) (E:XK),Room k (A.deeper<|envOfC qual (zO st) s.heap.objs.size f cdv)->DA (Rb XQ P w K mg base N qual (zO st) f cdv A outer s H E).nox kd (c+2) (Ze st) b):
 FnOk P w K mg base XQ (k+1) f fd ps (spT c K kd<|jO c N.length ps.length<|Sz b):=by
 with_unfolding_all (
 refine Fn.ok S (λX H Q E h=>?_) λB A b s H X Q E Y h=>⟨_,hb B A b s H E Y, ?_⟩
 . obtain⟨F,T0,T1,v0,v1,ws,xs,o0,o1,d,r0,r1,rfl,ht,nd,hT,rp,q0,q1,e,q⟩:=h;obtain⟨⟨V,W⟩,_⟩:=ite_some'<|e;rw[QB (by rw[rp.len];exact W),rp.len];exact V
 . obtain⟨F,T0,T1,v0,v1,ws,xs,o0,o1,d,r0,r1,rfl,ht,nd,hT,rp,q0,q1,e,q⟩:=h;obtain⟨⟨V,W⟩,Z⟩:=ite_some'<|e;obtain⟨⟨d0,D⟩,e1,z1⟩:=bS_ Z;obtain⟨ed,e9⟩:=Je e1;subst ed;obtain⟨a,k0,z2⟩:=bS_ z1;obtain⟨s0,e2,z3⟩:=bS_ z2;obtain⟨b',k1,z4⟩:=bS_ z3;obtain⟨s1,e3,z5⟩:=bS_ z4;obtain⟨⟨h0,h1⟩,z6⟩:=zu z5;subst e2 e3;cases z6;have R0:=Fv (N:=N) (c:=c) ht nd hT (by omega) W rp q0 q1;refine⟨F,λ_=>False,_,wV N.length _,_,R0,e9,λσ' l H' sp R g=>?_⟩;obtain⟨u0,G0,t0⟩:=R.sl c _ k0;obtain⟨u1,G1,t1⟩:=R.sl (c+1) _ k1;rw[sp c<|by omega]at G0;rw[sp (c+1)<|by omega]at G1;have iv:=O5 (x:=v0) (y:=v1) (c:=c) (r:=ws) (by rw[rp.len];exact W);have il:(ins c v0 v1 ws).length=ws.length+2:=QB (by rw[rp.len];exact W);have wl:=rp.len;have sv0:(L2.start N<|ins c v0 v1 ws)[c]? = some (some v0):=by
    unfold L2.start;rw[zyP (by rw[zzB];omega),zzI,iv.1];rfl
   have sv1:(L2.start N<|ins c v0 v1 ws)[c+1]? = some (some v1):=by
    unfold L2.start;rw[zyP (by rw[zzB];omega),zzI,iv.2];rfl
   cases(sv0.symm.trans G0);cases(sv1.symm.trans G1);have own:∀a,a ∈ l c++l (c+1)->Gw [] l a:=λa z=>(zzM.mp z).elim (λy=>.inr ⟨_,y⟩) λy=>.inr ⟨_,y⟩;exact q .non H' (l c) (l<|c+1) (λc u h n=>g.keep c u h λz=>n<|Nb.mp z) (zxC.mpr ⟨R.nd _,R.nd _,λa m b m' z=>absurd (R.inj c (c+1) a m<|z ▸ m')<|by omega⟩) (λa m=>(g.own a<|own a m).imp Nb.mp id) (λa m=>(R.gtr a<|own a m).1) (vM.lv (λst a z=>z.imp id<|own a) t0) (vM.lv (λst a z=>z.imp id<|own a) t1) .non)
end
abbrev zT(n:Nat)(x:Int):Prop:=0<=x/\x<(n:Int)
structure LJ(n:Nat)(j:Int->Int->Int)(e:Int):Prop where
 cl:∀a b,zT n a->zT n b->zT n (j a b)
 ce:zT n e
 ul:∀a,zT n a->j e a=a
 ur:∀a,zT n a->j a e=a
 as:∀a b c,zT n a->zT n b->zT n c->j (j a b) c=j a (j b c)
structure LD(n m:Nat)(j:Int->Int->Int)(e:Int)(d:Int->Int->Int):Prop where
 cl:∀c a,zT m c->zT n a->zT n (d c a)
 em:d 0 e=e
 dn:∀a i b k,zT n a->zT m i->zT n b->zT m k->d ((i+k)%m) (j a b)=j (d i a) (d k b)
def Wn{n:Nat}(hn:0<n):zT n (x%n):=⟨zyN _ ⋯,zyH _ ⋯⟩
def LD.congr{n m:Nat}(hm:0<m)(hj:LJ n j e)(h:LD n m j e d)(q:∀a b,zT n a->zT n b->j' a b=j a b)(p:∀c a,zT m c->zT n a->d' c a=d c a):LD n m j' e d':=by
 refine⟨λc a r f=>by rw[p c a r f];exact h.cl c a r f,by rw[p 0 e ⟨⋯,⋯⟩ hj.ce];exact h.em,λa i b k f l g o=>?_⟩;rw[q a b f g,p _ _ (Wn hm)<|hj.cl a b f g,p i a l f,p k b o g,q _ _ (h.cl i a l f)<|h.cl k b o g];exact h.dn a i b k f l g o
noncomputable def jS(n:Nat)(a b:Int):Int:=(a+b)%n
noncomputable def jM(a b:Int):Int:=if b > a then b else a
noncomputable def jL(a b:Int):Int:=if b=0 then a else b
def iz{n:Nat}(hn:0<n):LJ n (jS n) 0:=by
 refine⟨λa b _ _=>Wn hn,⟨⋯,⋯⟩,λa d=>?_,λa d=>?_,λa b c _ _ _=>?_⟩
 . unfold jS;rw[Int.zero_add,Int.emod_eq_of_lt d.1 d.2]
 . unfold jS;rw[Int.add_zero,Int.emod_eq_of_lt d.1 d.2]
 . unfold jS;rw[Int.emod_add_emod,Int.add_emod_emod,Int.add_assoc]
def hV{n:Nat}(hn:0<n):LJ n jM 0:=by
 refine⟨λa b d e=>?_,⟨⋯,⋯⟩,λa d=>?_,λa d=>?_,λa b c _ _ _=>?_⟩<;>unfold jM<;>(try unfold jM)<;>grind
def gU{n:Nat}(hn:0<n):LJ n jL 0:=by
 refine⟨λa b d e=>?_,⟨⋯,⋯⟩,λa d=>?_,λa d=>?_,λa b c _ _ _=>?_⟩<;>unfold jL<;>grind
def four{P:Int->Prop}(h0:P 0)(h1:P 1)(h2:P 2)(h3:P 3)(h:zT 4 a):P a:=by
 rcases(show a=0\/a=1\/a=2\/a=3 by omega)with rfl|rfl|rfl|rfl<;>assumption
def f4{P:Int->Prop}(h:∀a ∈ ([0,1,2,3]:List Int),P a){a:Int}(ha:zT 4 a):P a:=four (h 0<|by decide) (h 1<|by decide) (h 2<|by decide) (h 3<|by decide) ha
def gZ{n m:Nat}{g x0 x1:Int}(hn:0<n)(hm:0<m)(g0:0<g)(gn:g ∣ n)(gm:g ∣ m):LD n m (jS n) 0 (λc a=>(a*x0+c*((n:Int)/g)*x1)%n):=by
 refine⟨λc a _ _=>Wn hn,⋯,λa i b k _ _ _ _=>?_⟩;obtain⟨t,e⟩:=gm;have h:m*(n/g)=n*t:=by
  obtain⟨s,f⟩:=gn;rw[f,Int.mul_ediv_cancel_left _ ⋯,e];grind
 unfold jS;rw[<-Int.add_emod];generalize n/g=d at h;rw[Int.emod_def _ m,Int.emod_def (a+b) n];generalize (i+k)/m=q;generalize (a+b)/n=p;rw[show _*x0+_*d*x1=(a*x0+i*d*x1+(b*x0+k*d*x1))+n*(-(p*x0)-t*q*x1) by grind,Int.add_mul_emod_self_left]
def gO{n m:Nat}{r:Int->Int}(hm:0<m)(h0:r 0=0)(hc:∀a,zT n a->zT n (r a))(hr:∀a b,zT n a->zT n b->a<=b->r a<=r b):LD n m jM 0 (λ_ a=>r a):=by
 refine⟨λc a _ d=>hc a d,h0,λa i b k d _ e _=>?_⟩;unfold jM;have f:=hr a b d e;have g:=hr b a e d
 split<;>split<;>grind
def gY{n m:Nat}{r:Int->Int}(h0:r 0=0)(hc:∀a,zT n a->zT n (r a))(hr:∀a,zT n a->a≠0->r a≠0):LD n m jL 0 (λ_ a=>r a):=by
 refine⟨λc a _ d=>hc a d,h0,λa i b k d _ e _=>?_⟩;unfold jL;have f:=hr b e
 split<;>split<;>grind
def uW{n1 n2:Nat}(hx:zT n1 x)(hy:zT n2 y):zT (n1*n2) (x*n2+y):=by
 have b:0<=x*n2:=Int.mul_nonneg hx.1 ⋯;have a:x*n2<=(n1-1)*n2:=Int.mul_le_mul_of_nonneg_right ⋯ ⋯;rw[Int.sub_mul,Int.one_mul]at a;omega
def yf{n1 n2:Nat}(h2:0<n2)(h:zT (n1*n2) p):zT n1 (p/n2)/\zT n2 (p%n2):=
 ⟨⟨Int.ediv_nonneg h.1 ⋯,Int.ediv_lt_of_lt_mul ⋯ (by have:=h.2;exact this)⟩,Wn h2⟩
def W_{n2:Nat}(hy:zT n2 y):(x*n2+y)/n2=x/\(x*n2+y)%n2=y:=by
 have a:(n2:Int)≠0:=⋯;constructor
 . rw[Int.add_comm,Int.add_mul_ediv_right _ _ a,Int.ediv_eq_zero_of_lt hy.1 hy.2,Int.zero_add]
 . rw[Int.add_comm,Int.add_mul_emod_self_right,Int.emod_eq_of_lt hy.1 hy.2]
def qm{n2:Nat}{p:Int}:(p/n2)*n2+p%n2=p:=by rw[Int.mul_comm];exact Int.mul_ediv_add_emod p n2
noncomputable def jB(n2:Nat)(j1 j2:Int->Int->Int)(p q:Int):Int:=j1 (p/n2) (q/n2)*n2+j2 (p%n2) (q%n2)
noncomputable def dB(n2:Nat)(d1 d2:Int->Int->Int)(c p:Int):Int:=d1 c (p/n2)*n2+d2 c (p%n2)
def uV{n k:Nat}(h:n<=8)(hk:8<=k:=by decide):n<=k:=zzO h hk
def tm{n:Nat}(h:1<=n):(0:Int)<n:=Int.natCast_pos.mpr h
def tS{a:Int}{n:Nat}(h0:0<=a)(h1:a<n):a.toNat<n:=Int.ofNat_lt.mp (by rwa [zyY h0])
def mU{n:Nat}(h:n<=8)(hk:8<k:=by decide):(n:Int)<k:=Int.lt_of_le_of_lt (Int.ofNat_le.mpr h) hk
def iT{n:Nat}(h:zT n x):x.toNat<n:=Int.ofNat_lt.mp (by rw[zyY h.1];exact h.2)
def iC{n:Nat}(h:zT n x):((x.toNat:Nat):Int)=x:=zyY h.1
noncomputable def Zn(r:List Int)(v:Int):Int:=(r[v.toNat]?).getD 0
def yZ(J:List (List Int))(w v:Int):Int:=Zn ((J[w.toNat]?).getD []) v
def BH(J:List (List Int))(e:Int):List Int->Int
 | []=>e
 |x::t=>t.foldl (yZ J) x
section
variable{n m:Nat}{J T:List (List Int)}{e:Int}
theorem MO(h:LJ n (yZ J) e):∀(t:List Int) (w:Int),zT n w->(∀x ∈ t,zT n x)->zT n (t.foldl (yZ J) w)
 | [],w,a,_=>a
 |v::t,w,a,k=>MO h t _ (h.cl w v a<|k v<|zzF ..) λx m=>k x<|zzD _ m
def ZK(h:LJ n (yZ J) e)(k:∀x ∈ r,zT n x):zT n (BH J e r):=by
 cases r with
 |nil=>exact h.ce
 |cons x t=>exact MO h t x (k x ⋯) λy m=>k y<|zzD _ m
theorem V8(h:LJ n (yZ J) e):∀(t:List Int) (w:Int),zT n w->(∀x ∈ t,zT n x)->t.foldl (yZ J) w=yZ J w (BH J e t)
 | [],w,a,_=>(h.ur w a).symm
 |x::t,w,a,k=>by
  have b:=k x ⋯;have c:=λy m=>k y<|zzD _ m;show t.foldl _ _=yZ J w (t.foldl _ x);rw[V8 h t _ (h.cl w x a b) c,V8 h t x b c,h.as _ _ _ a b<|ZK h c]
def EG(h:LJ n (yZ J) e)(k:∀x ∈ l,zT n x)(k':∀x ∈ l',zT n x):BH J e (l++l')=yZ J (BH J e l) (BH J e l'):=by
 cases l with
 |nil=>exact(h.ul _<|ZK h k').symm
 |cons x t=>
  show(t++l').foldl _ x=_;rw[List.foldl_append];exact V8 h l' _ (ZK h k) k'
theorem Lb(hm:0<m)(h:LJ n (yZ J) e)(d:LD n m (yZ J) e (yZ T)):∀r:List Int,(∀x ∈ r,zT n x)->BH J e (r.map<|yZ T<|1%(m:Int))=yZ T ((r.length:Int)%m) (BH J e r)
 | [],_=>by
  show e=yZ T (0%m) e;rw[Int.zero_emod,d.em]
 |x::t,k=>by
  have b:=k x ⋯;have a:=λy m=>k y<|zzD _ m;have c:zT m (1%m):=Wn hm;have f:∀y ∈ t.map (yZ T<|1%m),zT n y:=λy g=>by
   obtain⟨z,i,rfl⟩:=zxB.mp g;exact d.cl _ _ c<|a z i
  have j:BH J e (x::t)=yZ J x _:=V8 h t x b a;have l:BH J e ((x::t).map _)=yZ J _ _:=V8 h _ _ (d.cl _ _ c b) f;rw[l,Lb hm h d t a,j,<-d.dn _ _ _ _ b c (ZK h a) (Wn hm),<-Int.add_emod,zzT,Int.natCast_add,Int.add_comm t.length];rfl
end
local macro_rules | `(tactic| trivial)=>do `(tactic| first|with_reducible first|assumption|$(<-zqb "Int.natCast_nonneg _;Nat.le_refl _;Int.le_refl _;rfl;uV a;tm a;np2 a;nq1 a;nq2 a;Int.natCast_pos.mpr a;Nat.le_trans a d;bgL _;bgU a;mU a;zI _;bL0 a;bU0 a a;iL a;iU a a;iC a;iT a;stL a;stU a;lnK a a a;zi1 _;lnE a;ltL a;Int.toNat_of_nonneg a;tS a a;b6 a;Int.emod_nonneg _ d;Int.emod_lt_of_pos _ d"):tactic|decide|omega)
noncomputable abbrev VM(x:Int):O:=.lf true<|.int x
abbrev sI(x:Int):Option O:=some<|VM x
noncomputable abbrev sT(d:D):Option O:=some<|.lf true d
noncomputable abbrev sN(os:List O):Option O:=some<|.nd .ls os
abbrev TZ:Type:=List<|List Int
abbrev DD:Type:=List<|Str×TZ
abbrev SS:Type:=List<|Str×List Int
def Nz{f as as1 o}(h:f as=some (.ow o,as1))(hs:o.str=true):zx f as=some (.rt o):=by
 unfold zx;rw[h];show((if o.str=true then some o else none).bind _)=_;rw[if_pos hs];rfl
theorem Zu:∀xs:List Int,(xs.map VM).all O.isLf=true/\O.strs (xs.map VM)=true/\O.toDs (xs.map VM)=xs.map D.int
 | []=>⟨rfl,rfl,rfl⟩
 |x::r=>⟨(Zu r).1,(Zu r).2.1,congrArg _ (Zu r).2.2⟩
def Mg(ys)(w):(ys++[w]).map VM=ys.map VM++[O.lf true<|.int w]:=⋯
def Qs(xs:List Int):(O.nd .ls<|xs.map VM).str=true/\(O.nd .ls<|xs.map VM).toD = .lst (xs.map D.int):=⟨(Zu xs).2.1,congrArg D.lst (Zu xs).2.2⟩
abbrev vP(r:List Int):O:=.nd .ls<|r.map VM
noncomputable abbrev ze(r:List Int):D:=.lst<|r.map D.int
def N_{g fe as0 as1 y r o os}(h1:g y as0=some as1)(h2:fe as1=some (.ow o,as1))(hs:o.str=true)(h3:xV g yP fe as0 r=some os):xV g yP fe as0 (y::r)=some (o::os):=by
 unfold xV;rw[h1];show((fe as1).bind _)=_;rw[h2];show(if o.str=true then _ else _)=_;rw[if_pos hs,h3];rfl
theorem xg:∀(n:Nat) (k:Int),(y9 k n).length=n
 |0,_=>rfl
 |n+1,k=>by rw[GY];exact congrArg _<|xg n _
def CJ{f as x}(h:WE f as x):∃o,zx f as=some (.rt o)/\o.str=true/\o.toD=x:=by
 obtain⟨o,b,a,c⟩:=h;exact⟨o,Nz b a,a,c⟩
theorem Pj:∀{n:Nat}{k:Int}{y:wG},y ∈ y9 k n->∃b:Int,y=(true,.int b)/\k<=b/\b<k+n
 |0,_,_,h=>nomatch h
 |n+1,k,y,h=>by
  rw[GY]at h
  rcases zzC.mp h with rfl|h
  . exact⟨k,rfl,by trivial,⋯⟩
  . obtain⟨b,e,a,c⟩:=Pj h;exact⟨b,e,⋯,⋯⟩
theorem G6{α:Type}(toD){Q:α->Prop}{g fe as0}:∀{xs:List wG},(∀y ∈ xs,∃as1 a,g y as0=some as1/\WE fe as1 (toD a)/\Q a)->∃(os:List O) (l:List α),xV g yP fe as0 xs=some os/\O.strs os=true/\O.toDs os=l.map toD/\l.length=xs.length/\∀a ∈ l,Q a
 | [],_=>⟨[],[],rfl,rfl,rfl,rfl,λ_ m=>nomatch m⟩
 |y::e,H=>by
  obtain⟨f,a,h,⟨o,i,d,j⟩,k⟩:=H y ⋯;obtain⟨c,l,n,p,q,r,s⟩:=G6 toD λz m=>H z<|zzD _ m;refine⟨o::c,a::l,N_ h i d n,by show(o.str&&O.strs c)=_;rw[d,p];rfl,by show o.toD::O.toDs c=_;rw[j,q];rfl,congrArg _ r,λb m=>?_⟩
  rcases zzC.mp m with rfl|m
  . exact k
  . exact s b m
def Jb{α:Type}(toD:α->D){Q:α->Prop}{fi cap g fe as xs}(h1:fi as=some (xs,as))(hl:xs.length<=1000)(H:∀y ∈ xs,∃as1 a,g y (ZV cap as)=some as1/\WE fe as1 (toD a)/\Q a):
 ∃l:List α,l.length=xs.length/\(∀a ∈ l,Q a)/\WE (yb fi cap g yP fe) as (.lst<|l.map toD):=by
 obtain⟨h,l,b,c,d,e,f⟩:=G6 toD H;exact⟨l,e,f,_,VU h1 (BR<|by trivial) b,c,congrArg D.lst d⟩
def uN{α:Type}(toD:α->D){Q:α->Prop}{fr cap fe as}{n:Nat}{u}(h1:WA fr as [(u,.int n)])(hl:n<=1000)(H:∀b:Int,0<=b->b<n->∃as1 a,gN 0 (true,.int b) (ZV cap as)=some as1/\WE fe as1 (toD a)/\Q a):
 ∃l:List α,l.length=n/\(∀a ∈ l,Q a)/\WE (yb (yt fr yV) cap (gN 0) yP fe) as (.lst<|l.map toD):=by
 obtain⟨l,c,d,e⟩:=Jb toD (xO h1 (by trivial) ⋯) (by rw[xg];trivial) (λy m=>by
  obtain⟨b,rfl,f,h⟩:=Pj m;exact H b f ⋯)
 rw[xg]at c;exact⟨l,⋯,d,e⟩
def Row(n:Nat)(r:List Int):Prop:=r.length=n/\∀x ∈ r,0<=x/\x<(n:Int)
def Tab(k n:Nat)(T:TZ):Prop:=T.length=k/\∀r ∈ T,Row n r
abbrev x_(T:TZ):D:=.lst<|T.map ze
def HW{r}{P:Int->Prop}{k}(h0:0<=k)(h1:k<r.length)(hp:∀x ∈ r,P x):∃x,zv (ze r) (.int k)=some (.im<|.int x)/\P x:=by
 have a:k.toNat<r.length:=by trivial
 refine⟨r[k.toNat], ?_,hp _ ⋯⟩;have h:=Qv (xs:=r.map D.int) (by rw[zzI,zzE a];rfl);rw[show k.toNat=k by trivial]at h;show Oj _=_;rw[h];rfl
def rC{α:Type}(toD){T:List α}{P:α->Prop}{k:Int}(h0:0<=k)(h1:k<T.length)(hp:∀r ∈ T,P r):∃r,zv (.lst<|T.map toD) (.int k)=some (.im<|toD r)/\P r:=by
 have a:k.toNat<T.length:=by trivial
 refine⟨T[k.toNat], ?_,hp _ ⋯⟩;have h:=Qv (xs:=T.map toD) (by rw[zzI,zzE a];rfl);rw[show k.toNat=k by trivial]at h;show Oj _=_;rw[h];rfl
def Ye{α:Type}{f}{l:List α}{i:Nat}{p}(h:l[i]? = some p):zv (.lst<|l.map f) (.int (i:Int))=some (.im<|f p):=by
 have h:=Qv (v:=f p) (by rw[zzI,h];rfl);show Oj _=_;rw[h];rfl
def sQ{n k:Nat}{r}{v:Int}(hl:r.length=k)(hr:∀x ∈ r,zT n x)(hv:zT k v):zv (ze r) (.int v)=some (.im<|.int<|Zn r v)/\zT n (Zn r v):=by
 have a:v.toNat<r.length:=by rw[hl];trivial
 have g:=zzE a;have e:Zn r v=r[v.toNat]:=by unfold Zn;rw[g];rfl
 rw[e];refine⟨?_,hr _ ⋯⟩;have:=Ye (f:=D.int) g
 rwa [show v.toNat=v by trivial]at this
noncomputable abbrev Up(T:TZ)(w:Int):List Int:=(T[w.toNat]?).getD []
def Zi{k n:Nat}{T}{w:Int}(hT:Tab k n T)(hw:zT k w):zv (x_ T) (.int w)=some (.im<|ze<|Up T w)/\Row n (Up T w):=by
 have a:w.toNat<T.length:=by rw[hT.1];trivial
 have g:=zzE a;unfold Up;rw[g];refine⟨?_,hT.2 _ ⋯⟩;have:=Ye (f:=ze) g
 rwa [show w.toNat=w by trivial]at this
def rowAt{n:Nat}{r v}(hr:Row n r)(hv:zT n v):zv (ze r) (.int v)=some (.im<|.int<|Zn r v)/\zT n (Zn r v):=sQ hr.1 hr.2 hv
theorem strs_snoc:∀(os:List O) (o:O),O.strs os=true->o.str=true->O.strs (os++[o])=true
 | [],o,_,h=>by show(o.str&&true)=_;rw[h];rfl
 |p::r,o,h,a=>by
  have h:=(zyC _ _).mp<|h;show(p.str&&O.strs (r++_))=_;rw[h.1,strs_snoc r o h.2 a];rfl
theorem Kf:∀(os:List O) (o:O),O.toDs (os++[o])=O.toDs os++[o.toD]
 | [],o=>rfl
 |p::r,o=>congrArg _<|Kf r o
structure Ows{α:Type}(toD:α->D)(Q:α->Prop)(os:List O)(l:List α):Prop where
 st:O.strs os=true
 ds:O.toDs os=l.map toD
 al:∀a ∈ l,Q a
 ln:os.length=l.length
def Ows.nil{α:Type}{toD}{Q:α->Prop}:Ows toD Q [] []:=⟨rfl,rfl,⋯,rfl⟩
def Ows.snoc{α:Type}{toD Q os l o}{a:α}(h:Ows toD Q os l)(h1:o.str=true)(h2:o.toD=toD a)(h3:Q a):Ows toD Q (os++[o]) (l++[a]):=
 ⟨strs_snoc os o h.st h1,(by rw[Kf,h.ds,h2,zyM];rfl),(λb m=>(zzM.mp m).elim (h.al b) λm=>(by rwa [zzR.mp m])),(by rw[zzJ,zzJ,h.ln];rfl)⟩
def Qn{as as1 a}{i:Nat}{os0 os o}(h:as[i]? = some (sN os0))(ha:a as=some (.ow o,as1))(h1:as1[i]? = some (sN os))(hl:os.length<sizeLine):zW (vL i (dC a dN) ZG) as=some (.nx<|as1.set i<|sN<|os++[o]):=by
 unfold zW vL;rw[h];have e:dC a dN as=some _:=Z1 ha rfl;rw[e];show(Option.bind (match as1[i]? with|some (some<|.nd .ls os)=>_|_=>none) _)=_;rw[h1];show((ZG os _).bind _).bind _=_;have e2:ZG os [o]=some _:=if_pos hl;rw[e2];rfl
def OO{α:Type}{toD Q as a}{i:Nat}{os l}{x:α}(h:as[i]? = some (sN os))(ho:Ows toD Q os l)(hl:l.length<1000)(ha:WE a as (toD x))(hx:Q x):
 ∃os',Ows toD Q os' (l++[x])/\zW (vL i (dC a dN) ZG) as=some (.nx<|as.set i<|sN os'):=by
 obtain⟨o,b,c,d⟩:=ha;exact⟨os++[o],ho.snoc c d hx,Qn h b h<|by rw[ho.ln];exact Ug ⋯⟩
def Ows.retB{α:Type}{toD Q as}{i:Nat}{os}{l:List α}(h:as[i]? = some (sN os))(ho:Ows toD Q os l):Rt (zx (fV i) as) (.lst<|l.map toD):=
 ⟨_,RZ h ho.st,ho.st,congrArg D.lst ho.ds⟩
structure OwsX{α:Type}(toD:α->D)(Q:Nat->α->Prop)(os:List O)(l:List α):Prop where
 st:O.strs os=true
 ds:O.toDs os=l.map toD
 al:∀i a,l[i]? = some a->Q i a
 ln:os.length=l.length
def DY{fr as rs g zs}(ha:WA fr as rs)(hg:g (rs.map (·.2))=some (.fl zs)):fP fr g as=some (.ow (.nd .ls (zs.map (Hq (rs.all (·.1))))),as):=by
 unfold fP;rw[ha];show(views as _).bind _=_;rw[YH];show(g _).bind _=_;rw[hg];show(if _=true then _ else _:Option RV).bind _=_;rw[if_pos ⋯];rfl
def ui{a as x g zs}(ha:WE a as x)(hg:g [x]=some (.fl zs)):fP (aC a aN) g as=some (.ow<|.nd .ls<|zs.map<|O.lf true,as):=by
 have:=DY (y8 ha<|zq) hg
 rwa [show([(true,x)].all _)=true from rfl,Pd]at this
def qI{a as s r}(h:WD a as s (ze r)):fP (aC a aN) lstP as=some (.ow<|vP r,as):=by
 have:=DY (g:=lstP) (zd h<|zq) rfl
 rwa [zyB]at this
def Ed{a as s r}(h:WD a as s (ze r)):WE (fP (aC a aN) lstP) as (ze r):=⟨_,qI h,(Qs r).1,(Qs r).2⟩
def Dq{fr as os x}(h:WO fr as os)(hl:os.length<=sizeLine)(hs:O.strs os=true)(e:D.tup (O.toDs os)=x):WE (yd fr) as x:=by
 refine⟨_,M9 h hl, ?_, ?_⟩
 . unfold XO
   split
   . exact hs
   . exact hs
 . unfold XO
   split
   . exact e
   . exact e
def Qi{r a}(h:a.toNat<r.length):Zn r a=r[a.toNat]:=by unfold Zn;rw[zzE h];rfl
theorem Ows.frz{α:Type}{toD:α->D}{Q:α->Prop}{os:List O}{l:List α}(h:Ows toD Q os l):(O.nd .ls os).frz = .lf true (.lst<|l.map toD):=by
 show O.lf (O.strs os) (.lst _)=_;rw[h.st,h.ds]
def Hv{as as2}{j:Nat}{ps fr os}(hj:as[j]? = some (sN ps))(hr:fr (as.set j<|some (O.nd .ls ps).frz)=some (os,as2)):dC (fV j) fr as=some ((O.nd .ls ps).frz::os,as2):=by
 unfold dC;rw[Mi hj];show((JT as _).bind _)=_;rw[tw hj];show(fr _).bind _=_;rw[hr];rfl
def FY{as as1 fr os}(h:fr as=some (os,as1))(hl:os.length<=sizeLine):yd fr as=some (.ow<|XO os,as1):=by
 unfold yd;rw[h];show(if os.length<=sizeLine then _ else _)=_;rw[if_pos hl]
def Hz{f as ds}(h:WE f as (.lst ds)):Wc f as=some (ds.map λd=>(true,d),as):=by
 obtain⟨o,h1,h2,h3⟩:=h;unfold Wc;rw[h1];have e:VE as (.ow o)=some _:=rfl;show(VE as<|RV.ow o).bind (λq=>(UX q.1).bind λds=>some (ds,q.2))=_;rw[e,h2,h3];show some _=_;rw[VA]
noncomputable abbrev YQ(n:Nat):List Int:=(List.range n).map λ(i:Nat)=>(i:Int)
abbrev UF(p:Str×List Int):D:=.tup [.str p.1,ze p.2]
def qP{x y c}:zv (.lst [.int x,.int y]) (.int (if c=true then 1 else 0))=some (.im<|.int (if c=true then y else x)):=by cases c<;>rfl
noncomputable abbrev Ha:Str:="abcdefghijklmnopqrstuvwxyz"
def Al:∀k,k<26->Ha.cps.toList[k]? = some (97+k):=by decide +kernel
def sU{i}(h0:0<=i)(h1:i<26):zv (.str Ha) (.int i)=some (.im<|.str ⟨#[97+i.toNat]⟩):=by
 show(if Ha.length<=sizeLine then(atI Ha.cps.toList i).bind _ else none)=_;have:=Qv<|Al i.toNat ⋯;rw[show i.toNat=i by trivial]at this;rw[this];rfl
def wq{F}{n:Nat}(h:F.Perm (YQ n)):Row n F/\∀b:Int,0<=b->b<n->b ∈ F:=by
 refine⟨⟨by rw[h.length_eq,zzB,zyU],λx m=>?_⟩,λb c d=>h.mem_iff.mpr ?_⟩
 . obtain⟨i,a,rfl⟩:=zxB.mp<|h.mem_iff.mp m;have:=List.mem_range.mp a;trivial
 . exact zxB.mpr ⟨b.toNat,List.mem_range.mpr (by trivial),by trivial⟩
def HQ{F}{n:Nat}(h:F.Perm (YQ n)){v w}(hv:zT n v)(hw:zT n w)(e:Zn F v=Zn F w):v=w:=by
 have a:=(wq h).1.1;have nd:F.Nodup:=by
  refine h.nodup_iff.mpr<|List.pairwise_map.mpr<|List.nodup_range.imp λz q=>z ⋯
 rw[Qi ⋯,Qi ⋯]at e;have:=(List.getElem_inj nd).mp e;trivial
def Fx{f g as as' x}(h:WE f as x)(hg:g (true,x) as=some as'):X1 f g as=some (.nx as'):=by
 obtain⟨o,a,b,c⟩:=h;exact Ft a (by rwa [b,c])
abbrev XA(p:Str×TZ):D:=.tup [.str p.1,x_ p.2]
structure Alg(n m:Nat)(J:TZ)(e:Int)(Ds:DD):Prop where
 n1:1<=n
 n8:n<=8
 m1:1<=m
 m6:m<=6
 j:Tab n n J
 e0:0<=e
 en:e<n
 dl:Ds.length<=6
 ds:∀p ∈ Ds,Tab m n p.2
 nd:(Ds.map (·.1)).Nodup
structure LawA(n m:Nat)(J:TZ)(e:Int)(Ds:DD):Prop where
 lj:LJ n (yZ J) e
 ld:∀p ∈ Ds,LD n m (yZ J) e<|yZ p.2
abbrev Zm(n m:Nat)(J:TZ)(e:Int)(Ds:DD)(S:SS):D:=.tup [.int n,.int m,x_ J,.int e,.lst<|Ds.map XA,.lst<|S.map UF]
def H0{f as k}(h:WD f as true (.int k)):oS f as=some (some k,as):=by
 unfold oS;rw[h];rfl
abbrev E5(T:TZ):O:=.nd .ls<|T.map vP
def Q3{n:Nat}{J w v}(hJ:Tab n n J)(hw:zT n w)(hv:zT n v):zT n (yZ J w v):=(rowAt (Zi hJ hw).2 hv).2
def vC{a b c as}{n:Nat}{J w v}(hJ:Tab n n J)(hw:zT n w)(hv:zT n v)(ha:WD a as true (x_ J))(hb:WD b as true (.int w))(hc:WD c as true (.int v)):WD (f2 (f2 a b zv) c zv) as true (.int<|yZ J w v):=
 zV (vZ ha hb (Zi hJ hw).1) hc (rowAt (Zi hJ hw).2 hv).1 rfl
def p9{fr as rs g kvs}(ha:WA fr as rs)(hg:g (rs.map (·.2))=some (.fd kvs)):fP fr g as=some (.ow (.nd (.dc (kvs.map (·.1))) ((kvs.map (·.2)).map (Hq (rs.all (·.1))))),as):=by
 unfold fP;rw[ha];show(views as _).bind _=_;rw[YH];show(g _).bind _=_;rw[hg];show(if _=true then _ else _:Option RV).bind _=_;rw[if_pos ⋯];rfl
abbrev RT(o:O):Prop:=o.str=true/\∃ds,o.toD = .tup ds
theorem Bh(I:AS->Prop)(P:wG->Prop):∀(xs:List wG) (as:AS),(∀x ∈ xs,∀as,I as->∃as1,g x as=some as1/\((∃as2,f as1=some (.nx as2)/\I as2/\P x)\/∃o,f as1=some (.rt o)/\RT o/\¬P x))->I as->
 (∃as',forL g f xs as=some (.nx as')/\I as'/\∀x ∈ xs,P x)\/∃o,forL g f xs as=some (.rt o)/\RT o/\¬ ∀x ∈ xs,P x
 | [],as,_,h=>.inl ⟨as,rfl,h,λ_ m=>nomatch m⟩
 |x::r,as,H,h=>by
  obtain⟨n,b,a⟩:=H x (zzF ..) as h
  rcases a with⟨c,a,d,e⟩|⟨o,a,d,e⟩
  . rcases Bh I P r c (λy m=>H y<|zzD _ m) d with⟨i,j,k,l⟩|⟨o,j,k,l⟩
    . refine .inl ⟨i,YL b a j,k,λy m=>?_⟩
      rcases zzC.mp m with rfl|m
      . exact e
      . exact l y m
    . exact .inr ⟨o,YL b a j,k,λz=>l λy m=>z y<|zzD _ m⟩
  . exact .inr ⟨o,CQ b a,d,λz=>e<|z x ⋯⟩
abbrev Rr(r:Option Out)(I:AS->Prop)(P:Prop):Prop:=(∃as',r=some (.nx as')/\I as'/\P)\/∃o,r=some (.rt o)/\RT o/\¬P
def Rr.imp{P Q:Prop}(h:Rr r I P)(k:P ↔ Q):Rr r I Q:=by
 rcases h with⟨a,b,c,d⟩|⟨a,b,c,d⟩
 . exact .inl ⟨a,b,c,k.mp d⟩
 . exact .inr ⟨a,b,c,λz=>d<|k.mpr z⟩
def X4{v n:Nat}{f fr:SF}(I)(P:Int->Prop)(H:∀b,zT n b->∀as,I as->∃as1,gN v (true,.int b) as=some as1/\Rr (f as1) I (P b)){as:AS}(h:I as):Rr (forL (gN v) f (y9 0 n) as) I (∀b,zT n b->P b):=by
 have k:=Bh I (λx=>∀b,x=(true,.int b)->P b) (y9 0 n) as (λx m as j=>by
  obtain⟨b,rfl,l,u⟩:=Pj m;obtain⟨a,o,q⟩:=H b ⟨l,⋯⟩ as j;exact⟨a,o,q.imp ⋯⟩) h
 refine Rr.imp k ⟨λp b d=>p _ ?_ b rfl,λp x m b e=>?_⟩
 . have r:=d.1;refine zyA (i:=b.toNat) ?_;unfold y9;rw[zzI,List.getElem?_range<|by trivial];show some (true,D.int _)=_;rw[show 0+b.toNat=b by trivial]
 . subst e;obtain⟨c,e,t,w⟩:=Pj m;cases e;exact p b ⟨t,⋯⟩
def Xk{v n:Nat}(h:as[v]? = some (some<|.lf s<|.int n))(hn:n<=1000):yL (yt (aC (fV v) aN) yV) g f as=forL g f (y9 0 n) as:=
 yC (xO (zd (za h) zq) (by trivial) ⋯) ⋯
def FE{P:Prop}(ht:WT c as q)(hq:q=true ↔ ¬P)(hf:WE f as (.tup ds))(hI:I as):Rr (xl c (zx f) xj as) I P:=by
 cases q with
 |false=>exact .inl ⟨as,zp ht rfl,hI,Classical.byContradiction λz=>nomatch hq.mpr z⟩
 |true=>
  obtain⟨o,a,b,d⟩:=CJ hf;exact .inr ⟨o,yY ht a,⟨b,ds,d⟩,hq.mp rfl⟩
def ON(ha:WD a as s (.int x))(hb:WD b as t (.int y)):WT (fT<|f2 a b<|zw .NotEq) as (!(x==y)):=xi (Dt ha hb rfl) rfl
def Bq{x y:Int}:(!(x==y))=true ↔ ¬x=y:=⋯
abbrev lu(n:Nat)(J:TZ)(e:Int):Prop:=∀a,zT n a->yZ J e a=a/\yZ J a e=a
abbrev As(n:Nat)(J:TZ):Prop:=∀a,zT n a->∀b,zT n b->∀c,zT n c->yZ J (yZ J a b) c=yZ J a (yZ J b c)
section
variable{S:Option O->Option O->Option O->AS}{vj vn ve:Nat}{J:TZ}{n:Nat}{e:Int}
def tU{x y z:Option O}(hJ:Tab n n J)(he:zT n e)(hj:∀x y z,(S x y z)[vj]? = some (sT<|x_ J))(hv:∀x y z,(S x y z)[ve]? = some (sI e))(h3:∀x y z,(S x y z)[3]? = some x)(g3:∀d x y z,gN 3 (true,d) (S x y z)=some (S (sT d) y z)):
 Rr (forL (gN 3) (xl (Gv (fT<|f2 (f2 (f2 (fV vj) (fV ve) zv) (fV 3) zv) (fV 3)<|zw .NotEq)<|fT<|f2 (f2 (f2 (fV vj) (fV 3) zv) (fV ve) zv) (fV 3)<|zw .NotEq) (zx<|yd<|dC (fC<|.str "nothing")<|dC (fV 3) dN) xj) (y9 0 n)<|S x y z) (λas=>∃x,as=S x y z) (lu n J e):=by
 refine X4 (fr:=xj) _ _ (λa c as f=>?_) ⟨x,rfl⟩;obtain⟨x,rfl⟩:=f;have b:WD _ (S (sI a) y z) true _:=za<|h3 _ _ _;have g:=ON (vC hJ he c (za<|hj _ y z) (za<|hv _ y z) b) b;have i:=ON (vC hJ c he (za<|hj _ y z) b<|za<|hv _ y z) b;refine⟨S _ y z,g3 _ _ _ _,FE (q:=!_ || !(yZ J a e==a)) (Bs g (λh=>by rwa [h]) λh=>by rw[h];rfl) (by grind) (Dq (zH zb<|zH b yu) (WY rfl) rfl rfl) ⟨_,rfl⟩⟩
abbrev nM(vj vn:Nat):SF:=yL (yt (aC (fV vn) aN) yV) (gN 4)<|yL (yt (aC (fV vn) aN) yV) (gN 5)<|xl (fT<|f2 (f2 (f2 (fV vj) (f2 (f2 (fV vj) (fV 3) zv) (fV 4) zv) zv) (fV 5) zv) (f2 (f2 (fV vj) (fV 3) zv) (f2 (f2 (fV vj) (fV 4) zv) (fV 5) zv) zv)<|zw .NotEq) (zx<|yd<|dC (fC<|.str "parting")<|dC (fV 3)<|dC (fV 4)<|dC (fV 5) dN) xj
def Jh{x y z:Option O}(n8:n<=8)(hJ:Tab n n J)(hj:∀x y z,(S x y z)[vj]? = some (sT<|x_ J))(hn:∀x y z,(S x y z)[vn]? = some (sI n))(h3:∀x y z,(S x y z)[3]? = some x)(h4:∀x y z,(S x y z)[4]? = some y)(h5:∀x y z,(S x y z)[5]? = some z)
 (g3:∀d x y z,gN 3 (true,d) (S x y z)=some (S (sT d) y z)) (g4:∀d x y z,gN 4 (true,d) (S x y z)=some (S x (sT d) z)) (g5:∀d x y z,gN 5 (true,d) (S x y z)=some (S x y<|sT d)):
 Rr (forL (gN 3) (nM vj vn) (y9 0 n)<|S x y z) (λas=>∃x y z,as=S x y z) (As n J):=by
 refine X4 (fr:=xj) _ _ (λa i as e=>?_) ⟨x,y,z,rfl⟩;obtain⟨x,y,z,rfl⟩:=e;refine⟨_,g3 _ _ _ _, ?_⟩;unfold nM;rw[Xk (hn _ _ _)<|by trivial];have k:=X4 (fr:=xj) (f:=yL _ _ _) (λas=>∃y z,as=S (sI a) y z) _ (λb g as e=>by
  obtain⟨y,z,rfl⟩:=e;refine⟨_,g4 _ _ _ _, ?_⟩;rw[Xk (hn _ _ _)<|by trivial];have k:=X4 (fr:=xj) (λas=>∃z,as=S (sI a) (sI b) z) _ (λc j as e=>by
   obtain⟨z,rfl⟩:=e;have l:WD _ (S (sI a) (sI b)<|sI c) true _:=za<|h3 _ _ _;have m:WD _ (S (sI a) (sI b)<|sI c) true _:=za<|h4 _ _ _;have o:WD _ (S (sI a) (sI b)<|sI c) true _:=za<|h5 _ _ _;have h:WD _ (S (sI a) (sI b)<|sI c) true _:=za<|hj _ _ _;have s:=Q3 hJ i g;have bc:=Q3 hJ g j;exact⟨_,g5 _ _ _ _,FE (ds:=[.str "parting",.int a,.int b,.int c]) (ON (vC hJ s j h (vC hJ i g h l m) o)<|vC hJ i bc h l<|vC hJ g j h m o) Bq (Dq (zH zb<|zH l<|zH m<|zH o yu) (WY rfl) rfl rfl) ⟨_,rfl⟩⟩) ⟨z,rfl⟩
  rcases k with⟨p,q,⟨t,rfl⟩,r⟩|k
  . exact .inl ⟨_,q,⟨_,_,rfl⟩,r⟩
  . exact .inr k) ⟨y,z,rfl⟩
 rcases k with⟨p,q,⟨u,t,rfl⟩,r⟩|k
 . exact .inl ⟨_,q,⟨_,_,_,rfl⟩,r⟩
 . exact .inr k
end
abbrev Hs(r:Option O)(P:Prop):Prop:=(RE r .non/\P)\/((∃ds,RE r<|.tup ds)/\¬P)
def Fj{n m:Nat}{P:Prop}(hl:ds.length=m)(h:(Rt (c<|Zj n ds) .non/\P)\/((∃es,Rt (c<|Zj n ds)<|.tup es)/\¬P)):Hs (wz n m c ds) P:=by
 rcases h with⟨h,p⟩|⟨⟨a,h⟩,p⟩
 . exact .inl ⟨zN hl h,p⟩
 . exact .inr ⟨⟨a,zN hl h⟩,p⟩
def K7{P Q:Prop}(h:Rr (f as) I P)(k:∀as',I as'->P->(Rt (g as') .non/\Q)\/((∃es,Rt (g as')<|.tup es)/\¬Q)):(Rt (zi f g as) .non/\P/\Q)\/((∃es,Rt (zi f g as)<|.tup es)/\¬(P/\Q)):=by
 rcases h with⟨b,a,c,p⟩|⟨o,a,⟨c,d,i⟩,p⟩
 . rcases k b c p with⟨e,q⟩|⟨⟨d,e⟩,q⟩
   . exact .inl ⟨zc a e,p,q⟩
   . exact .inr ⟨⟨d,zc a e⟩,λz=>q z.2⟩
 . exact .inr ⟨⟨d,o,Zs a,c,i⟩,λz=>p z.1⟩
def LU:(Rt (zx (fC .non) as) .non/\True)\/((∃es,Rt (zx (fC .non) as)<|.tup es)/\¬True):=.inl ⟨zE<|WD.e zb,trivial⟩
def Hs.imp{P Q:Prop}(h:Hs r P)(k:P ↔ Q):Hs r Q:=by
 rcases h with⟨h,p⟩|⟨h,p⟩
 . exact .inl ⟨h,k.mp p⟩
 . exact .inr ⟨h,λz=>p<|k.mpr z⟩
section
variable{n m:Nat}{J T:TZ}{e:Int}{Ds:DD}{S:SS}
abbrev Dn(n m:Nat)(J T:TZ):Prop:=∀a,zT n a->∀i,zT m i->∀b,zT n b->∀k,zT m k->yZ T ((i+k)%m) (yZ J a b)=yZ J (yZ T i a) (yZ T k b)
def WB(hT:Tab m n T)(hw:zT m w)(hv:zT n v)(ha:WD a as true (x_ T))(hb:WD b as true (.int w))(hc:WD c as true (.int v)):WD (f2 (f2 a b zv) c zv) as true (.int<|yZ T w v)/\zT n (yZ T w v):=
 ⟨zV (vZ ha hb (Zi hT hw).1) hc (rowAt (Zi hT hw).2 hv).1 rfl,(rowAt (Zi hT hw).2 hv).2⟩
abbrev lI:SF:=(xl (fT<|f2 (f2 (f2 (fV 2) (f2 (f2 (fV 7) (fV 9)<|Yj .Add) (fV 4)<|Yj .Mod) zv) (f2 (f2 (fV 5) (fV 6) zv) (fV 8) zv) zv) (f2 (f2 (fV 5) (f2 (f2 (fV 2) (fV 7) zv) (fV 6) zv) zv) (f2 (f2 (fV 2) (fV 9) zv) (fV 8) zv) zv)<|zw .NotEq) (zx<|yd<|dC (fC<|.str "doing")<|dC (fV 1)<|dC (fV 6)<|dC (fV 7)<|dC (fV 8)<|dC (fV 9) dN) xj)
abbrev Me(n m:Nat)(J T:TZ)(e:Int)(Ds:DD)(S:SS)(s:Str)(x y z w:Option O):AS:=[sT<|Zm n m J e Ds S,sT<|.str s,sT<|x_ T,sI n,sI m,sT<|x_ J,x,y,z,w]
def gW{a i b:Int}(hJ:Tab n n J)(hT:Tab m n T)(m1:1<=m)(ha:zT n a)(hi:zT m i)(hb:zT n b):Rr (forL (gN 9) lI (y9 0 m)<|Me n m J T e Ds S s (sI a) (sI i) (sI b) w) (λas=>∃w,as=Me n m J T e Ds S s (sI a) (sI i) (sI b) w) (∀k,zT m k->yZ T ((i+k)%m) (yZ J a b)=yZ J (yZ T i a) (yZ T k b)):=by
 refine X4 (fr:=xj) _ _ (λk l as o=>?_) ⟨w,rfl⟩;obtain⟨w,rfl⟩:=o;have c:WD (fV 2) (Me n m J T e Ds S s (sI a) (sI i) (sI b)<|sI k) true _:=za rfl;have j:WD (fV 5) (Me n m J T e Ds S s (sI a) (sI i) (sI b)<|sI k) true _:=za rfl;have d:WD (fV 6) (Me n m J T e Ds S s (sI a) (sI i) (sI b)<|sI k) true _:=za rfl;have f:WD (fV 7) (Me n m J T e Ds S s (sI a) (sI i) (sI b)<|sI k) true _:=za rfl;have g:WD (fV 8) (Me n m J T e Ds S s (sI a) (sI i) (sI b)<|sI k) true _:=za rfl;have h:WD (fV 9) (Me n m J T e Ds S s (sI a) (sI i) (sI b)<|sI k) true _:=za rfl;obtain⟨p,q⟩:=WB hT hi ha c f d;obtain⟨r,t⟩:=WB hT l hb c h g;have u:=Q3 hJ ha hb;obtain⟨v,y⟩:=WB hT (Wn m1) u c (zY (zM f h) (za (i:=4) rfl)<|by trivial)<|vC hJ ha hb j d g;exact⟨_,rfl,FE (ON v<|vC hJ q t j p r) Bq (Dq ⋯ (WY rfl) rfl rfl) ⟨_,rfl⟩⟩
def Hs.none{P:Prop}(h:Hs r P)(p:P):RE r .non:=by
 rcases h with⟨h,_⟩|⟨_,h⟩
 . exact h
 . exact absurd p h
def LawA.un(L:LawA n m J e Ds):lu n J e:=λa b=>⟨L.lj.ul a b,L.lj.ur a b⟩
theorem LawA.as(L:LawA n m J e Ds):As n J:=λa d b f c g=>L.lj.as a b c d f g
theorem LawA.dn(L:LawA n m J e Ds)(hp:p ∈ Ds):Dn n m J p.2:=λa c i d b f k g=>(L.ld p hp).dn a i b k c d f g
end
noncomputable def iP(b k:Int):Int:=if k=0 then b/2 else b%2
def jP(a b:Int):Int:=2*iP b (a/2)+iP b (a%2)
noncomputable def sP(a:Int):Int:=2*(1-a%2)+1-a/2
def kS:LJ 4 jP 1:=by
 refine⟨λa b d e=>?_,⟨by decide,by decide⟩,λa d=>?_,λa d=>?_,λa b c d e f=>?_⟩
 . revert b;refine f4 (P:=λa=>∀b,zT 4 b->zT 4 _) ?_ d
   have:∀a ∈ ([0,1,2,3]:List Int),∀b ∈ ([0,1,2,3]:List Int),zT 4 (jP a b):=by decide
   exact λa m b e=>f4 (this a m) e
 . exact f4 (P:=λa=>jP 1 a=a) (by decide) d
 . exact f4 (P:=λa=>jP a 1=a) (by decide) d
 . have:∀a ∈ ([0,1,2,3]:List Int),∀b ∈ ([0,1,2,3]:List Int),∀c ∈ ([0,1,2,3]:List Int),jP (jP a b) c=jP a (jP b c):=by decide
   refine f4 (λa m=>f4 (λb g=>f4 (this a m b g) f) e) d
def gX{m:Nat}{r:Int->Int}(h:(∀a,zT 4 a->r a=a)\/(∀a,zT 4 a->r a=sP a)):LD 4 m jP 1 (λ_ a=>r a):=by
 rcases h with h|h
 . refine⟨λc a _ d=>by rw[h a d];exact d,h 1 ⟨by decide,by decide⟩,λa i b k d _ e _=>?_⟩;rw[h a d,h b e,h _<|kS.cl a b d e]
 . refine⟨λc a _ d=>by rw[h a d];exact f4 (P:=λa=>zT 4 _) (by decide) d,h 1 ⟨by decide,by decide⟩,λa i b k d _ e _=>?_⟩;rw[h a d,h b e,h _<|kS.cl a b d e];have:∀a ∈ ([0,1,2,3]:List Int),∀b ∈ ([0,1,2,3]:List Int),sP (jP a b)=jP (sP a) (sP b):=by decide
   exact f4 (λa m=>f4 (this a m) e) d
def gK{n1 n2:Nat}(h1:LJ n1 j1 e1)(h2:LJ n2 j2 e2)(p2:0<n2):LJ (n1*n2) (jB n2 j1 j2) (e1*n2+e2):=by
 refine⟨λa b d e=>?_,uW h1.ce h2.ce,λa d=>?_,λa d=>?_,λa b c d e f=>?_⟩
 . exact uW (h1.cl _ _ (yf p2 d).1 (yf p2 e).1)<|h2.cl _ _ (yf p2 d).2 (yf p2 e).2
 . unfold jB;rw[(W_ h2.ce).1,(W_ h2.ce).2,h1.ul _ (yf p2 d).1,h2.ul _ (yf p2 d).2,qm]
 . unfold jB;rw[(W_ h2.ce).1,(W_ h2.ce).2,h1.ur _ (yf p2 d).1,h2.ur _ (yf p2 d).2,qm]
 . unfold jB;rw[(W_<|h2.cl _ _ (yf p2 d).2 (yf p2 e).2).1,(W_<|h2.cl _ _ (yf p2 d).2 (yf p2 e).2).2,(W_<|h2.cl _ _ (yf p2 e).2 (yf p2 f).2).1,(W_<|h2.cl _ _ (yf p2 e).2 (yf p2 f).2).2,h1.as _ _ _ (yf p2 d).1 (yf p2 e).1 (yf p2 f).1,h2.as _ _ _ (yf p2 d).2 (yf p2 e).2 (yf p2 f).2]
def gB{n1 n2 m:Nat}(h1:LJ n1 j1 u1)(h2:LJ n2 j2 u2)(p2:0<n2)(e1:LD n1 m j1 u1 d1)(e2:LD n2 m j2 u2 d2):LD (n1*n2) m (jB n2 j1 j2) (u1*n2+u2) (dB n2 d1 d2):=by
 refine⟨λc a h d=>uW (e1.cl _ _ h (yf p2 d).1)<|e2.cl _ _ h (yf p2 d).2, ?_,λa i b k d f e g=>?_⟩
 . unfold dB;rw[(W_ h2.ce).1,(W_ h2.ce).2,e1.em,e2.em]
 . unfold jB dB;rw[(W_<|h2.cl _ _ (yf p2 d).2 (yf p2 e).2).1,(W_<|h2.cl _ _ (yf p2 d).2 (yf p2 e).2).2,(W_<|e2.cl i _ f (yf p2 d).2).1,(W_<|e2.cl i _ f (yf p2 d).2).2,(W_<|e2.cl k _ g (yf p2 e).2).1,(W_<|e2.cl k _ g (yf p2 e).2).2,e1.dn _ _ _ _ (yf p2 d).1 f (yf p2 e).1 g,e2.dn _ _ _ _ (yf p2 d).2 f (yf p2 e).2 g]
def gf{n:Nat}{F B:Int->Int}(h:LJ n j e)(hF:∀a,zT n a->zT n (F a))(hB:∀a,zT n a->zT n (B a))(hFB:∀a,zT n a->F (B a)=a)(q:∀a b,zT n a->zT n b->j' (F a) (F b)=F (j a b)):LJ n j' (F e):=by
 have g:=λa b d f=>by
  have:=q _ _ (hB a d)<|hB b f
  rwa [hFB a d,hFB b f]at this
 refine⟨λa b d f=>by rw[g a b d f];exact hF _<|h.cl _ _ (hB a d)<|hB b f,hF e h.ce,λa d=>?_,λa d=>?_,λa b c d f i=>?_⟩
 . have:=q e _ h.ce<|hB a d
   rwa [h.ul _<|hB a d,hFB a d]at this
 . have:=q _ e (hB a d) h.ce
   rwa [h.ur _<|hB a d,hFB a d]at this
 . have k:=hB a d;have l:=hB b f;have m:=hB c i;rw[g a b d f,g b c f i];have x:=q _ _ (h.cl _ _ k l) m;have y:=q _ _ k<|h.cl _ _ l m;rw[hFB c i]at x;rw[hFB a d]at y;rw[x,y,h.as _ _ _ k l m]
def g8{n m:Nat}{F B:Int->Int}(hm:0<m)(h:LJ n j e)(k:LD n m j e d)(hF:∀a,zT n a->zT n (F a))(hB:∀a,zT n a->zT n (B a))(hFB:∀a,zT n a->F (B a)=a)
 (q:∀a b,zT n a->zT n b->j' (F a) (F b)=F (j a b)) (p:∀c a,zT m c->zT n a->d' c (F a)=F (d c a)):LD n m j' (F e) d':=by
 refine⟨λc a t f=>?_, ?_,λa i b l f r u s=>?_⟩
 . have:=p c _ t<|hB a f;rw[hFB a f]at this;rw[this];exact hF _<|k.cl _ _ t<|hB a f
 . rw[p 0 e ⋯ h.ce,k.em]
 . have g:=hB a f;have o:=hB b u;have x:=q _ _ g o;have y:=p i _ r g;have z:=p l _ s o;rw[hFB a f]at x y;rw[hFB b u]at x z;rw[x,y,z,p _ _ (Wn hm)<|h.cl _ _ g o,q _ _ (k.cl _ _ r g)<|k.cl _ _ s o,k.dn _ _ _ _ g r o s]
def KN(k:Int)(n:Nat):Prop:=(k=0/\1<=n)\/(k=1/\1<=n)\/(k=2/\1<=n)\/(k=3/\n=4)
def jK(k:Int)(n:Nat):Int->Int->Int:=if k=0 then jS n else if k=1 then jM else if k=2 then jL else jP
noncomputable def eK(k:Int):Int:=if k=3 then 1 else 0
def iZ{n:Nat}(h:KN k n):LJ n (jK k n) (eK k):=by
 rcases h with⟨rfl,h⟩|⟨rfl,h⟩|⟨rfl,h⟩|⟨rfl,rfl⟩
 . exact iz h
 . exact hV h
 . exact gU h
 . exact kS
def OB(h:WA fr as [(u,.int i),(v,.int j)])(h0:0<=i)(h1:i<=1000)(h2:0<=j)(h3:j<=1000):yt fr J8 as=some (y9 i (j-i).toNat,as):=by
 unfold yt;rw[h];show((if -_<=i/\i<2 ^ 62 /\ -_<=j/\j<2 ^ 62 then some _ else none).bind _)=_;rw[if_pos ⋯];rfl
noncomputable abbrev VJ(r:List Int):D:=.tup<|r.map D.int
abbrev Zh(T:TZ):D:=.tup<|T.map VJ
def F8{α:Type}{f}{l:List α}{i:Nat}{p}(h:l[i]? = some p):zv (.tup<|l.map f) (.int (i:Int))=some (.im<|f p):=by
 have h:=Qv (v:=f p) (by rw[zzI,h];rfl);show Oj _=_;rw[h];rfl
def kQ{k n:Nat}{T}{w:Int}(hT:Tab k n T)(hw:zT k w):zv (Zh T) (.int w)=some (.im<|VJ<|Up T w):=by
 have a:w.toNat<T.length:=by rw[hT.1];exact iT hw
 have g:=zzE a;unfold Up;rw[g];have:=F8 (f:=VJ) g
 rwa [iC hw]at this
def pd{n:Nat}{r}{v:Int}(hr:Row n r)(hv:zT n v):zv (VJ r) (.int v)=some (.im<|.int<|Zn r v):=by
 have a:v.toNat<r.length:=by rw[hr.1];exact iT hv
 have g:=zzE a;rw[Qi a];have:=F8 (f:=D.int) g
 rwa [iC hv]at this
def Om{m n:Nat}(hT:Tab m n T)(hw:zT m w)(hv:zT n v)(ha:WD a as true (Zh T))(hb:WD b as true (.int w))(hc:WD c as true (.int v)):WD (f2 (f2 a b zv) c zv) as true (.int<|yZ T w v):=
 zV (vZ ha hb<|kQ hT hw) hc (pd (Zi hT hw).2 hv) rfl
section
variable{α:Type}{kf:α->Str}{vf:α->D}
theorem G3:∀l:List α,Us (l.map λp=>.tup [.str<|kf p,vf p])=some (l.map λp=>(.inr<|kf p,vf p))
 | []=>rfl
 |p::l=>by
  show(Us _).bind _=_;rw[G3 l];rfl
theorem Pg:∀{l:List α},p ∈ l->(l.map kf).Nodup->QW (l.map λp=>(.inr<|kf p,vf p)) (.inr<|kf p)=some (vf p)
 | [],h,_=>nomatch h
 |q::l,h,nd=>by
  have a:=zzW.mp<|nd
  rcases zzC.mp h with rfl|h
  . unfold QW;simp
  . have e:kf q≠kf p:=λe=>a.1<|e ▸ List.mem_map_of_mem h;have b:=Pg h a.2;unfold QW at ⊢
    rwa [zyS,List.find?_cons_of_neg<|by simp[e]]
theorem OI:∀(kvs:List (Key×D)),(kvs.map (·.1)).zip (kvs.map (·.2))=kvs
 | []=>rfl
 |p::r=>congrArg _<|OI r
def ux{l:List α}(nd:(l.map kf).Nodup)(h:WE a as (.lst<|l.map λp=>.tup [.str<|kf p,vf p])):WE (fP (aC a aN) Pn) as (.dct<|l.map λp=>(.inr<|kf p,vf p)):=by
 have c:Pn [.lst<|l.map λp=>.tup [.str<|kf p,vf p]]=some (.fd<|l.map λp=>(.inr<|kf p,vf p)):=by
  show(Us _).bind _=_;rw[G3];refine if_pos ?_;rw[zyB];exact List.pairwise_map.mpr<|(List.pairwise_map.mp nd).imp λh e=>h<|Sum.inr.inj e
 have k:=p9 (y8 h<|zq) c;rw[show([(true,D.lst _)].all _)=true from rfl,Pd]at k;refine⟨_,k,X0 _, ?_⟩;show D.dct _=_;rw[Qy,OI]
end
def wC{i:Nat}{os}(h:WE fe as d)(hi:as[i]? = some (some<|.nd (.ob c ns) os))(hc:c ∈ cs)(hn:f ∉ ns)(hl:ns.length<1000):X2 i cs f fe as=some (as.set i<|some<|.nd (.ob c<|ns++[f])<|os++[.lf true d]):=by
 obtain⟨o,a,b,g⟩:=h;unfold X2;have e:VE as (.ow o)=some _:=rfl;simp only[a,zyL,e,hi,if_pos (⟨hc,hn,hl⟩:c ∈ cs/\f ∉ ns/\ns.length<1000),b,g]
def yT(h:f as=some as1)(h2:g as1=o):Zv f g as=o:=by
 unfold Zv
 rwa [h]
def OU(h:WE fe as d):JB fe as=some as:=by
 obtain⟨o,a,_,_⟩:=h;unfold JB;rw[a];rfl
def uX{i:Nat}(h:as[i]? = some (sT<|.ob c ns ds))(hc:c ∈ cs)(hl:Ex ns ds f=some d):WD (f1 (fV i)<|z_ cs f) as true d:=by
 have:=L0 (za h) hc hl
 rwa [zyD]at this
def bh(A B:TZ):TZ:=(A.zip B).map λp=>p.1.map<|Zn p.2
def uj{m n:Nat}(hA:Tab m n A)(hB:Tab m n B){i:Nat}(hi:i<m):(bh A B)[i]? = some ((Up A i).map<|Zn<|Up B i):=by
 have a:=zzE (by rwa [hA.1]);have b:=zzE (by rwa [hB.1]);unfold bh Up;rw[zzI,zyI,a,b];have:_[i]? = some (A[i]'_,B[i]'_):=List.getElem?_zip_eq_some.mpr ⟨a,b⟩;rw[this];rfl
def rz{m n:Nat}(hA:Tab m n A)(hB:Tab m n B):Tab m n (bh A B):=by
 refine⟨by unfold bh;rw[zzB,List.length_zip,hA.1,hB.1,Nat.min_self],λr h=>?_⟩;obtain⟨p,b,rfl⟩:=zxB.mp h;obtain⟨c,d⟩:=List.of_mem_zip b;have a:=hA.2 _ c;have e:=hB.2 _ d;exact⟨by rw[zzB];exact a.1,λx f=>by
  obtain⟨y,g,rfl⟩:=zxB.mp f;exact(rowAt e<|a.2 y g).2⟩
def pN{m n:Nat}(hA:Tab m n A)(hB:Tab m n B)(hc:zT m c)(ha:zT n a):yZ (bh A B) c a=yZ B c (yZ A c a):=by
 have d:=iT hc;have g:=uj hA hB d;have e:=iC hc;rw[e]at g;have f:=(Zi hA hc).2;show Zn _ a=Zn _ (Zn _ a);rw[g];show Zn ((Up A c).map _) a=_;have b:a.toNat<(Up A c).length:=by rw[f.1];exact iT ha
 rw[Qi (by rwa [zzB]),List.getElem_map,Qi b]
end PF
end
section
namespace G46
open PySem PySem.Spec PyProof.Rows L2 PF
abbrev zk:EF:=fV 1
abbrev zP:EF:=fC<|.int 0
abbrev zm:EF:=fV 0
abbrev yx:EF:=fC<|.int 2
abbrev zz:EF:=fC<|.int 1
abbrev zA:EF:=fV 2
abbrev Zw:EF:=fC<|.int 4
abbrev V2:GF:=gN 4
abbrev zL:EF:=fV 4
abbrev zB:EF:=fV 3
abbrev x5:GF:=gN 0
abbrev zo:=Yj .Add
abbrev yN:EF:=fV 5
abbrev Ce:EF:=fC<|.int 5
abbrev xm:EF:=fV 6
abbrev YO:EF:=fV 7
abbrev Pm:EF:=fV 11
abbrev zJ:=Yj .Mod
abbrev zR:=Yj .Mult
abbrev Gj:EF:=fC<|.int 8
abbrev zy:=Yj .FloorDiv
abbrev Y9:EF:=fC<|.int 3
abbrev xx:=Yj .Sub
abbrev Hw:EF:=fC<|.int 6
abbrev ZW:AF:=aC (fV 3) aN
abbrev vN:AF:=aC (fV 0) aN
abbrev xp:AF:=aC (fV 1) aN
abbrev Zk:AF:=aC (fV 2) aN
abbrev O2:AF:=aC (fV 5) aN
abbrev qM:AF:=aC (fV 7) aN
noncomputable def vT:List Str:=["Knot"]
noncomputable def Xl:List Str:=["Knot"]
noncomputable def ZU:List Str:=["Knot"]
noncomputable def W0:List Str:=["Knot"]
noncomputable def Gg:List Str:=["Knot"]
noncomputable def WR:List Str:=["Knot"]
noncomputable def yE:List Str:=["Knot"]
noncomputable def wO:List Str:=["Knot","Ways"]
noncomputable def Po:List Str:=["Ways"]
noncomputable def W4:List Str:=["Ways"]
noncomputable def wZ:List Str:=["Makes"]
noncomputable def yB:List Str:=["Makes"]
noncomputable def YX:List Str:=["Ways"]
noncomputable def Px:List Str:=["Ways"]
noncomputable def PM:List Str:=["Ways"]
noncomputable abbrev EM:List Str:=["thing"]
def Ta:SF:=(zx<|RP (QX zm "int")<|SV<|QX zm "bool")
def PQ:Fn:=wz 1 1 Ta
noncomputable abbrev MV:List Str:=["thing","least","most"]
def U8:SF:=(zx<|RP (zg vN PQ)<|LW zk zm zA (zw .LtE)<|zw .LtE)
def vH:Fn:=wz 3 3 U8
noncomputable abbrev Ra:List Str:=["algebra","join","nothing","a"]
abbrev jx:SF:=(xl (Gv (fT<|f2 (f2 (f2 zk zA zv) zB zv) zB<|zw .NotEq)<|fT<|f2 (f2 (f2 zk zB zv) zA zv) zB<|zw .NotEq) (zx<|yd<|dC (fC<|.str "nothing")<|dC zB dN) xj)
def ZI:SF:=(zi (zr true 1<|f2 zm yx zv)<|zi (zr true 2<|f2 zm Y9 zv)<|zi (yL (yt (aC (f2 zm zP zv) aN) yV) (gN 3) jx)<|zx<|fC .non)
def ZH:Fn:=wz 4 1 ZI
noncomputable abbrev RA:List Str:=["algebra","n","join","a","b","c"]
def XH:SF:=(zi (zr true 1<|f2 zm zP zv)<|zi (zr true 2<|f2 zm yx zv)<|zi (yL (yt xp yV) (gN 3)<|yL (yt xp yV) V2<|yL (yt xp yV) (gN 5)<|xl (fT<|f2 (f2 (f2 zA (f2 (f2 zA zB zv) zL zv) zv) yN zv) (f2 (f2 zA zB zv) (f2 (f2 zA zL zv) yN zv) zv)<|zw .NotEq) (zx<|yd<|dC (fC<|.str "parting")<|dC zB<|dC zL<|dC yN dN) xj)<|zx<|fC .non)
def ZF:Fn:=wz 6 1 XH
noncomputable abbrev Gz:List Str:=["algebra","name","rows","n","m","join","a","i","b","j"]
def YA:SF:=(zi (zr true 3<|f2 zm zP zv)<|zi (zr true 4<|f2 zm zz zv)<|zi (zr true 5<|f2 zm yx zv)<|zi (yL (yt ZW yV) (gN 6)<|yL (yt (aC zL aN) yV) (gN 7)<|yL (yt ZW yV) (gN 8)<|yL (yt (aC zL aN) yV) (gN 9)<|xl (fT<|f2 (f2 (f2 zA (f2 (f2 YO (fV 9) zo) zL zJ) zv) (f2 (f2 yN xm zv) (fV 8) zv) zv) (f2 (f2 yN (f2 (f2 zA YO zv) xm zv) zv) (f2 (f2 zA (fV 9) zv) (fV 8) zv) zv)<|zw .NotEq) (zx<|yd<|dC (fC<|.str "doing")<|dC zk<|dC xm<|dC YO<|dC (fV 8)<|dC (fV 9) dN) xj)<|zx<|fC .non)
def Yu:Fn:=wz 10 3 YA
noncomputable abbrev Lo:List Str:=["algebra","nothing","name","rows","fault"]
abbrev nS:SF:=(xl (fT<|f2 (f2 (f2 zB zP zv) zk zv) zk<|zw .NotEq) (zx<|yd<|dC (fC<|.str "empty")<|dC zA dN) xj)
def VV:SF:=(zi (zr true 1<|f2 zm Y9 zv)<|zi (yL (Wc<|f2 zm Zw zv) (gT 2<|y6 (gN 2)<|y6 (gN 3) Xn)<|zi nS<|zi (zr true 4<|zg (aC zm<|aC zA ZW) Yu)<|xl (fT<|f2 zL (fC .non)<|zw .IsNot) (zx zL) xj)<|zx<|fC .non)
def Xh:Fn:=wz 5 1 VV
noncomputable abbrev LZ:List Str:=["algebra","fault"]
def Qx:SF:=(zi (zr true 1<|zg vN ZH)<|zi (xl (fT<|f2 zk (fC .non)<|zw .Is) (zr true 1<|zg vN ZF) xj)<|zi (xl (fT<|f2 zk (fC .non)<|zw .Is) (zr true 1<|zg vN Xh) xj)<|zx zk)
def Y3:Fn:=wz 2 1 Qx
noncomputable abbrev Tw:List Str:=["algebra","fault"]
def Z2:SF:=(zi (zr true 1<|zg vN Y3)<|xl (fT<|f2 zk (fC .non)<|zw .IsNot) IE xj)
def vQ:Fn:=wz 2 1 Z2
noncomputable abbrev XZ:List Str:=["self","whole","back","wait","turn","one","other"]
abbrev mG:EF:=(Dz (fT<|f2 yN (fC .non)<|zw .Is) zP<|f2 zz (fP (aC (f1 yN<|z_ yE "deep")<|aC (f1 xm<|z_ yE "deep") aN) Rc) zo)
abbrev pF:EF:=(Dz (fT<|f2 yN (fC .non)<|zw .Is) zz<|f2 (f1 yN<|z_ wO "size") (f1 xm<|z_ wO "size") zo)
def ZD:Sg:=(Zv (X2 0 vT "whole" zk)<|Zv (X2 0 Xl "back" zA)<|Zv (X2 0 ZU "wait" zB)<|Zv (X2 0 W0 "turn" zL)<|Zv (X2 0 Gg "one" yN)<|Zv (X2 0 WR "other" xm)<|Zv (X2 0 yE "deep" mG)<|X2 0 wO "size" pF)
def ym(c:Str):Fn:=rY c 7 7 ZD
noncomputable abbrev Hb:List Str:=["value"]
def Kk:SF:=(zx<|zg (aC zm<|aC zm<|aC (fC .non)<|aC (fC<|.bl false)<|aC (fC .non)<|aC (fC .non) aN)<|ym "Knot")
def W3:Fn:=wz 1 1 Kk
noncomputable abbrev MR:List Str:=["self","one","other"]
def UA:SF:=(zx<|f2 (f2 (f1 zm<|z_ Po "table") zk zv) zA zv)
def Wg:Fn:=wz 3 3 UA
def Qa:List (Str×Fn):=[("Ways",Wg)]
noncomputable abbrev S7:List Str:=["way","one","other"]
def Kb:SF:=(zx<|zg (aC (Yc Qa "join" zm<|aC (f1 zk<|z_ vT "whole")<|aC (f1 zA<|z_ vT "whole") aN)<|aC (Yc Qa "join" zm<|aC (f1 zA<|z_ Xl "back")<|aC (f1 zk<|z_ Xl "back") aN)<|aC (fC .non)<|aC (fC<|.bl false)<|aC zk Zk)<|ym "Knot")
def yz:Fn:=wz 3 3 Kb
noncomputable abbrev KP:List Str:=["way","row","half"]
def Kd(self:Fn):SF:=(zi (xl (fT<|f2 (fP xp y4) zP<|zw .Eq) (zx<|fC .non) xj)<|zi (xl (fT<|f2 (fP xp y4) zz<|zw .Eq) (zx<|zg (aC (f2 zk zP zv) aN) W3) xj)<|zi (zr true 2<|f2 (fP xp y4) yx zy)<|zx<|zg (aC zm<|aC (zg (aC zm<|aC (Yk zk oN (oS zA) YF) aN) self)<|aC (zg (aC zm<|aC (Yk zk (oS zA) oN YF) aN) self) aN) yz)
def vI:Nat->Fn
 |0=>λ_=>none
 |n+1=>wz 3 2<|Kd<|vI n
noncomputable abbrev Si:List Str:=["tree"]
def KU:SF:=(zx<|Dz (fT<|f2 zm (fC .non)<|zw .Is) zP<|f1 zm<|z_ wO "size")
def xu:Fn:=wz 1 1 KU
noncomputable abbrev GD:List Str:=["self","one","other"]
abbrev Sa:EF:=(yb (wR zm) [none,some 1] x5 yP<|f2 zk zm zv)
def Vo:SF:=(zx<|fP (aC (yb (XJ<|aC zk Zk) [none,none] (gT 2<|y6 x5<|y6 (gN 1) Xn) yP<|fP (aC Sa aN) tupP) aN) tupP)
def YB:Fn:=wz 3 3 Vo
def Kl:List (Str×Fn):=[("Ways",YB)]
noncomputable abbrev LO:List Str:=["way","one","other"]
def QJ:SF:=(zi (xl (fT<|f2 zk (fC .non)<|zw .Is) (zx zA) xj)<|zi (xl (fT<|f2 zA (fC .non)<|zw .Is) (zx zk) xj)<|zx<|Yc Kl "behind" zm<|aC zk Zk)
def Y1:Fn:=wz 3 3 QJ
noncomputable abbrev MI:List Str:=["self","wait","value","many"]
def UR:SF:=(zx<|f2 (f2 zk (f2 zB (f1 zm<|z_ W4 "around") zJ) zv) zA zv)
def Wi:Fn:=wz 4 4 UR
def Pe:List (Str×Fn):=[("Ways",Wi)]
noncomputable abbrev Fl:List Str:=["way","tree","wait","whole","back"]
abbrev o_:AF:=(aC (f1 zk<|z_ Gg "one")<|aC (f1 zk<|z_ WR "other") aN)
def Tb:SF:=(zi (xl (fT<|f2 zk (fC .non)<|zw .Is) (zx<|fC .non) xj)<|zi (zr true 3<|Yc Pe "made" zm<|aC zA<|aC (f1 zk<|z_ vT "whole")<|aC (f1 zk<|z_ wO "size") aN)<|zi (xl (fT<|f2 (f1 zk<|z_ yE "deep") zP<|zw .Eq) (zx<|zg ZW W3) xj)<|zi (zr true 4<|Yc Pe "made" zm<|aC zA<|aC (f1 zk<|z_ Xl "back")<|aC (f1 zk<|z_ wO "size") aN)<|zx<|zg (aC zB<|aC zL<|aC (zg (aC zm<|aC (f1 zk<|z_ ZU "wait") Zk) Y1)<|aC (f1 zk<|z_ W0 "turn") o_)<|ym "Knot")
def Zp:Fn:=wz 5 3 Tb
noncomputable abbrev Ni:List Str:=["way","tree"]
def Qh:SF:=(zi (xl (fT<|f2 zk (fC .non)<|zw .Is) (zx<|fC .non) xj)<|zx<|zg (aC (f1 zk<|z_ Xl "back")<|aC (f1 zk<|z_ vT "whole")<|aC (f1 zk<|z_ ZU "wait")<|aC (SV<|f1 zk<|z_ W0 "turn") o_)<|ym "Knot")
def wQ:Fn:=wz 2 2 Qh
noncomputable abbrev FG:List Str:=["way","knot","one","other"]
abbrev qE:SF:=(zi (zr true 2<|zg (aC zm<|aC zA<|aC (f1 zk<|z_ ZU "wait") aN) Zp)<|zr true 3<|zg (aC zm<|aC zB<|aC (f1 zk<|z_ ZU "wait") aN) Zp)
def T5:SF:=(zi (zr true 2<|f1 zk<|z_ Gg "one")<|zi (zr true 3<|f1 zk<|z_ WR "other")<|zi (xl (fT<|f2 (f1 zk<|z_ ZU "wait") (fC .non)<|zw .IsNot) qE xj)<|zi (xl (fT<|f1 zk<|z_ W0 "turn") (zx<|yd<|dC (zg (aC zm ZW) wQ)<|dC (zg (aC zm Zk) wQ) dN) xj)<|zx<|yd<|dC zA<|dC zB dN)
def wA:Fn:=wz 4 2 T5
noncomputable abbrev Kq:List Str:=["way","tree","parts"]
def KJ(self:Fn):SF:=(zi (xl (fT<|f2 zk (fC .non)<|zw .Is) (zx<|yd dN) xj)<|zi (xl (fT<|f2 (f1 zk<|z_ yE "deep") zP<|zw .Eq) (zx<|yd<|dC (f1 zk<|z_ vT "whole") dN) xj)<|zi (zr true 2<|zg (aC zm xp) wA)<|zx<|yd<|dC (f1 zk<|z_ vT "whole")<|dC (zg (aC zm<|aC (f2 zA zP zv) aN) self)<|dC (zg (aC zm<|aC (f2 zA zz zv) aN) self) dN)
def ZX:Nat->Fn
 |0=>λ_=>none
 |n+1=>wz 3 2<|KJ<|ZX n
noncomputable abbrev GP:List Str:=["way","one","other","parts","inner"]
abbrev sL:SF:=(zr true 3<|zg (aC zm xp) wA)
def Vl:SF:=(zi sL<|zi (xl (fT<|f2 (f1 (f2 zB zP zv)<|z_ yE "deep") (f1 (f2 zB zz zv)<|z_ yE "deep")<|zw .GtE) (zx<|zg (aC zm<|aC (f2 zB zP zv)<|aC (zg (aC zm<|aC (f2 zB zz zv) Zk) yz) aN) yz) xj)<|zi (zr true 4<|zg (aC zm<|aC (f2 zB zz zv) aN) wA)<|zx<|zg (aC zm<|aC (zg (aC zm<|aC (f2 zB zP zv)<|aC (f2 zL zP zv) aN) yz)<|aC (zg (aC zm<|aC (f2 zL zz zv) Zk) yz) aN) yz)
def YC:Fn:=wz 5 3 Vl
noncomputable abbrev Pu:List Str:=["way","one","other","parts","inner"]
def Wa:SF:=(zi (zr true 3<|zg (aC zm Zk) wA)<|zi (xl (fT<|f2 (f1 (f2 zB zz zv)<|z_ yE "deep") (f1 (f2 zB zP zv)<|z_ yE "deep")<|zw .GtE) (zx<|zg (aC zm<|aC (zg (aC zm<|aC zk<|aC (f2 zB zP zv) aN) yz)<|aC (f2 zB zz zv) aN) yz) xj)<|zi (zr true 4<|zg (aC zm<|aC (f2 zB zP zv) aN) wA)<|zx<|zg (aC zm<|aC (zg (aC zm<|aC zk<|aC (f2 zL zP zv) aN) yz)<|aC (zg (aC zm<|aC (f2 zL zz zv)<|aC (f2 zB zz zv) aN) yz) aN) yz)
def ZZ:Fn:=wz 5 3 Wa
noncomputable abbrev HA:List Str:=["way","one","other"]
abbrev nK:TF:=(fT<|f2 (f1 zk<|z_ yE "deep") (f2 (f1 zA<|z_ yE "deep") zz zo)<|zw .Gt)
abbrev p8:TF:=(fT<|f2 (f1 zA<|z_ yE "deep") (f2 (f1 zk<|z_ yE "deep") zz zo)<|zw .Gt)
def M0:SF:=(zi (xl nK (zx<|zg (aC zm<|aC zk Zk) YC) xj)<|zi (xl p8 (zx<|zg (aC zm<|aC zk Zk) ZZ) xj)<|zx<|zg (aC zm<|aC zk Zk) yz)
def VW:Fn:=wz 3 3 M0
noncomputable abbrev Wz:List Str:=["way","one","other","parts"]
def We(self:Fn):SF:=(zi (xl (fT<|f2 zk (fC .non)<|zw .Is) (zx zA) xj)<|zi (xl (fT<|f2 zA (fC .non)<|zw .Is) (zx zk) xj)<|zi (xl nK (zi sL<|zx<|zg (aC zm<|aC (f2 zB zP zv)<|aC (zg (aC zm<|aC (f2 zB zz zv) Zk) self) aN) VW) xj)<|zi (xl p8 (zi (zr true 3<|zg (aC zm Zk) wA)<|zx<|zg (aC zm<|aC (zg (aC zm<|aC zk<|aC (f2 zB zP zv) aN) self)<|aC (f2 zB zz zv) aN) VW) xj)<|zx<|zg (aC zm<|aC zk Zk) yz)
def yk:Nat->Fn
 |0=>λ_=>none
 |n+1=>wz 4 3<|We<|yk n
noncomputable abbrev Uz:List Str:=["way","tree","place","parts","ahead","pair"]
def UB(self:Fn):SF:=(zi (xl (fT<|f2 zA zP<|zw .Eq) (zx<|yd<|dC (fC .non)<|dC zk dN) xj)<|zi (xl (fT<|f2 zA (f1 zk<|z_ wO "size")<|zw .Eq) (zx<|yd<|dC zk<|dC (fC .non) dN) xj)<|zi sL<|zi (zr true 4<|f1 (f2 zB zP zv)<|z_ wO "size")<|zi (xl (fT<|f2 zA zL<|zw .Lt) (zi (zr true 5<|zg (aC zm<|aC (f2 zB zP zv) Zk) self)<|zx<|yd<|dC (f2 yN zP zv)<|dC (zg (aC zm<|aC (f2 yN zz zv)<|aC (f2 zB zz zv) aN)<|yk 20) dN) xj)<|zi (zr true 5<|zg (aC zm<|aC (f2 zB zz zv)<|aC (f2 zA zL xx) aN) self)<|zx<|yd<|dC (zg (aC zm<|aC (f2 zB zP zv)<|aC (f2 yN zP zv) aN)<|yk 20)<|dC (f2 yN zz zv) dN)
def xC:Nat->Fn
 |0=>λ_=>none
 |n+1=>wz 6 3<|UB<|xC n
noncomputable abbrev GR:List Str:=["place","least","most"]
def YD:SF:=(xl (ZP<|fT<|zg (aC zm<|aC zk Zk) vH) IE xj)
def xo:Fn:=wz 3 3 YD
noncomputable abbrev Ld:List Str:=["size"]
def Xq:SF:=(xl (fT<|f2 zm (fC<|.int 300)<|zw .Gt) IE xj)
def wK:Fn:=wz 1 1 Xq
noncomputable abbrev uP:List Str:=["rows"]
def Cy:SF:=(zx<|fP (aC (yb (wR zm) [none] x5 yP<|fP vN tupP) aN) tupP)
def K6:Fn:=wz 1 1 Cy
noncomputable abbrev Ey:List Str:=["_law_script","_law_k","_law_most","_law_x","_law_found","_law_j"]
abbrev mN:EF:=(f2 (fC<|.int 1000) (f2 (fC<|.int 10) (fC<|.int 64)<|Yj .Pow) zR)
abbrev nW:EF:=(f2 (f2 (f2 (f2 zm zk zv) zA zJ) (f2 (fC<|.int 7919) (fC<|.int 15)<|Yj .Pow) zR) zA zJ)
abbrev pW:EF:=(f2 (f2 (f2 zk zk zR) (f2 (fC<|.int 7) zk zR) zo) (fC<|.int 11) zo)
abbrev qZ:SF:=(zr true 3<|f2 zB (f2 (f2 (f2 zm (f2 zk (fP vN y4) zJ) zv) (fC<|.int 1000003) zJ) (f2 (f2 yx zk zR) zz zo) zR) zo)
abbrev pG:SF:=(zr true 3<|f2 (f2 (f2 (f2 (f2 zB zB zR) (f2 (fC<|.int 48271) zB zR) zo) (f2 (fC<|.int 69621) yN zR) zo) zk zo) (fC<|.int 2147483629) zJ)
abbrev pH:SF:=(zr true 4<|f2 (f2 zL (fC<|.int 998244353) zR) (f2 (f2 zB (fC<|.int 16807) zR) (fC<|.int 2147483587) zJ) zo)
def PB:SF:=(zi (zr true 2 mN)<|zi (xl (fT<|f2 zk (fP vN y4)<|zw .Lt) (zx nW) xj)<|zi (zr true 3 pW)<|zi (xl (fT<|f2 zm (zZ dN)<|zw .NotEq) qZ xj)<|zi (zr true 4 zP)<|zi (yL (yt (aC Gj aN) yV) (gN 5)<|zi pG pH)<|zx<|f2 zL zA zJ)
def yo:Fn:=wz 6 2 PB
noncomputable abbrev Lz:List Str:=["_law_x","_law_sizes","_law_found","_law_size"]
def V3:SF:=(zi (zr false 2<|zZ dN)<|zi (yL (Wc zk) (gN 3)<|zi (zW<|vL 2 (dC (f2 zm zB zJ) dN) ZG)<|zr true 0<|f2 zm zB zy)<|zx zA)
def yA:Fn:=wz 4 2 V3
noncomputable abbrev Mp:List Str:=["_law_x","_law_many","_law_letters","_law_size","_law_at","_law_step_here","_law_names_here","_law_k","_law_name","_law_j","_law_turn"]
abbrev px:EF:=(zg (aC zm<|aC (zZ<|dC Gj<|dC (fC<|.int 840)<|dC Gj dN) aN) yA)
abbrev o8:EF:=(f2 (zZ<|dC zP<|dC yx<|dC Zw<|dC Hw<|dC Gj<|dC (fC<|.int 10)<|dC (fC<|.int 14)<|dC (fC<|.int 16) dN) yN zv)
abbrev rB:EF:=(f2 zm (f2 (fC<|.int 53761) (f2 (f2 (fC<|.int 26) (fV 9) zR) (fV 9) zR) zo) zy)
abbrev sd:SF:=(zr true 10<|f2 (fV 10) (f2 YO (f2 yN zz zo) zR) zo)
abbrev mJ:SF:=(zr true 8<|f2 (fV 8) (f2 zA (f2 (fV 10) (fC<|.int 26) zJ) zv) zo)
def UV:SF:=(zi (zr true 2<|fC<|.str "abcdefghijklmnopqrstuvwxyz")<|zi (X1 px<|gT 3<|y6 (gN 3)<|y6 V2<|y6 (gN 5) Xn)<|zi (zr true 5 o8)<|zi (zr true 4<|f2 zL (f2 zB zz zo) zJ)<|zi (zr false 6<|zZ dN)<|zi (yL (yt xp yV) (gN 7)<|zi (zr true 8<|fC<|.str "")<|zi (yL (yt (aC (f2 zB zz zo) aN) yV) (gN 9)<|zi (zr true 10 rB)<|zi (xl (fT<|f2 (fV 9) zL<|zw .Eq) sd xj) mJ)<|zW<|vL 6 (dC (fV 8) dN) ZG)<|zx xm)
def Ym:Fn:=wz 11 2 UV
noncomputable abbrev RK:List Str:=["_law_part","_law_a","_law_b","_law_kind","_law_size"]
abbrev sA:EF:=(zZ<|dC (f2 zA yx zy)<|dC (f2 zA yx zJ) dN)
def XW:SF:=(zi (X1 zm<|gT 2<|y6 (gN 3)<|y6 V2 Xn)<|zi (xl (fT<|f2 zB zP<|zw .Eq) (zx<|f2 (f2 zk zA zo) zL zJ) xj)<|zi (xl (fT<|f2 zB zz<|zw .Eq) (zx<|fP (aC zk Zk) Rc) xj)<|zi (xl (fT<|f2 zB yx<|zw .Eq) (zx<|f2 (zZ<|dC zA<|dC zk dN) (fP (aC (f2 zA zP<|zw .Eq) aN) PH) zv) xj)<|zx<|f2 (f2 yx (f2 sA (f2 zk yx zy) zv) zR) (f2 sA (f2 zk yx zJ) zv) zo)
def vA:Fn:=wz 5 3 XW
noncomputable abbrev Rz:List Str:=["_law_part","_law_x","_law_c","_law_a","_law_kind","_law_size"]
abbrev oU:EF:=(f2 zk (f2 (zZ<|dC zz<|dC Y9<|dC (fC<|.int 9)<|dC (fC<|.int 27)<|dC (fC<|.int 81)<|dC (fC<|.int 243)<|dC (fC<|.int 729) dN) zm zv) zy)
def XT:SF:=(zi (X1 zm<|gT 2<|y6 V2<|y6 (gN 5) Xn)<|zi (xl (fT<|f2 zL zP<|zw .Eq) (zx<|f2 (f2 (f2 (f2 zk yN zJ) zB zR) (f2 (f2 (f2 zk yN zy) yN zJ) zA zR) zo) yN zJ) xj)<|zi (xl (fT<|f2 zL zz<|zw .Eq) (zx<|fP (aC (f2 yN zz xx)<|aC (fP (aC (yb (yt ZW yV) [none,some 1] x5 yP<|f2 oU Y9 zJ) aN) rS) aN) Gq) xj)<|zi (xl (fT<|f2 zL yx<|zw .Eq) (zx<|f2 (fP (aC (f2 zB zP<|zw .Gt) aN) PH) (f2 zz (f2 (f2 zk (f2 (zZ<|dC zz<|dC Hw<|dC (fC<|.int 36)<|dC (fC<|.int 216)<|dC (fC<|.int 1296)<|dC (fC<|.int 7776)<|dC (fC<|.int 46656) dN) zB zv) zy) (fP (aC zz<|aC (f2 yN zz xx) aN) Rc) zJ) zo) zR) xj)<|zi (xl (fT<|f2 (f2 zk yx zJ) zP<|zw .Eq) (zx zB) xj)<|zx<|f2 (f2 (f2 yx (f2 zz (f2 zB yx zJ) xx) zR) zz zo) (f2 zB yx zy) xx)
def xQ:Fn:=wz 6 4 XT
noncomputable abbrev N8:List Str:=["_law_x","_law_some"]
def U9:SF:=(zi (zr true 1<|zZ<|dC (zZ<|dC (yd<|dC zP<|dC Y9 dN) dN)<|dC (zZ<|dC (yd<|dC yx<|dC Y9 dN) dN)<|dC (zZ<|dC (yd<|dC zz<|dC Zw dN) dN)<|dC (zZ<|dC (yd<|dC zP<|dC yx dN)<|dC (yd<|dC yx<|dC yx dN) dN)<|dC (zZ<|dC (yd<|dC Y9<|dC Zw dN) dN)<|dC (zZ<|dC (yd<|dC yx<|dC Zw dN) dN)<|dC (zZ<|dC (yd<|dC zP<|dC yx dN)<|dC (yd<|dC zz<|dC Y9 dN) dN)<|dC (zZ<|dC (yd<|dC zP<|dC Ce dN) dN) dN)<|zi (zr true 1<|f2 zk (zZ<|dC (zZ<|dC (yd<|dC yx<|dC yx dN)<|dC (yd<|dC Y9<|dC Zw dN) dN)<|dC (zZ<|dC (yd<|dC zz<|dC yx dN)<|dC (yd<|dC yx<|dC Y9 dN) dN)<|dC (zZ<|dC (yd<|dC zP<|dC Zw dN) dN)<|dC (zZ<|dC (yd<|dC Y9<|dC Zw dN) dN)<|dC (zZ<|dC (yd<|dC zz<|dC Hw dN) dN)<|dC (zZ<|dC (yd<|dC zP<|dC yx dN)<|dC (yd<|dC Y9<|dC Zw dN) dN) dN) zo)<|zi (zr true 1<|f2 zk (zZ<|dC (zZ<|dC (yd<|dC yx<|dC (fC<|.int 7) dN) dN)<|dC (zZ<|dC (yd<|dC zP<|dC Hw dN) dN) dN) zo)<|zx<|f2 zk (f2 zm (fC<|.int 16) zJ) zv)
def Wt:Fn:=wz 2 1 U9
noncomputable abbrev MA:List Str:=["_law_parts_here","_law_value","_law_found","_law_kind","_law_size"]
def UN:SF:=(zi (zr false 2<|zZ dN)<|zi (yL (Wc zm) (gT 2<|y6 (gN 3)<|y6 V2 Xn)<|zi (zW<|vL 2 (dC (f2 zk zL zJ) dN) ZG)<|zr true 1<|f2 zk zL zy)<|zx zA)
def X7:Fn:=wz 5 2 UN
noncomputable abbrev Fm:List Str:=["_law_parts_here","_law_row_here","_law_value","_law_part","_law_one"]
abbrev tO:AF:=(aC (Yk zm oN (oS<|f1 zz GJ) rW)<|aC (Yk zk oN (oS<|f1 zz GJ) rW) aN)
abbrev nu:SF:=(zr true 2<|f2 (f2 zA (f2 zB zz zv) zR) zL zo)
def Py:SF:=(zi (zr true 2 zP)<|zi (yL (XJ tO) (gT 2<|y6 (gN 3)<|y6 V2 Xn) nu)<|zx zA)
def xI:Fn:=wz 5 2 Py
noncomputable abbrev Mv:List Str:=["_law_x","_law_n","_law_order_here","_law_k"]
abbrev pY:SF:=(zW<|vL 2 (dC (f2 zm (f2 zB zz zo) zJ)<|dC zB dN) S_)
def UZ:SF:=(zi (zr false 2<|zZ dN)<|zi (yL (yt xp yV) (gN 3)<|zi pY<|zr true 0<|f2 zm (f2 zB zz zo) zy)<|zx zA)
def Wl:Fn:=wz 4 2 UZ
noncomputable abbrev GT:List Str:=["_law_script","_law_start","_law_parts_here","_law_n","_law_m","_law_order_here","_law_values","_law_join","_law_a","_law_deeds","_law_names_here","_law_k","_law_x","_law_rows","_law_c","_law_signs","_law_nothing"]
abbrev nH:SF:=(zr true 2<|zg (aC (zg (aC zm xp) yo) aN) Wt)
abbrev o6:SF:=(zr true 3<|f2 (zg (aC zA<|aC (yb (wR zA) [none,none] (gT 2<|y6 x5<|y6 (gN 1) Xn) yP<|f2 zk zz xx) aN) xI) zz zo)
abbrev pC:SF:=(zr true 4<|f2 zz (f2 (f2 (zg (aC zm xp) yo) (fC<|.int 16) zy) Zw zJ) zo)
abbrev nI:SF:=(xl (fT<|f2 (f2 (f2 zA zP zv) zP zv) zP<|zw .Eq) (zr true 4<|f2 (f2 zA zP zv) zz zv) xj)
abbrev oG:SF:=(zr true 5<|zg (aC (zg (aC zm<|aC (f2 zk zz zo) aN) yo) ZW) Wl)
abbrev nj:SF:=(zr true 6<|yb (yt ZW yV) [none,some 2,some 5] x5 yP<|zg (aC zk<|aC (Ke .lst zA vN FD) aN) X7)
abbrev rT:GF:=(gT 3<|y6 x5<|y6 (gN 1)<|y6 (gN 2) Xn)
abbrev lU:SF:=(zW<|vL 7 (dC (yb (wR xm) [none,some 2,some 8] x5 yP<|zg (aC zk<|aC (yb (BI<|aC zk<|aC zA vN) [none,none,none] rT yP<|zg (aC zm<|aC zk Zk) vA) aN) xI) dN) ZG)
abbrev pO:SF:=(zr true 10<|zg (aC (zg (aC zm<|aC (f2 zk yx zo) aN) yo)<|aC (fC<|.int 7) aN) Ym)
abbrev qu:EF:=(zg (aC zm<|aC (f2 (f2 zk Zw zo) Pm zo) aN) yo)
abbrev k_:SF:=(zW<|vL 13 (dC (yb (wR xm) [none,some 2,some 12,some 14] x5 yP<|zg (aC zk<|aC (yb (XJ<|aC zk vN) [none,none,some 2,some 3] (gT 2<|y6 x5<|y6 (gN 1) Xn) yP<|zg (aC zm<|aC zA<|aC zB xp) xQ) aN) xI) dN) ZG)
abbrev qe:EF:=(yd<|dC (f2 (fV 10) Pm zv)<|dC (yb (wR<|fV 13) [none,some 5] x5 yP Sa) dN)
abbrev iw:SF:=(zi (zr true 12 qu)<|zi (zr false 13<|zZ dN)<|zi (yL (yt (aC zL aN) yV) (gN 14) k_)<|zW<|vL 9 (dC qe dN) ZG)
abbrev oW:SF:=(yL (yt (aC (f2 zz (f2 (zg (aC zm<|aC (f2 zk Y9 zo) aN) yo) Zw zJ) zo) aN) yV) (gN 11) iw)
abbrev oM:EF:=(f2 (zg (aC zm<|aC (f2 (f2 zk (fC<|.int 9) zo) Pm zo) aN) yo) (fC<|.int 7) zy)
abbrev nY:TF:=(fT<|f2 (f2 (f2 zk (f2 (zZ<|dC zz<|dC yx<|dC Zw<|dC Gj<|dC (fC<|.int 16)<|dC (fC<|.int 32)<|dC (fC<|.int 64)<|dC (fC<|.int 128) dN) zm zv) zy) yx zJ) zz<|zw .Eq)
abbrev jY:SF:=(zi (zr true 12 oM)<|zW<|vL 15 (dC (yd<|dC (f2 (fV 10) (f2 Zw Pm zo) zv)<|dC (yb (yt ZW yV) [none,some 12] x5 nY zm) dN) dN) ZG)
abbrev n5:SF:=(yL (yt (aC (f2 zz (f2 (zg (aC zm<|aC (f2 zk Gj zo) aN) yo) Y9 zJ) zo) aN) yV) (gN 11) jY)
abbrev oV:SF:=(zr true 16<|f2 yN (zg (aC zA<|aC (yb (wR zA) [none,none] (gT 2<|y6 x5<|y6 (gN 1) Xn) yP<|fP (aC (f2 zm Y9<|zw .Eq) aN) PH) aN) xI) zv)
abbrev pL:DF:=(dC zB<|dC zL<|dC YO<|dC (fV 16)<|dC (fV 9)<|dC (fV 15) dN)
def Vm:SF:=(zi nH<|zi o6<|zi pC<|zi nI<|zi oG<|zi nj<|zi (zr false 7<|zZ dN)<|zi (yL (Wc xm) (gN 8) lU)<|zi (zr false 7<|yb (wR YO) [none,some 5] x5 yP Sa)<|zi (zr false 9<|zZ dN)<|zi pO<|zi oW<|zi (zr false 15<|zZ dN)<|zi n5<|zi oV<|zx<|yd pL)
def Yt:Fn:=wz 17 2 Vm
noncomputable abbrev Ry:List Str:=["_law_script","_law_cells","_law_odd","_law_n","_law_m","_law_deeds","_law_signs","_law_nothing","_law_names_here","_law_table","_law_join","_law_told","_law_k","_law_rows","_law_held","_law_bits"]
abbrev nr:EF:=(f2 (fC<|.int 12) (fP (aC (Yk zm oN (oS<|fC<|.int 12) YF) aN) y4) xx)
abbrev jV:EF:=(f2 (yb (wR<|Yk zm oN (oS<|fC<|.int 12) YF) [none] x5 yP zm) (f2 (zZ<|dC zP dN) nr zR) zo)
abbrev og:EF:=(zg (aC (f2 zk zP zv)<|aC (zZ<|dC yx<|dC Gj<|dC Hw<|dC (fC<|.int 7)<|dC Ce<|dC Gj dN) aN) yA)
abbrev nQ:SF:=(X1 og<|gT 6<|y6 (gN 2)<|y6 (gN 3)<|y6 V2<|y6 (gN 5)<|y6 (gN 6)<|y6 (gN 7) Xn)
abbrev oZ:SF:=(zr true 8<|zg (aC (zg (aC zm<|aC (fC<|.int 12) aN) yo)<|aC (fC<|.int 10) aN) Ym)
abbrev pJ:SF:=(zr true 9<|zg (aC (f2 zk zz zv)<|aC (f2 (zZ<|dC zB dN) (f2 zB zB zR) zR) aN) yA)
abbrev nZ:EF:=(Yk zk (oS<|f2 zA zm zR) (oS<|f2 (f2 zA zm zR) zA zo) YF)
abbrev oB:SF:=(zr true 10<|yb (yt ZW yV) [none,some 9,some 3] x5 yP nZ)
abbrev kx:SF:=(zi (zr true 13<|zg (aC (f2 zk (f2 yx (fV 12) zo) zv)<|aC (f2 (zZ<|dC zB dN) (f2 zB zL zR) zR) aN) yA)<|zW<|vL 11 (dC (yd<|dC (f2 (fV 8) (fV 12) zv)<|dC (yb (yt (aC zL aN) yV) [none,some 13,some 3] x5 yP nZ) dN) dN) ZG)
abbrev kr:SF:=(zi (zr true 15<|zg (aC (f2 zk (f2 Gj (fV 12) zo) zv)<|aC (f2 (zZ<|dC yx dN) zB zR) aN) yA)<|zW<|vL 14 (dC (yd<|dC (f2 (fV 8) (f2 (fC<|.int 9) (fV 12) xx) zv)<|dC (yb (yt ZW yV) [none,some 15] x5 (fT<|f2 (f2 zk zm zv) zz<|zw .Eq) zm) dN) dN) ZG)
abbrev qW:DF:=(dC zB<|dC zL<|dC (fV 10)<|dC (f2 YO zB zJ)<|dC Pm<|dC (fV 14) dN)
def Xw:SF:=(zi (zr true 1 jV)<|zi nQ<|zi (zr true 3<|f2 zB zz zo)<|zi (zr true 4<|f2 zL zz zo)<|zi oZ<|zi pJ<|zi oB<|zi (zr false 11<|zZ dN)<|zi (yL (yt O2 yV) (gN 12) kx)<|zi (zr false 14<|zZ dN)<|zi (yL (yt (aC xm aN) yV) (gN 12) kr)<|zx<|yd qW)
def w6:Fn:=wz 16 1 Xw
noncomputable abbrev M_:List Str:=["_law_m","_law_join","_law_rows","_law_a","_law_b","_law_i","_law_j","_law_one","_law_other"]
abbrev lH:SF:=(zi (zr true 7<|f2 (f2 zA (f2 (f2 yN xm zo) zm zJ) zv) (f2 (f2 zk zB zv) zL zv) zv)<|zi (zr true 8<|f2 (f2 zk (f2 (f2 zA yN zv) zB zv) zv) (f2 (f2 zA xm zv) zL zv) zv)<|xl (fT<|f2 YO (fV 8)<|zw .NotEq) (zx<|fC<|.bl false) xj)
def P9:SF:=(zi (yL (yt vN yV) (gN 5)<|yL (yt vN yV) (gN 6) lH)<|zx<|fC<|.bl true)
def Vv:Fn:=wz 9 5 P9
noncomputable abbrev GN:List Str:=["_law_algebra_here","_law_n","_law_m","_law_join","_law_nothing","_law_deeds","_law_signs","_law_p","_law_a","_law_b","_law_name","_law_rows","_law_empty"]
abbrev AJ:SF:=(X1 zm<|gT 6<|y6 (gN 1)<|y6 (gN 2)<|y6 (gN 3)<|y6 V2<|y6 (gN 5)<|y6 (gN 6) Xn)
abbrev mh:SF:=(X1 (fP (aC YO xp) J5)<|gT 2<|y6 (gN 8)<|y6 (gN 9) Xn)
abbrev qd:SF:=(xl (ZP<|fT<|zg (aC zA<|aC zB<|aC Pm<|aC (fV 8)<|aC (fV 9) aN) Vv) (zx<|fC<|.bl false) xj)
abbrev jR:SF:=(zi mh<|zi (xl (Gv (fT<|f2 (f2 (f2 zB zL zv) (fV 8) zv) (fV 8)<|zw .NotEq)<|fT<|f2 (f2 (f2 zB (fV 8) zv) zL zv) (fV 8)<|zw .NotEq) (zx<|fC<|.bl false) xj)<|zi (xl (fT<|f2 (f2 zB (f2 (f2 zB (fV 8) zv) (fV 9) zv) zv) (yb (wR<|f2 zB (fV 9) zv) [none,some 3,some 8] x5 yP<|f2 (f2 zk zA zv) zm zv)<|zw .NotEq) (zx<|fC<|.bl false) xj)<|yL (Wc yN) (gT 2<|y6 (gN 10)<|y6 (gN 11) Xn) qd)
def Vh:SF:=(zi AJ<|zi (yL (yt (aC (f2 zk zk zR) aN) yV) (gN 7) jR)<|zi (zr true 12<|yb (wR yN) [none,none,some 4] (gT 2<|y6 x5<|y6 (gN 1) Xn) (fT<|f2 (f2 (f2 zk zP zv) zA zv) zA<|zw .NotEq) zm)<|zx<|RP (f2 (fV 12) (zZ dN)<|zw .Eq)<|RP (f2 yN (zZ dN)<|zw .NotEq)<|f2 xm (zZ dN)<|zw .NotEq)
def YE:Fn:=wz 13 1 Vh
noncomputable abbrev Sq:List Str:=["_law_script","_law_algebra_here"]
abbrev nV:TF:=(Bz (fT<|f2 (fP vN y4) zP<|zw .Gt)<|fT<|f2 (f2 (f2 zm zP zv) yx zJ) zz<|zw .Eq)
def G9:SF:=(zi (xl nV (zi (zr true 1<|zg vN w6)<|xl (fT<|zg xp YE) (zx zk) xj) xj)<|zx<|zg (aC zm<|aC zP aN) Yt)
def WW:Fn:=wz 2 1 G9
noncomputable abbrev EA:List Str:=["_law_algebra_here","_law_n","_law_m","_law_join","_law_nothing","_law_deeds","_law_signs"]
abbrev mH:SF:=(zr true 5<|yb (wR yN) [none,none] (gT 2<|y6 x5<|y6 (gN 1) Xn) yP<|yd<|dC zm<|dC (yb (wR zk) [none] x5 yP<|fP vN lstP) dN)
def T4:SF:=(zi AJ<|zi mH<|zx<|yd<|dC zk<|dC zA<|dC (yb (wR zB) [none] x5 yP<|fP vN lstP)<|dC zL<|dC yN<|dC (yb (wR xm) [none,none] (gT 2<|y6 x5<|y6 (gN 1) Xn) yP<|yd<|dC zm<|dC (fP xp lstP) dN) dN)
def Y8:Fn:=wz 7 1 T4
noncomputable abbrev Fi:List Str:=["_law_algebra_here","_law_name","_law_row_here","_law_rows"]
def Ti:SF:=(zi (zr true 3<|f2 (fP (aC (f2 zm Zw zv) aN) Pn) zk zv)<|zx<|yb (wR zA) [none,some 3,some 0] x5 yP<|f2 (f2 zk (f2 zz (f2 zA zz zv) zJ) zv) zm zv)
def Xi:Fn:=wz 4 3 Ti
noncomputable abbrev Sm:List Str:=["_law_x","_law_n","_law_most","_law_many"]
abbrev o4:TF:=(fT<|f2 (f2 (f2 zm (fC<|.int 64) zy) Gj zJ) zz<|zw .Eq)
abbrev qK:SF:=(xl o4 (zr true 3<|f2 (fC<|.int 20) (f2 (f2 zm (fC<|.int 512) zy) (fC<|.int 40) zJ) zo) xj)
def Kn:SF:=(zi (zr true 3<|f2 zm (f2 zA zz zo) zJ)<|zi qK<|zx<|zg (aC (f2 zm (fC<|.int 32768) zy)<|aC (f2 (zZ<|dC zk dN) zB zR) aN) yA)
def Q4:Fn:=wz 4 3 Kn
noncomputable abbrev RR:List Str:=["_law_found","_law_due"]
def XU:SF:=(zx<|RP (QX zm "int")<|RP (SV<|QX zm "bool")<|f2 zm zk<|zw .Eq)
def ZJ:Fn:=wz 2 2 XU
noncomputable abbrev Lm:List Str:=["_law_x","_law_many","_law_one","_law_other","_law_kind"]
def Qo:SF:=(zi (X1 (zg (aC zm<|aC (zZ<|dC (fC<|.int 27720)<|dC (fC<|.int 27720)<|dC Ce dN) aN) yA)<|gT 3<|y6 (gN 2)<|y6 (gN 3)<|y6 V2 Xn)<|zi (zr true 2<|f2 zA (f2 zk zz zo) zJ)<|zi (zr true 3<|f2 zB (f2 zk zz zo) zJ)<|zi (xl (fT<|f2 zL zP<|zw .Eq) (zx<|yd<|dC zP<|dC zk dN) xj)<|zi (xl (fT<|f2 zL zz<|zw .Eq) (zx<|yd<|dC zA<|dC (fP (aC (f2 zA zz zo) xp) Gq) dN) xj)<|zx<|yd<|dC (fP (aC zA ZW) Gq)<|dC (fP (aC zA ZW) Rc) dN)
def Xa:Fn:=wz 5 2 Qo
noncomputable abbrev QL:List Str:=["_law_algebra_here","_law_walk","_law_one","_law_other","_law_value"]
abbrev uF:TF:=(Gv (ZP<|fT<|QX zk "tuple")<|fT<|f2 (fP xp y4) (yd<|dC zz<|dC Y9 dN)<|zw .NotIn)
abbrev qL:TF:=(Gv (fT<|QX (f2 zk zP zv) "bool")<|ZP<|fT<|QX (f2 zk zP zv) "int")
abbrev pQ:TF:=(Gv (fT<|f2 zA (fC .non)<|zw .Is)<|Gv (fT<|f2 zB (fC .non)<|zw .Is)<|fT<|f2 (fP (aC (f2 (f2 zA yx zv) (f2 zB yx zv) xx) aN) Jr) zz<|zw .Gt)
abbrev nh:TF:=(ZP<|fT<|zg (aC (f2 zk zP zv)<|aC zL aN) ZJ)
def Qt(self:Fn):SF:=(zi (xl uF (zx<|fC .non) xj)<|zi (xl (fT<|f2 (fP xp y4) zz<|zw .Eq) (zi (xl qL (zx<|fC .non) xj)<|zx<|yd<|dC (zZ<|dC (f2 zk zP zv) dN)<|dC (f2 zk zP zv)<|dC zP dN) xj)<|zi (zr true 2<|zg (aC zm<|aC (f2 zk zz zv) aN) self)<|zi (zr true 3<|zg (aC zm<|aC (f2 zk yx zv) aN) self)<|zi (xl pQ (zx<|fC .non) xj)<|zi (zr true 4<|f2 (f2 (f2 zm yx zv) (f2 zA zz zv) zv) (f2 zB zz zv) zv)<|zi (xl nh (zx<|fC .non) xj)<|zx<|yd<|dC (f2 (f2 zA zP zv) (f2 zB zP zv) zo)<|dC zL<|dC (f2 zz (fP (aC (f2 zA yx zv)<|aC (f2 zB yx zv) aN) Rc) zo) dN)
def vO:Nat->Fn
 |0=>λ_=>none
 |n+1=>wz 5 2<|Qt<|vO n
noncomputable abbrev N0:List Str:=["_law_algebra_here","_law_walk","_law_row_here","_law_found"]
def UY:SF:=(zi (xl (fT<|f2 zA (zZ dN)<|zw .Eq) (zx<|RP (QX zk "tuple")<|f2 zk (yd dN)<|zw .Eq) xj)<|zi (zr true 3<|zg (aC zm xp)<|vO 20)<|zx<|RP (f2 zB (fC .non)<|zw .IsNot)<|f2 (f2 zB zP zv) zA<|zw .Eq)
def wo:Fn:=wz 4 3 UY
noncomputable abbrev Rv:List Str:=["self","make"]
abbrev rf:EF:=(fP (aC (f1 zm<|z_ wZ "trees") aN) y4)
def XI:SF:=(zi (xl (ZP<|fT<|zg (aC zk<|aC zP<|aC (f2 rf zz xx) aN) vH) IE xj)<|zx<|f2 (f1 zm<|z_ wZ "trees") zk zv)
def yK:Fn:=wz 2 2 XI
def y2:List (Str×Fn):=[("Makes",yK)]
noncomputable abbrev Vc:List Str:=["self","make","i","j","tree","pair","ahead"]
abbrev mE:SF:=(zW<|zg (aC zA<|aC zP<|aC (zg (aC zL aN) xu) aN) xo)
def ZN:SF:=(zi (zr true 4<|Yc y2 "tree_at" zm xp)<|zi mE<|zi (zW<|zg (aC zB<|aC zA<|aC (zg (aC zL aN) xu) aN) xo)<|zi (zr true 5<|zg (aC (f1 zm<|z_ yB "way")<|aC zL ZW)<|xC 20)<|zi (zr true 6<|zg (aC (f1 zm<|z_ yB "way")<|aC (f2 yN zP zv) Zk)<|xC 20)<|zx<|yd<|dC (f2 xm zP zv)<|dC (f2 xm zz zv)<|dC (f2 yN zz zv) dN)
def yM:Fn:=wz 7 4 ZN
noncomputable abbrev QN:List Str:=["self","tree"]
def ZR:VF:=(Yl (pM 0 1 wZ "trees")<|VY<|f2 (qD 0 wZ "trees") zz xx)
def yi:List wG->O->Option (D×O):=IG 2 2 ZR
noncomputable abbrev Pr:List Str:=["self","thing"]
def WG:SF:=(zx<|RP (QX zk "str")<|f2 zk (f1 zm<|z_ YX "waits")<|zw .In)
def Yg:Fn:=wz 2 2 WG
noncomputable abbrev Tp:List Str:=["self","deed"]
def WJ:SF:=(zx<|f2 (f1 zm<|z_ YX "waits") zk zv)
def Z7:Fn:=wz 2 2 WJ
noncomputable abbrev YY:List Str:=["self","ahead","stretch","rest"]
def Zc:SF:=(zx<|Sd<|zg (aC (f1 zm<|z_ yB "way")<|aC (zg (aC (f1 zm<|z_ yB "way")<|aC zk Zk)<|yk 20) ZW)<|yk 20)
def zG:Fn:=wz 4 4 Zc
def xf:List (Str×Fn):=[("Makes",zG)]
def Vx:List (Str×Fn):=[("Ways",Z7)]
def VB:List (Str×Fn):=[("Ways",Yg)]
def Z8:List (Str×Fn):=[("Makes",yM)]
noncomputable abbrev QO:List Str:=["self","make","i","j","deed","parts","stretch"]
abbrev Sj:EF:=(xB 0 Z8 "three_parts" (aC zk<|aC zA ZW))
abbrev pe:EF:=(xB 0 xf "three_together" (aC (f2 yN zP zv)<|aC xm<|aC (f2 yN yx zv) aN))
def QP:VF:=(Yl (zr true 5 Sj)<|Yl (xl (ZP<|fT<|Yc VB "is_deed" (LN 0 yB "way")<|aC zL aN) IE xj)<|Yl (zr true 6<|zg (aC (LN 0 yB "way")<|aC (f2 yN zz zv)<|aC (Yc Vx "wait_of" (LN 0 yB "way")<|aC zL aN) aN) Zp)<|VY<|vK 0 "Makes" "keep" yi<|aC pe aN)
def Za:List wG->O->Option (D×O):=IG 7 5 QP
noncomputable abbrev WH:List Str:=["self","make","i","j","parts"]
abbrev nC:EF:=(xB 0 xf "three_together" (aC (f2 zL zP zv)<|aC (zg (aC (LN 0 yB "way")<|aC (f2 zL zz zv) aN) wQ)<|aC (f2 zL yx zv) aN))
def Wb:VF:=(Yl (zr true 4 Sj)<|VY<|vK 0 "Makes" "keep" yi<|aC nC aN)
def wb:List wG->O->Option (D×O):=IG 5 4 Wb
noncomputable abbrev U6:List Str:=["self","make","i","j","parts","stretch"]
abbrev pU:DF:=(dC (vK 0 "Makes" "keep" yi<|aC (zg (aC (LN 0 yB "way")<|aC (f2 zL zP zv)<|aC (f2 zL yx zv) aN)<|yk 20) aN) dN)
def UG:VF:=(Yl (zr true 4 Sj)<|Yl (zr true 5<|vK 0 "Makes" "keep" yi<|aC (f2 zL zz zv) aN)<|VY<|yd<|dC yN pU)
def Zy:List wG->O->Option (D×O):=IG 6 4 UG
noncomputable abbrev Wu:List Str:=["self","make","i","other","tree","second","pair"]
abbrev uS:EF:=(zg (aC (f2 (zg (aC zL aN) xu) (zg O2 xu) zo) aN) wK)
abbrev p_:EF:=(xB 0 xf "three_together" (aC (f2 xm zP zv)<|aC yN<|aC (f2 xm zz zv) aN))
def Wp:VF:=(Yl (zr true 4<|xB 0 y2 "tree_at" xp)<|Yl (zr true 5<|xB 0 y2 "tree_at" ZW)<|Yl mE<|Yl (zW uS)<|Yl (zr true 6<|zg (aC (LN 0 yB "way")<|aC zL Zk)<|xC 20)<|VY<|vK 0 "Makes" "keep" yi<|aC p_ aN)
def x6:List wG->O->Option (D×O):=IG 7 4 Wp
noncomputable abbrev RB:List Str:=["self","thing"]
def XC:SF:=(zx<|zg (aC zk<|aC zP<|aC (f2 (f1 zm<|z_ wO "size") zz xx) aN) vH)
def ZE:Fn:=wz 2 2 XC
def U4:List (Str×Fn):=[("Ways",ZE)]
noncomputable abbrev Vb:List Str:=["self","thing"]
def wU:SF:=(xl (ZP<|fT<|Yc U4 "is_value" (f1 zm<|z_ yB "way") xp) IE xj)
def yO:Fn:=wz 2 2 wU
def xt:List (Str×Fn):=[("Makes",yO)]
noncomputable abbrev Xu:List Str:=["self","make","i","value","tree","parts"]
abbrev q8:EF:=(xB 0 Z8 "three_parts" (aC zk<|aC zA<|aC (f2 zA zz zo) aN))
abbrev nF:EF:=(xB 0 xf "three_together" (aC (f2 yN zP zv)<|aC (zg (aC (LN 0 yB "way")<|aC (zZ<|dC zB dN) aN)<|vI 20)<|aC (f2 yN yx zv) aN))
def XG:VF:=(Yl (zr true 4<|xB 0 y2 "tree_at" xp)<|Yl (zW<|zg (aC zA<|aC zP<|aC (f2 (zg (aC zL aN) xu) zz xx) aN) xo)<|Yl (zW<|xB 0 xt "check_value" ZW)<|Yl (zr true 5 q8)<|VY<|vK 0 "Makes" "keep" yi<|aC nF aN)
def xS:List wG->O->Option (D×O):=IG 6 4 XG
noncomputable abbrev PX:List Str:=["_law_algebra_here","_law_makes","_law_rows","_law_x","_law_row_here","_law_make","_law_i","_law_j","_law_name","_law_left","_law_at"]
abbrev qA:SF:=(X1 (zg (aC (f2 zB (fC<|.int 1000) zy)<|aC (fP (aC zL aN) y4) aN) Xa)<|gT 2<|y6 (gN 6)<|y6 (gN 7) Xn)
abbrev qX:SF:=(zr true 8<|f2 (f2 (f2 zm Zw zv) (f2 (f2 zB (fC<|.int 7) zy) (fP (aC (f2 zm Zw zv) aN) y4) zJ) zv) zP zv)
abbrev nB:EF:=(f2 (f2 (Yk zL oN (oS xm) YF) (Yk (Yk zL (oS xm) (oS YO) YF) oN (oS<|f1 zz GJ) rW) zo) (Yk zL (oS YO) oN YF) zo)
abbrev q_:EF:=(f2 (Yk zL oN (oS xm) YF) (Yk zL (oS YO) oN YF) zo)
abbrev o5:EF:=(f2 (f2 (Yk (fV 9) oN (oS<|fV 10) YF) (Yk zL (oS xm) (oS YO) YF) zo) (Yk (fV 9) (oS<|fV 10) oN YF) zo)
abbrev Dj:EF:=(f2 (f2 zB Ce zy) (f2 zm zP zv) zJ)
def Z9:SF:=(zi (zr true 4<|f2 zA (f1 zz GJ) zv)<|zi (zr true 5<|f2 (fP Zk y4) zz xx)<|zi qA<|zi qX<|xl (fT<|f2 (f2 zB Zw zJ) zP<|zw .Eq) (zi (zW<|vL 2 (dC (Sd<|f2 (f2 (Yk zL oN (oS xm) YF) (zg (aC zm<|aC (fV 8)<|aC (Yk zL (oS xm) (oS YO) YF) aN) Xi) zo) (Yk zL (oS YO) oN YF) zo) dN) ZG)<|zW<|vK 1 "Makes" "done" Za<|aC yN<|aC xm<|aC YO<|aC (fV 8) aN)<|xl (fT<|f2 (f2 zB Zw zJ) zz<|zw .Eq) (zi (zW<|vL 2 (dC (Sd nB) dN) ZG)<|zW<|vK 1 "Makes" "turned" wb<|aC yN<|aC xm qM)<|xl (fT<|f2 (f2 zB Zw zJ) yx<|zw .Eq) (zi (zr true 9 q_)<|zi (zr true 10<|f2 (f2 zB (fC<|.int 77) zy) (f2 (fP (aC (fV 9) aN) y4) zz zo) zJ)<|zi (zW<|vL 2 (dC (zZ<|dC (Sd<|Yk zL (oS xm) (oS YO) YF)<|dC (fV 9)<|dC (Sd o5) dN) dN) S4)<|zi (zW<|vK 1 "Makes" "cut" Zy<|aC yN<|aC xm qM)<|zW<|vK 1 "Makes" "put_in" x6<|aC (f2 yN yx zo)<|aC (fV 10)<|aC (f2 yN zz zo) aN)<|xl (fT<|f2 xm (fP (aC zL aN) y4)<|zw .Lt) (zi (zW<|vL 2 (dC (Sd<|f2 (f2 (Yk zL oN (oS xm) YF) (zZ<|dC (Sd Dj) dN) zo) (Yk zL (oS<|f2 xm zz zo) oN YF) zo) dN) ZG)<|zW<|vK 1 "Makes" "changed" xS<|aC yN<|aC xm<|aC Dj aN) xj)
def wB:List wG->O->O->Option (D×O×O):=jO 1 11 4<|Sz Z9
noncomputable abbrev YR:List Str:=["self","way"]
def YI:Sg:=(Zv (X2 0 yB "way" zk)<|DB 0 wZ "trees" (zZ dN))
def xv(c:Str):Fn:=rY c 2 2 YI
noncomputable abbrev QD:List Str:=["self","row","value"]
def ZT:VF:=(Yl (xl (ZP<|fT<|QX zk "list") IE xj)<|Yl (yL (Wc zk) (gN 2)<|zW<|xB 0 xt "check_value" Zk)<|Yl (zW<|zg (aC (fP xp y4) aN) wK)<|VY<|vK 0 "Makes" "keep" yi<|aC (zg (aC (LN 0 yB "way") xp)<|vI 20) aN)
def vV:List wG->O->Option (D×O):=IG 3 2 ZT
noncomputable abbrev vB:List Str:=["self","algebra"]
def Z4:(["name","rows"]:List Str).Nodup:=by decide +kernel
def Yh:(["name","values"]:List Str).Nodup:=by decide +kernel
abbrev pS:EF:=(fP (aC (yb (wR<|f2 zk Zw zv) [none,none] (gT 2<|y6 x5<|y6 (gN 1) Xn) yP<|yd<|dC zm<|dC (zg xp K6) dN) aN) Pn)
abbrev mW:EF:=(fP (aC (yb (wR<|f2 zk Ce zv) [none,none] (gT 2<|y6 x5<|y6 (gN 1) Xn) yP<|yd<|dC zm<|dC (fP xp tupP) dN) aN) Pn)
def ZC:Sg:=(Zv (JB<|zg xp vQ)<|Zv (X2 0 wO "size" (f2 zk zP zv))<|Zv (X2 0 W4 "around" (f2 zk zz zv))<|Zv (X2 0 Po "table" (zg (aC (f2 zk yx zv) aN) K6))<|Zv (X2 0 Px "neutral" (f2 zk Y9 zv))<|Zv (X2 0 YX "waits" pS)<|X2 0 PM "holders" mW)
def xR(c:Str):Fn:=rY c 2 2 ZC
noncomputable abbrev Nk:List Str:=["self","make"]
def Qu:SF:=(zx<|zg (aC (f1 zm<|z_ yB "way")<|aC (Yc y2 "tree_at" zm xp) aN)<|ZX 20)
def vS:Fn:=wz 2 2 Qu
def Qe:List (Str×Fn):=[("Makes",vS)]
noncomputable abbrev Bi:List Str:=["_law_script","_law_algebra_here","_law_makes","_law_row_here","_law_rows","_law_k","_law_make"]
abbrev pK:TF:=(fT<|f2 (f2 (f2 (zg (aC zm<|aC (fC<|.int 13) aN) yo) (fC<|.int 11) zy) (fC<|.int 16) zJ) zz<|zw .Eq)
abbrev mC:SF:=(zr true 3<|Yk (f2 (f2 zB (zZ<|dC zP dN) zo) (f2 (fP (aC (f2 zk zP zv) aN) qc) (fC<|.int 150) zR) zo) oN (oS<|fC<|.int 300) YF)
abbrev pA:AF:=(aC (fC<|.int 14)<|aC (fP (aC (fC<|.int 22)<|aC (fP (aC (fP vN y4)<|aC (fC<|.int 40) aN) Gq) aN) Rc) aN)
abbrev oh:SF:=(zW<|T_ 1 2 4 (aC zk<|aC zA<|aC zL<|aC (zg (aC zm O2) yo) aN) wB)
abbrev qz:SF:=(xl (ZP<|fT<|zg (aC zk<|aC (xB 2 Qe "walk" (aC (f2 (fP (aC zL aN) y4) zz xx) aN))<|aC (f2 zL (f1 zz GJ) zv) aN) wo) (zx<|fC<|.bl false) xj)
abbrev ky:AF:=(aC zP<|aC (fP (aC zL aN) y4)<|aC (f2 zz (f2 (fP (aC zL aN) y4) Gj zy) zo) aN)
abbrev m3:SF:=(xl (ZP<|fT<|zg (aC zk<|aC (xB 2 Qe "walk" (aC xm aN))<|aC (f2 zL xm zv) aN) wo) (zx<|fC<|.bl false) xj)
def Du:SF:=(zi (zr true 1<|zg vN WW)<|zi (zr false 2<|zg (aC (zg (aC (zg xp Y8) aN)<|xR "Ways") aN)<|xv "Makes")<|zi (zr true 3<|zg (aC (zg (aC zm<|aC (fC<|.int 13) aN) yo)<|aC (f2 zk zP zv)<|aC (fC<|.int 11) aN) Q4)<|zi (xl pK mC xj)<|zi (zr false 4<|zZ<|dC zB dN)<|zi (zW<|vK 2 "Makes" "made" vV<|aC (fP ZW lstP) aN)<|zi (yL (yt pA J8) (gN 5)<|zi oh qz)<|zi (yL (yt ky OS) (gN 6) m3)<|zx<|fC<|.bl true)
def KB:Fn:=wz 7 1 Du
set_option genInjectivity false in
set_option genSizeOf false in
structure Txt(P:Program)(w:World)(K:zzA)(mg:Str->Option Value)(base:Heap)(kd:KD):Prop where
 hkd:qb P w K kd
 ED:Fq K mg "is_whole" Tx
 MN:Fq K mg "is_within" UP
 RM:Fq K mg "nothing_fails" Xx
 Re:Fq K mg "parting_fails" XX
 Gp:Fq K mg "doing_fails" Vu
 LX:Fq K mg "deeds_fail" Qk
 Nw:Fq K mg "what_fails" QH
 T6:Fq K mg "check_let_by" Wo
 SU:Fq K mg "leaf_of" Kw
 SA:Fq K mg "knot_of" GV
 G5:Fq K mg "tree_of" GX
 SR:Fq K mg "size_of" Kr
 Ls:Fq K mg "both_waits" VT
 FJ:Fq K mg "done_all" Pp
 LB:Fq K mg "turned_all" QC
 Ea:Fq K mg "parts_of" P1
 KS:Fq K mg "walk_of" Ks
 GG:Fq K mg "leaned_left" Ve
 Ga:Fq K mg "leaned_right" WU
 Ip:Fq K mg "evened" N9
 Ww:Fq K mg "put_together" Wq
 UT:Fq K mg "parted_at" UQ
 Gs:Fq K mg "check_place" Vr
 Nc:Fq K mg "check_size" VS
 sX:Fq K mg "firm" Cw
 FF:Fq K mg "_law_draw" Te
 LI:Fq K mg "_law_digits" VR
 Mw:Fq K mg "_law_names" UM
 RN:Fq K mg "_law_part_join" XD
 Rx:Fq K mg "_law_part_done" XE
 NM:Fq K mg "_law_parts" US
 NX:Fq K mg "_law_split" UD
 EZ:Fq K mg "_law_laid" Th
 MD:Fq K mg "_law_order" U1
 Gr:Fq K mg "_law_algebra" Vj
 RO:Fq K mg "_law_by_digits" XF
 Fw:Fq K mg "_law_does" TM
 GM:Fq K mg "_law_is_good" Vk
 SY:Fq K mg "_law_any" Ko
 Fs:Fq K mg "_law_copy" PU
 FA:Fq K mg "_law_deed" Gf
 He:Fq K mg "_law_row" KG
 RH:Fq K mg "_law_is_number" XS
 Lr:Fq K mg "_law_places" Qm
 Qw:Fq K mg "_law_walked" VX
 Mf:Fq K mg "_law_right" U5
 EB:Fq K mg "_law_step" Pq
 qC:Fq K mg "law" F7
 Xg:CI K kd mg "Knot" (kd.c "Knot")
 xM:CI K kd mg "Makes" (kd.c "Makes")
 Zl:CI K kd mg "Ways" (kd.c "Ways")
 Rg:Mq K kd "Knot" "__init__" "Knot.__init__" XB
 Md:Mq K kd "Ways" "join" "Ways.join" U3
 GE:Mq K kd "Ways" "behind" "Ways.behind" Vg
 MM:Mq K kd "Ways" "made" "Ways.made" UH
 RI:Mq K kd "Makes" "tree_at" "Makes.tree_at" XR
 Va:Mq K kd "Makes" "three_parts" "Makes.three_parts" ZO
 Ng:Mq K kd "Makes" "keep" "Makes.keep" QT
 PJ:Mq K kd "Ways" "is_deed" "Ways.is_deed" WC
 P_:Mq K kd "Ways" "wait_of" "Ways.wait_of" WI
 Y5:Mq K kd "Makes" "three_together" "Makes.three_together" Zd
 Nd:Mq K kd "Makes" "done" "Makes.done" QF
 PD:Mq K kd "Makes" "turned" "Makes.turned" Wr
 NL:Mq K kd "Makes" "cut" "Makes.cut" U0
 TN:Mq K kd "Makes" "put_in" "Makes.put_in" X_
 RS:Mq K kd "Ways" "is_value" "Ways.is_value" Xy
 Vd:Mq K kd "Makes" "check_value" "Makes.check_value" ZM
 RD:Mq K kd "Makes" "changed" "Makes.changed" Xz
 Ui:Mq K kd "Makes" "__init__" "Makes.__init__" YS
 Lu:Mq K kd "Makes" "made" "Makes.made" V1
 Rm:Mq K kd "Ways" "__init__" "Ways.__init__" w9
 K3:Mq K kd "Makes" "walk" "Makes.walk" Qz
 ND:yJ K (kd.c "Knot") "whole"
 MZ:yJ K (kd.c "Knot") "back"
 NO:yJ K (kd.c "Knot") "wait"
 NS:yJ K (kd.c "Knot") "turn"
 ES:yJ K (kd.c "Knot") "one"
 L9:yJ K (kd.c "Knot") "other"
 M6:yJ K (kd.c "Knot") "deep"
 Ml:yJ K (kd.c "Knot") "size"
 NT:yJ K (kd.c "Ways") "size"
 NB:yJ K (kd.c "Ways") "table"
 Gn:yJ K (kd.c "Ways") "around"
 GS:yJ K (kd.c "Makes") "trees"
 N7:yJ K (kd.c "Makes") "way"
 L8:yJ K (kd.c "Ways") "waits"
 Pw:yJ K (kd.c "Ways") "neutral"
 TL:yJ K (kd.c "Ways") "holders"
 Gx:GC K kd mg "MOST_IN_ROW" (.int 300)
 m7:mg "abs"=none
 OD:mg "bool"=none
 E6:mg "dict"=none
 CU:mg "divmod"=none
 Ij:mg "int"=none
 xh:mg "isinstance"=none
 Zx:mg "len"=none
 Pz:mg "list"=none
 BN:mg "max"=none
 D5:mg "min"=none
 Xj:mg "range"=none
 pj:mg "str"=none
 oJ:mg "sum"=none
 R_:mg "tuple"=none
 OJ:mg "zip"=none
abbrev Ct{P:Program}{w:World}{K:zzA}{mg:Str->Option Value}{base:Heap}{kd:KD}(_:Txt P w K mg base kd)(x:Str)(k:Nat)(m:Fn):Prop:=Cn x P w K mg base k<|V4 K kd m
abbrev Cz{P:Program}{w:World}{K:zzA}{mg:Str->Option Value}{base:Heap}{kd:KD}(_:Txt P w K mg base kd)(c m:Str)(k:Nat)(sp:Sp):Prop:=Cm c m P w K mg base kd k sp
abbrev Tm{P:Program}{w:World}{K:zzA}{mg:Str->Option Value}{base:Heap}{kd:KD}(_:Txt P w K mg base kd)(m:Str)(k:Nat)(tb:List (Str×Fn)):Prop:=MT P w K mg base kd m k tb
abbrev Ts{P:Program}{w:World}{K:zzA}{mg:Str->Option Value}{base:Heap}{kd:KD}(_:Txt P w K mg base kd)(m:Str)(k:Nat)(c:Str)(g:List wG->O->Option (D×O)):Prop:=MS P w K mg base kd m k c g
abbrev Cs{P:Program}{w:World}{K:zzA}{mg:Str->Option Value}{base:Heap}{kd:KD}(_:Txt P w K mg base kd)(x:Str)(k:Nat)(sp:Sp):Prop:=Cn x P w K mg base k sp
set_option maxHeartbeats 8000000
def gF(T r:Lean.Ident)(w:List String):Lean.MacroM (Lean.TSyntax `tactic):=do
 let a <-(w.drop 1).toArray.mapM λx=>match x with | "?"=>`(?_) | "="=>`(rfl) | "_"=>`(_) | "R"=>`($r) | "h"=>`(Txt.hkd $T) | "a"=>`(by assumption) | "d"=>`(by decide) | "f"=>`(λ_=>rfl) | "v"=>`(pv _) | "o"=>`(($r).mono (by omega)) | "b"=>`(Bt.n _ rfl) | "H"=>`(Txt.hkd $T _ rfl rfl rfl)|x=>let n:Lean.Ident:=Lean.mkIdent (((x.replace "@" "").replace "%" "").replace "!" "").toName;if x.startsWith "@" then `(($n $T))else if x.startsWith "%" then `(($n (Txt.hkd $T _ rfl rfl rfl)))else if x.startsWith "!" then `(($n rfl))else return n
 `(tactic| (refine $(Lean.mkIdent (w.headD "").toName) $a* <;> trivial))
def i8(l:List (Lean.TSyntax `tactic)):Lean.MacroM (Lean.TSyntax `tactic):=do l.foldrM (λa b=>`(tactic| first | $a:tactic | $b:tactic)) (<- `(tactic| fail))
def Ei(T r:Lean.Ident)(q:List (Lean.TSyntax `tactic))(s:String):Lean.MacroM (Lean.TSyntax `tactic):=do
 let l:=s.splitOn ";";let x <-i8 ((<-(l.drop 1).mapM λz=>gF T r<|z.splitOn " ")++q)
 match(l.headD "").splitOn " " with | [h,k]=>`(tactic| (show $(Lean.mkIdent h.toName) $(Array.replicate k.toNat! (<- `(_)))*;$x:tactic))|_=>return x
section
variable{P:Program}{w:World}{K:zzA}{mg:Str->Option Value}{base:Heap}{kd:KD}(T:Txt P w K mg base kd)
include T
def RW:CF K kd vT "whole":=(wW T.Xg T.ND vE)
def Oy:CF K kd Xl "back":=(wW T.Xg T.MZ vE)
def IA:CF K kd ZU "wait":=(wW T.Xg T.NO vE)
def O4:CF K kd W0 "turn":=(wW T.Xg T.NS vE)
def DE:CF K kd Gg "one":=(wW T.Xg T.ES vE)
def FV:CF K kd WR "other":=(wW T.Xg T.L9 vE)
def Y6:CF K kd yE "deep":=(wW T.Xg T.M6 vE)
def VD:CF K kd wO "size":=(wW T.Xg T.Ml<|wW T.Zl T.NT vE)
def F4:CF K kd Po "table":=(wW T.Zl T.NB vE)
def My:CF K kd W4 "around":=(wW T.Zl T.Gn vE)
def Pc:CF K kd wZ "trees":=(wW T.xM T.GS vE)
def Vt:CF K kd yB "way":=(wW T.xM T.N7 vE)
def FO:CF K kd YX "waits":=(wW T.Zl T.L8 vE)
def SJ:CF K kd Px "neutral":=(wW T.Zl T.Pw vE)
def B4:CF K kd PM "holders":=(wW T.Zl T.TL vE)
local macro_rules | `(tactic| trivial)=>do let T:=Lean.mkIdent `T;let r:=Lean.mkIdent `hr;i8 [<-Ei T r [<- `(tactic| (refine ec (Txt.hkd $T) $r ?_ ?_ (hm:=rfl)<;>trivial)),<- `(tactic| (refine DT (VH rfl ((Txt.hkd $T) _ rfl rfl rfl)) (Txt.E6 $T) Bt.dict ?_;trivial)),<- `(tactic| (refine NY (Vz ((Txt.hkd $T) _ rfl rfl rfl) (U2 $r) _) (Vz ((Txt.hkd $T) _ rfl rfl rfl) (U2 $r) _) ?_ ?_ ?_ (by with_unfolding_all rfl)<;>trivial)),<- `(tactic| (refine Aj (ty:=.lst) ((Txt.hkd $T) _ rfl rfl rfl) (OZ ((Txt.hkd $T) _ rfl rfl rfl) (U2 $r)) PySem.F.plainAttrs_list PySem.F.slot_list_index PySem.F.type_list_index ?_ ?_ rfl rfl rfl rfl rfl<;>trivial))] "AE 4;av _;aI;ax h ? ?;bn ? ?;aS;aZ;aB;ec h R ? ?;cn a R ?;vW ?;X9 ?;cm ? ? ? ?;yy ? ? ?;OH ? ?;bi %yr @Txt.Zx Bt.len ?;bi !W6 @Txt.BN Bt.max ?;bi !G_ @Txt.D5 Bt.min ?;bi S5 @Txt.CU Bt.divmod ?;bi !Sy @Txt.oJ Bt.sum ?;DT EI @Txt.Ij Bt.int ?;Wj H = = @Txt.xh Bt.isinstance = @Txt.Ij Bt.int ? b d b d = = =;Wj H = = @Txt.xh Bt.isinstance = @Txt.pj Bt.str ? b d b d = = =;DT G4 @Txt.R_ Bt.tuple ?;Wj H = = @Txt.xh Bt.isinstance = @Txt.R_ Bt.tuple ? b d b d = = =;DT Kj @Txt.Pz Bt.list ?;Wj H = = @Txt.xh Bt.isinstance = @Txt.OD Bt.bool ? b d b d = = =;Ky = = @Txt.Xj = @Txt.Pz ? = =;tY ?;FQ AL ?;CB ? ? ?;OA ? ?;Oh ?;Q1 YU Lw PySem.F.slot_list_append PySem.F.type_list_append v ? = = = = =;Q1 uO uG PySem.F.slot_list_insert PySem.F.type_list_insert v ? = = = = =;rG @Txt.Gx = d;fd @Y6 ?;fd @VD ?;fd @F4 ?;fd @RW ?;fd @Oy ?;fd @My ?;fd @IA ?;fd @O4 ?;fd @DE ?;fd @FV ?;fd @Pc ?;fd @Vt ?;fd @FO ?;kP a R ?;mt a R ? ? =;xr a o yG v ? = = =;xY a o yG v ? = = =;TV ?",<-Ei T r [] "AA 4;bc ? ?;zj",<-Ei T r [] "Fk 4;fw a ? ? ? ?;yD ?;vF ? ? ?;gb ? ? ?;Ny ? =;sv _ _ a ?;kX ? ?;mM",<-Ei T r [] "FW 4;sj _ a ? ?;yh ? ?;ye ?;yF",<-Ei T r [] "AT 4;tc h R ? ?;Wv ?;Xe ? f;AW.at_ ?",<-Ei T r [] "AD 4;bd ? ?;yI",<-Ei T r [] "AO 4;yq ?;xZ",<-Ei T r [<- `(tactic| exact an _ (hW (by kernel_rfl)))] "AG 5;an _ a;Tu = ? = =",<-Ei T r [] "DC 5;gc ? ?;Qb",<-Ei T r [] "r_ 4;jw _ a;kz ?",<-Ei T r [] "Iz 4;jF ? ?;jb",<-Ei T r [] "IV 5;S6 = @Txt.Xj ? =;Dp = @Txt.OJ ? = =;A9 = @Txt.OJ ? = =;E8 ?",<-Ei T r [] "AI 5;Hn = @Txt.Xj ? =;KH = @Txt.Xj ? = =;Ae = @Txt.OJ ? = =;CT ?",<-Ei T r [] "AW 4;NR ? ?;sJ ? ?;WV ?;ER ?",<-Ei T r [] "-;Nj;JN ?",<- `(tactic| (intro _;trivial))]
def En:Ct T "is_whole" 1 PQ:=by
 refine Yi (N:=EM) (n:=1) (k:=0) (cc:=Ta) T.ED λhN _ _ _ _ _ _ _ hr=>?_;conv=>arg 3;whnf
 trivial
def Wm:Ct T "is_within" 2 vH:=by
 refine Yi (N:=MV) (n:=3) (k:=1) (cc:=U8) T.MN λhN _ _ _ _ _ _ _ hr=>?_;exact(ye<|yD<|OA (cn (En T) hr<|bc (av 0) zj)<|Oh<|NY (Vz (T.hkd _ rfl rfl rfl) (U2 hr) .LtE) (Vz (T.hkd _ rfl rfl rfl) (U2 hr) .LtE) (av 1) (av 0) (av 2)<|by with_unfolding_all rfl)
def RF:Ct T "nothing_fails" 1 ZH:=by
 refine Yi (N:=Ra) (n:=1) (k:=0) (cc:=ZI) T.RM λhN _ _ _ _ _ _ _ hr=>?_;conv=>arg 3;whnf
 trivial
def RJ:Ct T "parting_fails" 1 ZF:=by
 refine Yi (N:=RA) (n:=1) (k:=0) (cc:=XH) T.Re λhN _ _ _ _ _ _ _ hr=>?_;conv=>arg 3;whnf
 trivial
def Gm:Ct T "doing_fails" 1 Yu:=by
 refine Yi (N:=Gz) (n:=3) (k:=0) (cc:=YA) T.Gp λhN _ _ _ _ _ _ _ hr=>?_;conv=>arg 3;whnf
 trivial
def Lx:Ct T "deeds_fail" 2 Xh:=by
 refine Yi (N:=Lo) (n:=1) (k:=1) (cc:=VV) T.LX λhN _ _ _ _ _ _ _ hr=>?_;have:=Gm T;conv=>arg 3;whnf
 trivial
def LH:Ct T "what_fails" 3 Y3:=by
 refine Yi (N:=LZ) (n:=1) (k:=2) (cc:=Qx) T.Nw λhN _ _ _ _ _ _ _ hr=>?_;have:=RF T;have:=RJ T;have:=Lx T;conv=>arg 3;whnf
 trivial
def Td:Ct T "check_let_by" 4 vQ:=by
 refine Yi (N:=Tw) (n:=1) (k:=3) (cc:=Z2) T.T6 λhN _ _ _ _ _ _ _ hr=>?_;have:=LH T;conv=>arg 3;whnf
 trivial
def w_(c:Str):Cz T "Knot" "__init__" 1 (rd K kd c<|ym c):=by
 refine Wf (N:=XZ) (n:=7) T.Xg T.Rg λF S=>Es (N:=XZ) (k:=0) (b:=ZD) F S (by decide) λcdv A outer s H E hr=>?_;have hN:=S.nd;exact(xk (xN (RW T) (pv 0) (av 1) rfl)<|xk (xN (Oy T) (pv 0) (av 2) rfl)<|xk (xN (IA T) (pv 0) (av 3) rfl)<|xk (xN (O4 T) (pv 0) (av 4) rfl)<|xk (xN (DE T) (pv 0) (av 5) rfl)<|xk (xN (FV T) (pv 0) (av 6) rfl)<|xk (xN (Y6 T) (pv 0) (CB (tc T.hkd hr (av 5) aZ) aI<|bn aI<|bi (W6 rfl) T.BN Bt.max<|bc (fd (Y6 T)<|av 5)<|bc (fd (Y6 T)<|av 6) zj) rfl)<|Lp<|xN (VD T) (pv 0) (CB (tc T.hkd hr (av 5) aZ) aI<|bn (fd (VD T)<|av 5)<|fd (VD T)<|av 6) rfl)
def KC:Ct T "leaf_of" 3 W3:=by
 refine Yi (N:=Hb) (n:=1) (k:=2) (cc:=Kk) T.SU λhN _ _ _ _ _ _ _ hr=>?_;have:=w_ T "Knot";conv=>arg 3;whnf
 trivial
def NW:Cz T "Ways" "join" 1 (V4 K kd Wg):=by
 refine Io (N:=MR) (n:=3) (k:=0) (cc:=UA) T.Zl T.Md λhN _ _ _ _ _ _ _ hr=>?_;conv=>arg 3;whnf
 trivial
def sR:Tm T "join" 1 Qa:=(ID (NW T) Z5)
def YV:Ct T "knot_of" 3 yz:=by
 refine Yi (N:=S7) (n:=3) (k:=2) (cc:=Kb) T.SA λhN _ _ _ _ _ _ _ hr=>?_;have:=w_ T "Knot";have:=sR T;conv=>arg 3;whnf
 trivial
theorem Q_:∀n:Nat,Ct T "tree_of" (3+n) (vI n)
 |0=>oT T.G5 KP 2
 |n+1=>by
  have G:=Q_ n;refine Yi (N:=KP) (n:=2) (k:=3+n) (cc:=Kd<|vI n) T.G5 λhN _ _ _ _ _ _ _ hr=>?_;exact(by
  refine yh ?_ ?_;exact(vF (tc T.hkd hr (bi (yr<|T.hkd _ rfl rfl rfl) T.Zx Bt.len<|bc (av 1) zj) aI) (ye<|yD aZ) yF);refine yh ?_ ?_;exact(vF (tc T.hkd hr (bi (yr<|T.hkd _ rfl rfl rfl) T.Zx Bt.len<|bc (av 1) zj) aI) (ye<|yD<|cn (KC T) hr<|bc (ax T.hkd (av 1) aI) zj) yF);refine sj 2 hN ?_ ?_;exact(bn (bi (yr<|T.hkd _ rfl rfl rfl) T.Zx Bt.len<|bc (av 1) zj) aI);exact ye<|yD<|cn (YV T) hr<|bc (av 0)<|bc (cn G hr<|bc (av 0)<|bc (yy (av 1) xZ<|yq<|av 2) zj)<|bc (cn G hr<|bc (av 0)<|bc (yy (av 1) (yq<|av 2) xZ) zj) zj)
def YK:Ct T "size_of" 1 xu:=by
 refine Yi (N:=Si) (n:=1) (k:=0) (cc:=KU) T.SR λhN _ _ _ _ _ _ _ hr=>?_;conv=>arg 3;whnf
 trivial
def Gy:Cz T "Ways" "behind" 1 (V4 K kd YB):=by
 refine Io (N:=GD) (n:=3) (k:=0) (cc:=Vo) T.Zl T.GE λhN _ _ _ _ _ _ _ hr=>?_;conv=>arg 3;whnf
 trivial
def Ot:Tm T "behind" 1 Kl:=(ID (Gy T) Z5)
def LG:Ct T "both_waits" 2 Y1:=by
 refine Yi (N:=LO) (n:=3) (k:=1) (cc:=QJ) T.Ls λhN _ _ _ _ _ _ _ hr=>?_;have:=Ot T;conv=>arg 3;whnf
 trivial
def N5:Cz T "Ways" "made" 1 (V4 K kd Wi):=by
 refine Io (N:=MI) (n:=4) (k:=0) (cc:=UR) T.Zl T.MM λhN _ _ _ _ _ _ _ hr=>?_;conv=>arg 3;whnf
 trivial
def uQ:Tm T "made" 1 Pe:=(ID (N5 T) Z5)
def PL:Ct T "done_all" 4 Zp:=by
 refine Yi (N:=Fl) (n:=3) (k:=3) (cc:=Tb) T.FJ λhN _ _ _ _ _ _ _ hr=>?_;have:=uQ T;have:=KC T;have:=w_ T "Knot";have:=LG T;conv=>arg 3;whnf
 trivial
def Qd:Ct T "turned_all" 3 wQ:=by
 refine Yi (N:=Ni) (n:=2) (k:=2) (cc:=Qh) T.LB λhN _ _ _ _ _ _ _ hr=>?_;have:=w_ T "Knot";conv=>arg 3;whnf
 trivial
def Zo:Ct T "parts_of" 5 wA:=by
 refine Yi (N:=FG) (n:=2) (k:=4) (cc:=T5) T.Ea λhN _ _ _ _ _ _ _ hr=>?_;have:=PL T;have:=Qd T;conv=>arg 3;whnf
 trivial
theorem Ku:∀n:Nat,Ct T "walk_of" (5+n) (ZX n)
 |0=>oT T.KS Kq 2
 |n+1=>by
  have G:=Ku n;refine Yi (N:=Kq) (n:=2) (k:=5+n) (cc:=KJ<|ZX n) T.KS λhN _ _ _ _ _ _ _ hr=>?_;exact(by
  refine yh ?_ ?_;exact(vF (tc T.hkd hr (av 1) aZ) (ye<|yD<|vW yI) yF);refine yh ?_ ?_;exact(vF (tc T.hkd hr (fd (Y6 T)<|av 1) aI) (ye<|yD<|vW<|bd (fd (RW T)<|av 1) yI) yF);refine sj 2 hN ?_ ?_;exact(cn (Zo T) hr<|bc (av 0)<|bc (av 1) zj);exact ye<|yD<|vW<|bd (fd (RW T)<|av 1)<|bd (cn G hr<|bc (av 0)<|bc (ax T.hkd (av 2) aI) zj)<|bd (cn G hr<|bc (av 0)<|bc (ax T.hkd (av 2) aI) zj) yI)
def GL:Ct T "leaned_left" 6 YC:=by
 refine Yi (N:=GP) (n:=3) (k:=5) (cc:=Vl) T.GG λhN _ _ _ _ _ _ _ hr=>?_;have:=Zo T;have:=YV T;conv=>arg 3;whnf
 trivial
def Gc:Ct T "leaned_right" 6 ZZ:=by
 refine Yi (N:=Pu) (n:=3) (k:=5) (cc:=Wa) T.Ga λhN _ _ _ _ _ _ _ hr=>?_;have:=Zo T;have:=YV T;conv=>arg 3;whnf
 trivial
def MK:Ct T "evened" 7 VW:=by
 refine Yi (N:=HA) (n:=3) (k:=6) (cc:=M0) T.Ip λhN _ _ _ _ _ _ _ hr=>?_;have:=GL T;have:=Gc T;have:=YV T;conv=>arg 3;whnf
 trivial
theorem we:∀n:Nat,Ct T "put_together" (7+n) (yk n)
 |0=>oT T.Ww Wz 3
 |n+1=>by
  have G:=we n;refine Yi (N:=Wz) (n:=3) (k:=7+n) (cc:=We<|yk n) T.Ww λhN _ _ _ _ _ _ _ hr=>?_;exact(by
  refine yh ?_ ?_;exact(vF (tc T.hkd hr (av 1) aZ) (ye<|yD<|av 2) yF);refine yh ?_ ?_;exact(vF (tc T.hkd hr (av 2) aZ) (ye<|yD<|av 1) yF);refine yh ?_ ?_;exact(vF (tc T.hkd hr (fd (Y6 T)<|av 1)<|bn (fd (Y6 T)<|av 2) aI) (by
  refine sj 3 hN ?_ ?_;exact(cn (Zo T) hr<|bc (av 0)<|bc (av 1) zj);exact ye<|yD<|cn (MK T) hr<|bc (av 0)<|bc (ax T.hkd (av 3) aI)<|bc (cn G hr<|bc (av 0)<|bc (ax T.hkd (av 3) aI)<|bc (av 2) zj) zj) yF)
  refine yh ?_ ?_;exact(vF (tc T.hkd hr (fd (Y6 T)<|av 2)<|bn (fd (Y6 T)<|av 1) aI) (by
  refine sj 3 hN ?_ ?_;exact(cn (Zo T) hr<|bc (av 0)<|bc (av 2) zj);exact ye<|yD<|cn (MK T) hr<|bc (av 0)<|bc (cn G hr<|bc (av 0)<|bc (av 1)<|bc (ax T.hkd (av 3) aI) zj)<|bc (ax T.hkd (av 3) aI) zj) yF)
  exact ye<|yD<|cn (YV T) hr<|bc (av 0)<|bc (av 1)<|bc (av 2) zj)
theorem WQ:∀n:Nat,Ct T "parted_at" (27+n) (xC n)
 |0=>oT T.UT Uz 3
 |n+1=>by
  have G:=WQ n;refine Yi (N:=Uz) (n:=3) (k:=27+n) (cc:=UB<|xC n) T.UT λhN _ _ _ _ _ _ _ hr=>?_;exact(by
  refine yh ?_ ?_;exact(vF (tc T.hkd hr (av 2) aI) (ye<|yD<|vW<|bd aZ<|bd (av 1) yI) yF);refine yh ?_ ?_;exact(vF (tc T.hkd hr (av 2)<|fd (VD T)<|av 1) (ye<|yD<|vW<|bd (av 1)<|bd aZ yI) yF);refine sj 3 hN ?_ ?_;exact(cn (Zo T) hr<|bc (av 0)<|bc (av 1) zj);refine sj 4 hN ?_ ?_;exact(fd (VD T)<|ax T.hkd (av 3) aI);refine yh ?_ ?_;exact(vF (tc T.hkd hr (av 2)<|av 4) (by
  refine sj 5 hN ?_ ?_;exact(cn G hr<|bc (av 0)<|bc (ax T.hkd (av 3) aI)<|bc (av 2) zj);exact ye<|yD<|vW<|bd (ax T.hkd (av 5) aI)<|bd (cn (we T 20) hr<|bc (av 0)<|bc (ax T.hkd (av 5) aI)<|bc (ax T.hkd (av 3) aI) zj) yI) yF)
  refine sj 5 hN ?_ ?_;exact(cn G hr<|bc (av 0)<|bc (ax T.hkd (av 3) aI)<|bc (bn (av 2)<|av 4) zj);exact ye<|yD<|vW<|bd (cn (we T 20) hr<|bc (av 0)<|bc (ax T.hkd (av 3) aI)<|bc (ax T.hkd (av 5) aI) zj)<|bd (ax T.hkd (av 5) aI) yI)
def Yw:Ct T "check_place" 3 xo:=by
 refine Yi (N:=GR) (n:=3) (k:=2) (cc:=YD) T.Gs λhN _ _ _ _ _ _ _ hr=>?_;have:=Wm T;conv=>arg 3;whnf
 trivial
def Qp:Ct T "check_size" 1 wK:=by
 refine Yi (N:=Ld) (n:=1) (k:=0) (cc:=Xq) T.Nc λhN _ _ _ _ _ _ _ hr=>?_;conv=>arg 3;whnf
 trivial
def C_:Ct T "firm" 1 K6:=by
 refine Yi (N:=uP) (n:=1) (k:=0) (cc:=Cy) T.sX λhN _ _ _ _ _ _ _ hr=>?_;conv=>arg 3;whnf
 trivial
def Yd:Ct T "_law_draw" 1 yo:=by
 refine Yi (N:=Ey) (n:=2) (k:=0) (cc:=PB) T.FF λhN _ _ _ _ _ _ _ hr=>?_;conv=>arg 3;whnf
 trivial
def ZQ:Ct T "_law_digits" 1 yA:=by
 refine Yi (N:=Lz) (n:=2) (k:=0) (cc:=V3) T.LI λhN _ _ _ _ _ _ _ hr=>?_;conv=>arg 3;whnf
 trivial
def UJ:Ct T "_law_names" 2 Ym:=by
 refine Yi (N:=Mp) (n:=2) (k:=1) (cc:=UV) T.Mw λhN _ _ _ _ _ _ _ hr=>?_;have:=ZQ T;conv=>arg 3;whnf
 trivial
def Ri:Ct T "_law_part_join" 1 vA:=by
 refine Yi (N:=RK) (n:=3) (k:=0) (cc:=XW) T.RN λhN _ _ _ _ _ _ _ hr=>?_;conv=>arg 3;whnf
 trivial
def Rk:Ct T "_law_part_done" 1 xQ:=by
 refine Yi (N:=Rz) (n:=4) (k:=0) (cc:=XT) T.Rx λhN _ _ _ _ _ _ _ hr=>?_;conv=>arg 3;whnf
 trivial
def M3:Ct T "_law_parts" 1 Wt:=by
 refine Yi (N:=N8) (n:=1) (k:=0) (cc:=U9) T.NM λhN _ _ _ _ _ _ _ hr=>?_;conv=>arg 3;whnf
 trivial
def NU:Ct T "_law_split" 1 X7:=by
 refine Yi (N:=MA) (n:=2) (k:=0) (cc:=UN) T.NX λhN _ _ _ _ _ _ _ hr=>?_;conv=>arg 3;whnf
 trivial
def FK:Ct T "_law_laid" 1 xI:=by
 refine Yi (N:=Fm) (n:=2) (k:=0) (cc:=Py) T.EZ λhN _ _ _ _ _ _ _ hr=>?_;conv=>arg 3;whnf
 trivial
def Ma:Ct T "_law_order" 1 Wl:=by
 refine Yi (N:=Mv) (n:=2) (k:=0) (cc:=UZ) T.MD λhN _ _ _ _ _ _ _ hr=>?_;conv=>arg 3;whnf
 trivial
def GQ:Ct T "_law_algebra" 3 Yt:=by
 refine Yi (N:=GT) (n:=2) (k:=2) (cc:=Vm) T.Gr λhN _ _ _ _ _ _ _ hr=>?_;have:=M3 T;have:=Yd T;have:=FK T;have:=Ma T;have:=NU T;have:=Ri T;have:=UJ T;have:=Rk T;conv=>arg 3;whnf
 trivial
def Rw:Ct T "_law_by_digits" 3 w6:=by
 refine Yi (N:=Ry) (n:=1) (k:=2) (cc:=Xw) T.RO λhN _ _ _ _ _ _ _ hr=>?_;have:=ZQ T;have:=UJ T;have:=Yd T;conv=>arg 3;whnf
 trivial
def Ej:Ct T "_law_does" 1 Vv:=by
 refine Yi (N:=M_) (n:=5) (k:=0) (cc:=P9) T.Fw λhN _ _ _ _ _ _ _ hr=>?_;conv=>arg 3;whnf
 trivial
def Gu:Ct T "_law_is_good" 2 YE:=by
 refine Yi (N:=GN) (n:=1) (k:=1) (cc:=Vh) T.GM λhN _ _ _ _ _ _ _ hr=>?_;have:=Ej T;conv=>arg 3;whnf
 trivial
def Sr:Ct T "_law_any" 4 WW:=by
 refine Yi (N:=Sq) (n:=1) (k:=3) (cc:=G9) T.SY λhN _ _ _ _ _ _ _ hr=>?_;have:=Rw T;have:=Gu T;have:=GQ T;conv=>arg 3;whnf
 trivial
def Ek:Ct T "_law_copy" 1 Y8:=by
 refine Yi (N:=EA) (n:=1) (k:=0) (cc:=T4) T.Fs λhN _ _ _ _ _ _ _ hr=>?_;conv=>arg 3;whnf
 trivial
def E7:Ct T "_law_deed" 1 Xi:=by
 refine Yi (N:=Fi) (n:=3) (k:=0) (cc:=Ti) T.FA λhN _ _ _ _ _ _ _ hr=>?_;conv=>arg 3;whnf
 trivial
def Hf:Ct T "_law_row" 2 Q4:=by
 refine Yi (N:=Sm) (n:=3) (k:=1) (cc:=Kn) T.He λhN _ _ _ _ _ _ _ hr=>?_;have:=ZQ T;conv=>arg 3;whnf
 trivial
def RL:Ct T "_law_is_number" 1 ZJ:=by
 refine Yi (N:=RR) (n:=2) (k:=0) (cc:=XU) T.RH λhN _ _ _ _ _ _ _ hr=>?_;conv=>arg 3;whnf
 trivial
def Lk:Ct T "_law_places" 2 Xa:=by
 refine Yi (N:=Lm) (n:=2) (k:=1) (cc:=Qo) T.Lr λhN _ _ _ _ _ _ _ hr=>?_;have:=ZQ T;conv=>arg 3;whnf
 trivial
theorem QR:∀n:Nat,Ct T "_law_walked" (1+n) (vO n)
 |0=>oT T.Qw QL 2
 |n+1=>by
  have G:=QR n;refine Yi (N:=QL) (n:=2) (k:=1+n) (cc:=Qt<|vO n) T.Qw λhN _ _ _ _ _ _ _ hr=>?_;exact(by
  refine yh ?_ ?_;exact(vF (AW.at_<|NR (Wv<|Xe (Wj (T.hkd _ rfl rfl rfl) rfl rfl T.xh Bt.isinstance rfl T.R_ Bt.tuple (av 1) (Bt.n _ rfl) (by decide) (Bt.n _ rfl) (by decide) rfl rfl rfl) λ_=>rfl)<|WV<|O1 (Vz (T.hkd _ rfl rfl rfl) (U2 hr) .NotIn) (BZ .NotIn) (bi (yr<|T.hkd _ rfl rfl rfl) T.Zx Bt.len<|bc (av 1) zj) (vW<|bd aI<|bd aI yI) rfl) (ye<|yD aZ) yF);refine yh ?_ ?_;exact(vF (tc T.hkd hr (bi (yr<|T.hkd _ rfl rfl rfl) T.Zx Bt.len<|bc (av 1) zj) aI) (by
  refine yh ?_ ?_;exact(vF (AW.at_<|NR (Xe (Wj (T.hkd _ rfl rfl rfl) rfl rfl T.xh Bt.isinstance rfl T.OD Bt.bool (ax T.hkd (av 1) aI) (Bt.n _ rfl) (by decide) (Bt.n _ rfl) (by decide) rfl rfl rfl) λ_=>rfl)<|WV<|Wv<|Xe (Wj (T.hkd _ rfl rfl rfl) rfl rfl T.xh Bt.isinstance rfl T.Ij Bt.int (ax T.hkd (av 1) aI) (Bt.n _ rfl) (by decide) (Bt.n _ rfl) (by decide) rfl rfl rfl) λ_=>rfl) (ye<|yD aZ) yF);exact ye<|yD<|vW<|bd (X9<|bd (ax T.hkd (av 1) aI) yI)<|bd (ax T.hkd (av 1) aI)<|bd aI yI) yF)
  refine sj 2 hN ?_ ?_;exact(cn G hr<|bc (av 0)<|bc (ax T.hkd (av 1) aI) zj);refine sj 3 hN ?_ ?_;exact(cn G hr<|bc (av 0)<|bc (ax T.hkd (av 1) aI) zj);refine yh ?_ ?_;exact(vF (AW.at_<|NR (tc T.hkd hr (av 2) aZ)<|NR (tc T.hkd hr (av 3) aZ)<|WV<|tc T.hkd hr (bi SQ T.m7 Bt.abs<|bc (bn (ax T.hkd (av 2) aI)<|ax T.hkd (av 3) aI) zj) aI) (ye<|yD aZ) yF);refine sj 4 hN ?_ ?_;exact(ax T.hkd (ax T.hkd (ax T.hkd (av 0) aI)<|ax T.hkd (av 2) aI)<|ax T.hkd (av 3) aI);refine yh ?_ ?_;exact(vF (Wv<|Xe (cn (RL T) hr<|bc (ax T.hkd (av 1) aI)<|bc (av 4) zj) λ_=>rfl) (ye<|yD aZ) yF);exact ye<|yD<|vW<|bd (bn (ax T.hkd (av 2) aI)<|ax T.hkd (av 3) aI)<|bd (av 4)<|bd (bn aI<|bi (W6 rfl) T.BN Bt.max<|bc (ax T.hkd (av 2) aI)<|bc (ax T.hkd (av 3) aI) zj) yI)
def UK:Ct T "_law_right" 22 wo:=by
 refine Yi (N:=N0) (n:=3) (k:=21) (cc:=UY) T.Mf λhN _ _ _ _ _ _ _ hr=>?_;have:=QR T 20;conv=>arg 3;whnf
 trivial
def Rj:Cz T "Makes" "tree_at" 3 (V4 K kd yK):=by
 refine Io (N:=Rv) (n:=2) (k:=2) (cc:=XI) T.xM T.RI λhN _ _ _ _ _ _ _ hr=>?_;have:=Wm T;conv=>arg 3;whnf
 trivial
def YJ:Tm T "tree_at" 3 y2:=(ID (Rj T) Z5)
def W9:Cz T "Makes" "three_parts" 48 (V4 K kd yM):=by
 refine Io (N:=Vc) (n:=4) (k:=47) (cc:=ZN) T.xM T.Va λhN _ _ _ _ _ _ _ hr=>?_;have:=YJ T;have:=Yw T;have:=YK T;have:=WQ T 20;conv=>arg 3;whnf
 trivial
def Nn:Cz T "Makes" "keep" 1 (spS K kd yi):=by
 refine Wf (N:=QN) (n:=2) T.xM T.Ng λF S=>VC (N:=QN) (k:=0) (c:=ZR) F S (by decide) λcdv A outer s H E hr=>?_;have hN:=S.nd;exact(yp (nE (Pc T) (pv 0) (pv 1) rfl rfl rfl rfl rfl rfl rfl)<|YZ<|bn (qf (Pc T) (pv 0) rfl rfl T.Zx rfl rfl) aI)
def P4:Cz T "Ways" "is_deed" 1 (V4 K kd Yg):=by
 refine Io (N:=Pr) (n:=2) (k:=0) (cc:=WG) T.Zl T.PJ λhN _ _ _ _ _ _ _ hr=>?_;conv=>arg 3;whnf
 trivial
def P8:Cz T "Ways" "wait_of" 1 (V4 K kd Z7):=by
 refine Io (N:=Tp) (n:=2) (k:=0) (cc:=WJ) T.Zl T.P_ λhN _ _ _ _ _ _ _ hr=>?_;conv=>arg 3;whnf
 trivial
def Xc:Cz T "Makes" "three_together" 28 (V4 K kd zG):=by
 refine Io (N:=YY) (n:=4) (k:=27) (cc:=Zc) T.xM T.Y5 λhN _ _ _ _ _ _ _ hr=>?_;have:=we T 20;conv=>arg 3;whnf
 trivial
def wH:Tm T "three_together" 28 xf:=(ID (Xc T) Z5)
def SC:Tm T "wait_of" 1 Vx:=(ID (P8 T) Z5)
def S0:Tm T "is_deed" 1 VB:=(ID (P4 T) Z5)
def Zq:Tm T "three_parts" 48 Z8:=(ID (W9 T) Z5)
def Xo:Ts T "keep" 1 "Makes" yi:=uv<|Nn T
def Le:Cz T "Makes" "done" 49 (spS K kd Za):=by
 refine Wf (N:=QO) (n:=5) T.xM T.Nd λF S=>VC (N:=QO) (k:=48) (c:=QP) F S (by decide) λcdv A outer s H E hr=>?_;have hN:=S.nd;exact(yp (by refine Eh true 5 (by decide) hN ?_;exact(xr (Zq T) (hr.mono<|by omega) yG (pv 0) (bc (av 1)<|bc (av 2)<|bc (av 3) zj) rfl rfl rfl))<|yp (GU (Wv<|Xe (mt (S0 T) hr (UU (Vt T) (pv 0) rfl) (bc (av 4) zj) rfl) λ_=>rfl) (vY DI) KY)<|yp (by refine Eh true 6 (by decide) hN ?_;exact(cn (PL T) hr<|bc (UU (Vt T) (pv 0) rfl)<|bc (ax T.hkd (av 5) aI)<|bc (mt (SC T) hr (UU (Vt T) (pv 0) rfl) (bc (av 4) zj) rfl) zj))<|YZ<|xY (Xo T) (hr.mono<|by omega) yG (pv 0) (bc (xr (wH T) (hr.mono<|by omega) yG (pv 0) (bc (ax T.hkd (av 5) aI)<|bc (av 6)<|bc (ax T.hkd (av 5) aI) zj) rfl rfl rfl) zj) rfl rfl rfl)
def TX:Cz T "Makes" "turned" 49 (spS K kd wb):=by
 refine Wf (N:=WH) (n:=4) T.xM T.PD λF S=>VC (N:=WH) (k:=48) (c:=Wb) F S (by decide) λcdv A outer s H E hr=>?_;have hN:=S.nd;exact(yp (by refine Eh true 4 (by decide) hN ?_;exact(xr (Zq T) (hr.mono<|by omega) yG (pv 0) (bc (av 1)<|bc (av 2)<|bc (av 3) zj) rfl rfl rfl))<|YZ<|xY (Xo T) (hr.mono<|by omega) yG (pv 0) (bc (xr (wH T) (hr.mono<|by omega) yG (pv 0) (bc (ax T.hkd (av 4) aI)<|bc (cn (Qd T) hr<|bc (UU (Vt T) (pv 0) rfl)<|bc (ax T.hkd (av 4) aI) zj)<|bc (ax T.hkd (av 4) aI) zj) rfl rfl rfl) zj) rfl rfl rfl)
def Mj:Cz T "Makes" "cut" 49 (spS K kd Zy):=by
 refine Wf (N:=U6) (n:=4) T.xM T.NL λF S=>VC (N:=U6) (k:=48) (c:=UG) F S (by decide) λcdv A outer s H E hr=>?_;have hN:=S.nd;exact(yp (by refine Eh true 4 (by decide) hN ?_;exact(xr (Zq T) (hr.mono<|by omega) yG (pv 0) (bc (av 1)<|bc (av 2)<|bc (av 3) zj) rfl rfl rfl))<|yp (by refine Eh true 5 (by decide) hN ?_;exact(xY (Xo T) (hr.mono<|by omega) yG (pv 0) (bc (ax T.hkd (av 4) aI) zj) rfl rfl rfl))<|YZ<|vW<|bd (av 5)<|bd (xY (Xo T) (hr.mono<|by omega) yG (pv 0) (bc (cn (we T 20) hr<|bc (UU (Vt T) (pv 0) rfl)<|bc (ax T.hkd (av 4) aI)<|bc (ax T.hkd (av 4) aI) zj) zj) rfl rfl rfl) yI)
def P0:Cz T "Makes" "put_in" 48 (spS K kd x6):=by
 refine Wf (N:=Wu) (n:=4) T.xM T.TN λF S=>VC (N:=Wu) (k:=47) (c:=Wp) F S (by decide) λcdv A outer s H E hr=>?_;have hN:=S.nd;exact(yp (by refine Eh true 4 (by decide) hN ?_;exact(xr (YJ T) (hr.mono<|by omega) yG (pv 0) (bc (av 1) zj) rfl rfl rfl))<|yp (by refine Eh true 5 (by decide) hN ?_;exact(xr (YJ T) (hr.mono<|by omega) yG (pv 0) (bc (av 3) zj) rfl rfl rfl))<|yp (xD (cn (Yw T) hr<|bc (av 2)<|bc aI<|bc (cn (YK T) hr<|bc (av 4) zj) zj) rfl)<|yp (xD (cn (Qp T) hr<|bc (bn (cn (YK T) hr<|bc (av 4) zj)<|cn (YK T) hr<|bc (av 5) zj) zj) rfl)<|yp (by refine Eh true 6 (by decide) hN ?_;exact(cn (WQ T 20) hr<|bc (UU (Vt T) (pv 0) rfl)<|bc (av 4)<|bc (av 2) zj))<|YZ<|xY (Xo T) (hr.mono<|by omega) yG (pv 0) (bc (xr (wH T) (hr.mono<|by omega) yG (pv 0) (bc (ax T.hkd (av 6) aI)<|bc (av 5)<|bc (ax T.hkd (av 6) aI) zj) rfl rfl rfl) zj) rfl rfl rfl)
def Rh:Cz T "Ways" "is_value" 3 (V4 K kd ZE):=by
 refine Io (N:=RB) (n:=2) (k:=2) (cc:=XC) T.Zl T.RS λhN _ _ _ _ _ _ _ hr=>?_;have:=Wm T;conv=>arg 3;whnf
 trivial
def E9:Tm T "is_value" 3 U4:=(ID (Rh T) Z5)
def W8:Cz T "Makes" "check_value" 4 (V4 K kd yO):=by
 refine Io (N:=Vb) (n:=2) (k:=3) (cc:=wU) T.xM T.Vd λhN _ _ _ _ _ _ _ hr=>?_;have:=E9 T;conv=>arg 3;whnf
 trivial
def Vf:Tm T "check_value" 4 xt:=(ID (W8 T) Z5)
def Ru:Cz T "Makes" "changed" 49 (spS K kd xS):=by
 refine Wf (N:=Xu) (n:=4) T.xM T.RD λF S=>VC (N:=Xu) (k:=48) (c:=XG) F S (by decide) λcdv A outer s H E hr=>?_;have hN:=S.nd;exact(yp (by refine Eh true 4 (by decide) hN ?_;exact(xr (YJ T) (hr.mono<|by omega) yG (pv 0) (bc (av 1) zj) rfl rfl rfl))<|yp (xD (cn (Yw T) hr<|bc (av 2)<|bc aI<|bc (bn (cn (YK T) hr<|bc (av 4) zj) aI) zj) rfl)<|yp (xD (xr (Vf T) (hr.mono<|by omega) yG (pv 0) (bc (av 3) zj) rfl rfl rfl) rfl)<|yp (by refine Eh true 5 (by decide) hN ?_;exact(xr (Zq T) (hr.mono<|by omega) yG (pv 0) (bc (av 1)<|bc (av 2)<|bc (bn (av 2) aI) zj) rfl rfl rfl))<|YZ<|xY (Xo T) (hr.mono<|by omega) yG (pv 0) (bc (xr (wH T) (hr.mono<|by omega) yG (pv 0) (bc (ax T.hkd (av 5) aI)<|bc (cn (Q_ T 20) hr<|bc (UU (Vt T) (pv 0) rfl)<|bc (X9<|bd (av 3) yI) zj)<|bc (ax T.hkd (av 5) aI) zj) rfl rfl rfl) zj) rfl rfl rfl)
def EL:Ts T "changed" 49 "Makes" xS:=uv<|Ru T
def rM:Ts T "cut" 49 "Makes" Zy:=uv<|Mj T
def Ju:Ts T "done" 49 "Makes" Za:=uv<|Le T
def Sw:Ts T "put_in" 48 "Makes" x6:=uv<|P0 T
def Hc:Ts T "turned" 49 "Makes" wb:=uv<|TX T
def Fp:Cs T "_law_step" 50 (spT 1 K kd wB):=by
 refine Oi (N:=PX) (n:=4) T.EB λF S=>An (N:=PX) (k:=49) 1 (b:=Z9) F S (by decide) λcdv A outer s H E hr=>?_;have hN:=S.nd;exact(by
  refine wu ?_ ?_;refine Eh true 4 (by decide) hN ?_;exact(ax T.hkd (av 2)<|FQ AL aI);refine wu ?_ ?_;refine Eh true 5 (by decide) hN ?_;exact(bn (bi (yr<|T.hkd _ rfl rfl rfl) T.Zx Bt.len<|bc (av 2) zj) aI);refine wu ?_ ?_;exact(rK (by decide) (cn (Lk T) hr<|bc (bn (av 3) aI)<|bc (bi (yr<|T.hkd _ rfl rfl rfl) T.Zx Bt.len<|bc (av 4) zj) zj) (Tu rfl (ZA (an 6 hN) (ZA (an 7 hN) Qb rfl) rfl) rfl rfl) rfl rfl rfl);refine wu ?_ ?_;refine Eh true 8 (by decide) hN ?_;exact(ax T.hkd (ax T.hkd (ax T.hkd (av 0) aI)<|bn (bn (av 3) aI)<|bi (yr<|T.hkd _ rfl rfl rfl) T.Zx Bt.len<|bc (ax T.hkd (av 0) aI) zj) aI);exact vY<|GU (tc T.hkd hr (bn (av 3) aI) aI) (by
  refine wu ?_ ?_;exact(xD (Q1 YU Lw PySem.F.slot_list_append PySem.F.type_list_append (pv 2) (bd (TV<|bn (bn (yy (av 4) xZ<|yq<|av 6)<|cn (E7 T) hr<|bc (av 0)<|bc (av 8)<|bc (yy (av 4) (yq<|av 6)<|yq<|av 7) zj)<|yy (av 4) (yq<|av 7) xZ) yI) rfl rfl rfl rfl rfl) rfl);exact vY<|xD (xY (Ju T) (hr.mono<|by omega) yG (pv 1) (bc (av 5)<|bc (av 6)<|bc (av 7)<|bc (av 8) zj) rfl rfl rfl) rfl)<|vY<|GU (tc T.hkd hr (bn (av 3) aI) aI) (by
  refine wu ?_ ?_;exact(xD (Q1 YU Lw PySem.F.slot_list_append PySem.F.type_list_append (pv 2) (bd (TV<|bn (bn (yy (av 4) xZ<|yq<|av 6)<|OH (yy (av 4) (yq<|av 6)<|yq<|av 7)<|FQ AL aI)<|yy (av 4) (yq<|av 7) xZ) yI) rfl rfl rfl rfl rfl) rfl);exact vY<|xD (xY (Hc T) (hr.mono<|by omega) yG (pv 1) (bc (av 5)<|bc (av 6)<|bc (av 7) zj) rfl rfl rfl) rfl)<|vY<|GU (tc T.hkd hr (bn (av 3) aI) aI) (by
  refine wu ?_ ?_;refine Eh true 9 (by decide) hN ?_;exact(bn (yy (av 4) xZ<|yq<|av 6)<|yy (av 4) (yq<|av 7) xZ);refine wu ?_ ?_;refine Eh true 10 (by decide) hN ?_;exact(bn (bn (av 3) aI)<|bn (bi (yr<|T.hkd _ rfl rfl rfl) T.Zx Bt.len<|bc (av 9) zj) aI);refine wu ?_ ?_;exact(xD (Q1 SG tD PySem.F.slot_list_extend PySem.F.type_list_extend (pv 2) (bd (X9<|bd (TV<|yy (av 4) (yq<|av 6)<|yq<|av 7)<|bd (av 9)<|bd (TV<|bn (bn (yy (av 9) xZ<|yq<|av 10)<|yy (av 4) (yq<|av 6)<|yq<|av 7)<|yy (av 9) (yq<|av 10) xZ) yI) yI) rfl rfl rfl rfl rfl) rfl);refine wu ?_ ?_;exact(xD (xY (rM T) (hr.mono<|by omega) yG (pv 1) (bc (av 5)<|bc (av 6)<|bc (av 7) zj) rfl rfl rfl) rfl);exact vY<|xD (xY (Sw T) (hr.mono<|by omega) yG (pv 1) (bc (bn (av 5) aI)<|bc (av 10)<|bc (bn (av 5) aI) zj) rfl rfl rfl) rfl)<|vY<|GU (tc T.hkd hr (av 6)<|bi (yr<|T.hkd _ rfl rfl rfl) T.Zx Bt.len<|bc (av 4) zj) (by
  refine wu ?_ ?_;exact(xD (Q1 YU Lw PySem.F.slot_list_append PySem.F.type_list_append (pv 2) (bd (TV<|bn (bn (yy (av 4) xZ<|yq<|av 6)<|X9<|bd (TV<|bn (bn (av 3) aI)<|ax T.hkd (av 0) aI) yI)<|yy (av 4) (yq<|bn (av 6) aI) xZ) yI) rfl rfl rfl rfl rfl) rfl);exact vY<|xD (xY (EL T) (hr.mono<|by omega) yG (pv 1) (bc (av 5)<|bc (av 6)<|bc (bn (bn (av 3) aI)<|ax T.hkd (av 0) aI) zj) rfl rfl rfl) rfl) KY)
def Um(c:Str):Cz T "Makes" "__init__" 1 (rd K kd c<|xv c):=by
 refine Wf (N:=YR) (n:=2) T.xM T.Ui λF S=>Es (N:=YR) (k:=0) (b:=YI) F S (by decide) λcdv A outer s H E hr=>?_;have hN:=S.nd;exact(xk (xN (Vt T) (pv 0) (av 1) rfl)<|Lp<|Ck (Pc T) (pv 0) (X9 yI) rfl)
def K4:Cz T "Makes" "made" 24 (spS K kd vV):=by
 refine Wf (N:=QD) (n:=2) T.xM T.Lu λF S=>VC (N:=QD) (k:=23) (c:=ZT) F S (by decide) λcdv A outer s H E hr=>?_;have hN:=S.nd;exact(yp (GU (Wv<|Xe (Wj (T.hkd _ rfl rfl rfl) rfl rfl T.xh Bt.isinstance rfl T.Pz Bt.list (av 1) (Bt.n _ rfl) (by decide) (Bt.n _ rfl) (by decide) rfl rfl rfl) λ_=>rfl) (vY DI) KY)<|yp (uy (by decide) PassesOwn.never rfl (CT<|av 1) (an 2 hN) (vY<|xD (xr (Vf T) (hr.mono<|by omega) yG (pv 0) (bc (av 2) zj) rfl rfl rfl) rfl) λ_=>rfl)<|yp (xD (cn (Qp T) hr<|bc (bi (yr<|T.hkd _ rfl rfl rfl) T.Zx Bt.len<|bc (av 1) zj) zj) rfl)<|YZ<|xY (Xo T) (hr.mono<|by omega) yG (pv 0) (bc (cn (Q_ T 20) hr<|bc (UU (Vt T) (pv 0) rfl)<|bc (av 1) zj) zj) rfl rfl rfl)
def Rq(c:Str):Cz T "Ways" "__init__" 5 (rd K kd c<|xR c):=by
 refine Wf (N:=vB) (n:=2) T.Zl T.Rm λF S=>Es (N:=vB) (k:=4) (b:=ZC) F S (by decide) λcdv A outer s H E hr=>?_;have hN:=S.nd;exact(xk (J1 (cn (Td T) hr<|bc (av 1) zj) rfl)<|xk (xN (VD T) (pv 0) (ax T.hkd (av 1) aI) rfl)<|xk (xN (My T) (pv 0) (ax T.hkd (av 1) aI) rfl)<|xk (xN (F4 T) (pv 0) (cn (C_ T) hr<|bc (ax T.hkd (av 1) aI) zj) rfl)<|xk (xN (SJ T) (pv 0) (ax T.hkd (av 1) aI) rfl)<|xk (xN (FO T) (pv 0) (DT (VH rfl<|T.hkd _ rfl rfl rfl) T.E6 Bt.dict<|bc (Ll (N:=["name","rows"]) (cap:=[none,none]) (S:=[0,1]) rfl (E8<|ax T.hkd (av 1) aI) rfl (by change Vn _ vB _ (zO w9).names _=true;decide +kernel) (by decide) (λcl s H fp=>(Tu rfl (ZA (an 0 Z4) (ZA (an 1 Z4) Qb rfl) rfl) rfl rfl)) (λcl s H fp=>Nj) (λcl s H fp=>(vW<|bd (av 0)<|bd (cn (C_ T) hr<|bc (av 1) zj) yI)) λ_=>rfl) zj) rfl)<|Lp<|xN (B4 T) (pv 0) (DT (VH rfl<|T.hkd _ rfl rfl rfl) T.E6 Bt.dict<|bc (Ll (N:=["name","values"]) (cap:=[none,none]) (S:=[0,1]) rfl (E8<|ax T.hkd (av 1) aI) rfl (by change Vn _ vB _ (zO w9).names _=true;decide +kernel) (by decide) (λcl s H fp=>(Tu rfl (ZA (an 0 Yh) (ZA (an 1 Yh) Qb rfl) rfl) rfl rfl)) (λcl s H fp=>Nj) (λcl s H fp=>(vW<|bd (av 0)<|bd (DT G4 T.R_ Bt.tuple<|bc (av 1) zj) yI)) λ_=>rfl) zj) rfl)
def Lh:Cz T "Makes" "walk" 26 (V4 K kd vS):=by
 refine Io (N:=Nk) (n:=2) (k:=25) (cc:=Qu) T.xM T.K3 λhN _ _ _ _ _ _ _ hr=>?_;have:=Ku T 20;have:=YJ T;conv=>arg 3;whnf
 trivial
def HY:Tm T "walk" 26 Qe:=(ID (Lh T) Z5)
def Ar:Ts T "made" 24 "Makes" vV:=uv<|K4 T
def qF{f d}(F:Fun K "law" "law" F7 f d):FnOk P w K mg base XQ 51 f d (Bi.take 1) (V4 K kd KB):=by
 have S:FnScope Bi (Bi.take 1) (zO F7):=rV;have hN:=S.nd;obtain⟨_,_,_,F_law_step,m_law_step_,k_law_step_,b_law_step_⟩:=Fp T;refine O8 (N:=Bi) (k:=50) (c:=Du) F S λcdv A outer s H E hr=>?_;exact(by
  refine sj 1 hN ?_ ?_;exact(cn (Sr T) hr<|bc (av 0) zj);refine sj 2 hN ?_ ?_;exact(kP (Um T "Makes") hr<|bc (kP (Rq T "Ways") hr<|bc (cn (Ek T) hr<|bc (av 1) zj) zj) zj);refine sj 3 hN ?_ ?_;exact(cn (Hf T) hr<|bc (cn (Yd T) hr<|bc (av 0)<|bc aI zj)<|bc (ax T.hkd (av 1) aI)<|bc aI zj);refine yh ?_ ?_;exact(vF (tc T.hkd hr (bn (bn (cn (Yd T) hr<|bc (av 0)<|bc aI zj) aI) aI) aI) (ye<|by refine sv true 3 hN ?_;exact(yy (bn (bn (av 3)<|X9<|bd aI yI)<|bn (Ky rfl rfl T.Xj rfl T.Pz (bc (ax T.hkd (av 1) aI) zj) rfl rfl) aI) xZ<|yq aI)) yF);refine sj 4 hN ?_ ?_;exact(X9<|bd (av 3) yI);refine yh ?_ ?_;exact(Ny (xY (Ar T) (hr.mono<|by omega) yG (pv 2) (bc (DT Kj T.Pz Bt.list<|bc (av 3) zj) zj) rfl rfl rfl) rfl);refine yh ?_ ?_;exact(EY PassesOwn.never rfl (KH rfl T.Xj (bc aI<|bc (bi (W6 rfl) T.BN Bt.max<|bc aI<|bc (bi (G_ rfl) T.D5 Bt.min<|bc (bi (yr<|T.hkd _ rfl rfl rfl) T.Zx Bt.len<|bc (av 0) zj)<|bc aI zj) zj) zj) rfl rfl) (an 5 hN) (by
  refine yh ?_ ?_;exact(Ny (HM 1 2 4 F_law_step hr m_law_step_ k_law_step_ b_law_step_<|bc (av 1)<|bc (av 2)<|bc (av 4)<|bc (cn (Yd T) hr<|bc (av 0)<|bc (av 5) zj) zj) rfl);exact ye<|vF (Wv<|Xe (cn (UK T) hr<|bc (av 1)<|bc (xr (HY T) (hr.mono<|by omega) yG (pv 2) (bc (bn (bi (yr<|T.hkd _ rfl rfl rfl) T.Zx Bt.len<|bc (av 4) zj) aI) zj) rfl rfl rfl)<|bc (ax T.hkd (av 4)<|FQ AL aI) zj) λ_=>rfl) (ye<|yD aB) yF) λ_=>rfl)
  refine yh ?_ ?_;exact(EY PassesOwn.never rfl (B2 rfl T.Xj (bc aI<|bc (bi (yr<|T.hkd _ rfl rfl rfl) T.Zx Bt.len<|bc (av 4) zj)<|bc (bn aI<|bn (bi (yr<|T.hkd _ rfl rfl rfl) T.Zx Bt.len<|bc (av 4) zj) aI) zj) rfl rfl) (an 6 hN) (ye<|vF (Wv<|Xe (cn (UK T) hr<|bc (av 1)<|bc (xr (HY T) (hr.mono<|by omega) yG (pv 2) (bc (av 6) zj) rfl rfl rfl)<|bc (ax T.hkd (av 4)<|av 6) zj) λ_=>rfl) (ye<|yD aB) yF) λ_=>rfl);exact ye<|yD aB)
end
def sZ{l:PySem.W.OpenLaw}{w:World}{K:zzA}{mg:Str->Option Value}{fa:Addr}{kd:KD}(h:Heap)(hfa:mg "law"=some (.ref fa))(T:∀base,Txt l.prog w K mg base kd):
 ∃fd:FuncData,(∀(s:Shared) (v:Value),BindsTo s fd ⟨[v],[]⟩ [("_law_script",v)])/\∀base:Heap,K.In base->base.Ns mainGlobals mg->FnOk l.prog w K mg base XQ 51 fa fd ["_law_script"] (jj K KB):=by
 obtain⟨f,d,F,e⟩:=(T h).qC;cases hfa.symm.trans e;obtain⟨_,_,_,_,_,_,_,_,_,rfl,_,_⟩:=F.ex;exact⟨_,λs v=>.of_eq rfl,λbase _ _=>(qF (T base) F).imp λvs H Q E h=>h _⟩
def walk{l:PySem.W.OpenLaw}{q:Program}{loose:List Str}{XP:(Str->Option Value)->Heap->Prop}{YP:World->Heap->Prop}{d:DefRec}{K:Params->zzA}(hn:l.most=some 63)(hdf:d.params.defaults=[])
 (hY:∀(w:World) (h:Heap),YP w h->(K w.params).In h) (hm:∀ns:List Int,ns.length<=63->KB [(true,.lst<|ns.map D.int)]=some (.lf true<|.bl true))
 (F:∀(w:World) (mg:Str->Option Value) (fa:Addr) (h:Heap),(K w.params).In h->h.Ns mainGlobals mg->mg d.name=some (.ref fa)->
  ∃fd:FuncData,(∀(s:Shared) (u:Value),BindsTo s fd ⟨[u],[]⟩ [("_law_script",u)])/\∀base:Heap,(K w.params).In base->base.Ns mainGlobals mg->FnOk l.prog w (K w.params) mg base XQ 51 fa fd ["_law_script"] (jj (K w.params) KB)):
 PySem.W.WalkO q loose XP YP l.row.toRowW d [] (λf vs=>PySem.call f vs):=
 L2.walk_of (n:=63) (k:=51) (x:="_law_script") (CX:=λ_=>XQ) (sp:=λw=>jj (K w.params) KB) hn (by decide) hdf ⟨rfl,by decide,by decide,rfl⟩ hY F (λ_ _ a ns hl _ hS kd=>tW (hm ns hl) hS) λ_ _ _ _ _ z=>z
local macro_rules | `(tactic| trivial)=>do `(tactic| first|with_reducible first|assumption|$(<-zqb "Int.natCast_nonneg _;Nat.le_refl _;Int.le_refl _;rfl;uV a;tm a;np2 a;nq1 a;nq2 a;Int.natCast_pos.mpr a;Nat.le_trans a d;bgL _;bgU a;mU a;zI _;bL0 a;bU0 a a;iL a;iU a a;iC a;iT a;stL a;stU a;lnK a a a;zi1 _;lnE a;ltL a;Int.toNat_of_nonneg a;tS a a;b6 a;Int.emod_nonneg _ d;Int.emod_lt_of_pos _ d"):tactic|decide|omega)
local macro_rules |`(⋯)=>do `(by first|with_reducible rfl|assumption|$(<-zqb "zb;zq;yu;zh"):tactic|(with_reducible refine za ?_;first|rfl|assumption)|$(<-zqc "WD.e ?;zd ? ?;zH ? ?;zM ? ?;Zb ? ?;zY ? ? ?;xJ ? ? ? ?;xq ? ? ? ?;zV ? ? = =;zE ?;xW ?;xi ? ="):tactic|exact zD (by decide)|omega|rfl|decide)
section
variable{n m:Nat}{J T:TZ}{e:Int}{Ds:DD}{S:SS}
def FI(n8:n<=8)(hJ:Tab n n J)(he:zT n e):Hs (ZH [(true,Zm n m J e Ds S)]) (lu n J e):=by
 refine Hs.imp (P:=lu n J e/\True) (Fj rfl ?_) ⟨λz=>z.1,λz=>⟨z,trivial⟩⟩;have s1:zr true 1 (f2 zm yx zv) [sT<|Zm n m J e Ds S,none,none,none]=some _:=zF ⋯ (zh rfl);have s2:zr true 2 _ [sT _,sT _,none,none]=some (.nx [sT<|Zm n m J e Ds S,sT<|x_ J,sI e,none]):=zF ⋯ (zh rfl);have k:=K7 (g:=zx _) (tU (S:=λx y z=>[sT<|Zm n m J e Ds S,sT<|x_ J,sI e,x]) (x:=none) (y:=none) (z:=none) (vj:=1) (ve:=2) hJ he (λ_ _ _=>rfl) (λ_ _ _=>rfl) (λ_ _ _=>rfl) λ_ _ _ _=>rfl) λ_ _ _=>LU;have hf:∀f:SF,yL (yt (aC (f2 zm zP zv) aN) yV) _ f _=forL (gN 3) f _ [sT<|Zm n m J e Ds S,sT<|x_ J,sI e,none]:=λf=>yC (xO (j:=n) (zd (zV (za rfl) zb rfl rfl) zq) (by trivial)<|by trivial) ⋯;have fin:∀x,Rt _ x->Rt (ZI _) x:=λx h=>by
  refine zc s1<|zc s2 ?_;obtain⟨o,a,b⟩:=h;refine⟨o, ?_,b⟩;unfold zi at ⊢
  rwa [hf]
 rcases k with⟨k,p⟩|⟨⟨es,k⟩,p⟩
 . exact .inl ⟨fin _ k,p⟩
 . exact .inr ⟨⟨es,fin _ k⟩,p⟩
def M8(n8:n<=8)(hJ:Tab n n J):Hs (ZF [(true,Zm n m J e Ds S)]) (As n J):=by
 have s1:zr true 1 (f2 zm zP zv) [sT<|Zm n m J e Ds S,none,none,none,none,none]=some _:=zF ⋯ (zh rfl);have s2:zr true 2 (f2 zm yx zv) [sT<|Zm n m J e Ds S,sI n,none,none,none,none]=some _:=zF ⋯ (zh rfl);have k:=Jh (S:=λx y z=>[sT<|Zm n m J e Ds S,sI n,sT _,x,y,z]) (x:=none) (y:=none) (z:=none) (vj:=2) (vn:=1) n8 hJ (λ_ _ _=>rfl) (λ_ _ _=>rfl) (λ_ _ _=>rfl) (λ_ _ _=>rfl) (λ_ _ _=>rfl) (λ_ _ _ _=>rfl) (λ_ _ _ _=>rfl) λ_ _ _ _=>rfl;rw[<-Xk (v:=1) rfl (by trivial)]at k;refine Hs.imp (P:=As n J/\True) (Fj rfl ?_) ⟨λz=>z.1,λz=>⟨z,trivial⟩⟩
 rcases K7 k λ_ _ _=>LU with⟨k,p⟩|⟨⟨es,k⟩,p⟩
 . exact .inl ⟨zc s1<|zc s2 k,p⟩
 . exact .inr ⟨⟨es,zc s1<|zc s2 k⟩,p⟩
def HH{s:Str}(n8:n<=8)(m1:1<=m)(m6:m<=6)(hJ:Tab n n J)(hT:Tab m n T):Hs (Yu [(true,Zm n m J e Ds S),(true,.str s),(true,x_ T)]) (Dn n m J T):=by
 have k:Rr (forL (gN 6) (yL (yt (aC zL aN) yV) (gN 7)<|yL (yt ZW yV) (gN 8)<|yL (yt (aC zL aN) yV) (gN 9) lI) (y9 0 n)<|Me n m J T e Ds S s none none none none) (λas=>∃x y z w,as=Me n m J T e Ds S s x y z w) (Dn n m J T):=by
  refine X4 (fr:=xj) _ _ (λa ha as hI=>?_) ⟨_,_,_,_,rfl⟩;obtain⟨x,y,z,w,rfl⟩:=hI;refine⟨Me n m J T e Ds S s (sI a) y z w,rfl, ?_⟩;rw[Xk (v:=4) (n:=m) rfl<|by trivial];have k:=X4 (v:=7) (n:=m) (fr:=xj) (f:=yL (yt ZW yV) (gN 8)<|yL (yt (aC zL aN) yV) (gN 9) lI) (as:=Me n m J T e Ds S s (sI a) y z w) (λas=>∃y z w,as=Me n m J T e Ds S s (sI a) y z w) _ (λi hi as hI=>by
   obtain⟨y,z,w,rfl⟩:=hI;refine⟨Me n m J T e Ds S s (sI a) (sI i) z w,rfl, ?_⟩;rw[Xk (v:=3) (n:=n) rfl<|by trivial];have k:=X4 (v:=8) (n:=n) (fr:=xj) (f:=yL _ (gN 9) lI) (as:=Me n m J T e Ds S s (sI a) (sI i) z w) (λas=>∃z w,as=Me n m J T e Ds S s (sI a) (sI i) z w) _ (λb hb as hI=>by
    obtain⟨z,w,rfl⟩:=hI;refine⟨Me n m J T e Ds S s (sI a) (sI i) (sI b) w,rfl, ?_⟩;rw[Xk (v:=4) (n:=m) rfl<|by trivial]
    rcases gW (s:=s) (w:=w) (e:=e) (S:=S) hJ hT m1 ha hi hb with⟨as',k1,⟨w',rfl⟩,k3⟩|k
    . exact .inl ⟨_,k1,⟨_,_,rfl⟩,k3⟩
    . exact .inr k) ⟨_,_,rfl⟩
   rcases k with⟨as',k1,⟨z',w',rfl⟩,k3⟩|k
   . exact .inl ⟨_,k1,⟨_,_,_,rfl⟩,k3⟩
   . exact .inr k) ⟨_,_,_,rfl⟩
  rcases k with⟨as',k1,⟨y',z',w',rfl⟩,k3⟩|k
  . exact .inl ⟨_,k1,⟨_,_,_,_,rfl⟩,k3⟩
  . exact .inr k
 rw[<-Xk (v:=3) (n:=n) rfl (by trivial)]at k;have s3:zr true 3 (f2 zm zP zv) [sT<|Zm n m J e Ds S,sT<|.str s,sT<|x_ T,none,none,none,none,none,none,none]=some (.nx _):=zF (i:=3) ⋯ (zh rfl);have s4:zr true 4 (f2 zm zz zv) [sT<|Zm n m J e Ds S,sT<|.str s,sT<|x_ T,sI n,none,none,none,none,none,none]=some (.nx _):=zF (i:=4) ⋯ (zh rfl);have s5:zr true 5 (f2 zm yx zv) [sT<|Zm n m J e Ds S,sT<|.str s,sT<|x_ T,sI n,sI m,none,none,none,none,none]=some _:=zF (i:=5) ⋯ (zh rfl);refine Hs.imp (P:=Dn n m J T/\True) (Fj (n:=10) (m:=3) (c:=YA) rfl ?_) ⟨λz=>z.1,λz=>⟨z,trivial⟩⟩
 rcases K7 k λ_ _ _=>LU with⟨k,p⟩|⟨⟨es,k⟩,p⟩
 . exact .inl ⟨zc s3<|zc s4<|zc s5 k,p⟩
 . exact .inr ⟨⟨es,zc s3<|zc s4<|zc s5 k⟩,p⟩
def EJ(A:Alg n m J e Ds)(L:LawA n m J e Ds):RE (Xh [(true,Zm n m J e Ds S)]) .non:=by
 have n8:=A.n8;have m1:=A.m1;have s1:zr true 1 (f2 zm Y9 zv) [sT<|Zm n m J e Ds S,none,none,none,none]=some (.nx _):=zF ⋯ (zh rfl);obtain⟨as',hf,x,y,z,rfl⟩:=xa (g:=gT 2<|y6 (gN 2)<|y6 (gN 3) Xn) (f:=(zi nS
  (zi _
  (xl (fT<|f2 zL (fC .non)<|zw .IsNot) (zx zL) xj))))
  (λi as=>∃(x y z:Option O),as=[sT _,sI e,x,y,z])
  ((Ds.map XA).map λd=>(true,d)) 0 [sT _,sI e,none,none,none] (λi x as hx' hI=>by
    obtain⟨x,y,z,rfl⟩:=hI;rw[zyB,zzI]at hx';obtain⟨p,hp,rfl⟩:=zzX.mp hx';have mp:=zyA hp;have hT:=A.ds p mp;obtain⟨q1,_⟩:=WB (as:=[sT _,sI e,sT<|.str p.1,sT<|x_ p.2,z]) hT ⟨by trivial,by trivial⟩ ⟨A.e0,A.en⟩ ⋯ (zb) (za (i:=1) rfl);have t1:=ON q1<|za (i:=1) rfl;rw[(L.ld p mp).em,show(!(e==e))=false by simp]at t1;have d:=(HH (s:=p.1) (e:=e) (Ds:=Ds) (S:=S) n8 m1 A.m6 A.j hT).none<|L.dn mp;exact⟨[sT _,sI e,sT<|.str p.1,sT<|x_ p.2,z],rfl,_,zt (zp t1 rfl)<|zt (yU (p:=4) (zX (WD.e<|za (i:=0) rfl) (WD.e<|za (i:=2) rfl) (WD.e<|za (i:=3) rfl) d)<|zh rfl) ⋯,_,_,_,rfl⟩)
  ⟨_,_,_,rfl⟩
 exact zN rfl<|zc s1<|zc (yC (F9 ⋯) hf) ⋯
def Su(A:Alg n m J e Ds)(L:LawA n m J e Ds):RE (Y3 [(true,Zm n m J e Ds S)]) .non:=by
 have r1:=(FI (m:=m) (Ds:=Ds) (S:=S) A.n8 A.j ⟨A.e0,A.en⟩).none L.un;have r2:=(M8 (m:=m) (e:=e) (Ds:=Ds) (S:=S) A.n8 A.j).none L.as;have r3:=EJ (S:=S) A L;have tt:WT (fT<|f2 zk (fC .non)<|zw .Is) [sT<|Zm n m J e Ds S,sT .non] true:=xi ⋯ rfl;exact zN rfl<|zc (yU (xF (WD.e<|za rfl) r1)<|zh rfl)<|zc (yY tt<|yU (xF (WD.e<|za rfl) r2)<|zh rfl)<|zc (yY tt<|yU (xF (WD.e<|za (i:=0) rfl) r3)<|zh rfl)<|zE<|WD.e<|za (i:=1) rfl
end
open L2 (Ug)
abbrev kK(p:Str×TZ):L2.Key×D:=(Sum.inr p.1,Zh p.2)
abbrev jr(p:Str×List Int):L2.Key×D:=(Sum.inr p.1,VJ p.2)
noncomputable abbrev nO:List Str:=["size","around","table","neutral","waits","holders"]
abbrev GB(n m:Nat)(J:TZ)(e:Int)(Ds:DD)(S:SS):D:=.ob "Ways" nO [.int n,.int m,Zh J,.int e,.dct<|Ds.map kK,.dct<|S.map jr]
def YN{α:Type}{f:EF}{as:AS}{g:α->D}{l:List α}(h:WE f as (.lst<|l.map g)):wR f as=some (l.map λa=>(true,g a),as):=by
 have:=oH h
 rwa [zyB]at this
def BV{T:TZ}(hl:T.length<=1000):RE (K6 [(true,x_ T)]) (Zh T):=
 zN rfl (zE<|QQ (VI T (YN<|WD.e ⋯) ⋯ λr _=>⟨[sT _],rfl,QQ (WD.e ⋯) rfl⟩) rfl)
section
variable{n m:Nat}{J:TZ}{e:Int}{Ds:DD}{S:SS}
def Ow(A:Alg n m J e Ds)(L:LawA n m J e Ds):RE (vQ [(true,Zm n m J e Ds S)]) .non:=by
 have h:Z2 (Zj 2 [(true,Zm n m J e Ds S)])=some _:=zt (yU (xF (WD.e ⋯)<|Su A L)<|zh rfl) ⋯;refine⟨.lf true .non, ?_,rfl,rfl⟩;unfold vQ wz;rw[h];rfl
def A0(A:Alg n m J e Ds)(L:LawA n m J e Ds)(sl:S.length<=4)(sn:(S.map (·.1)).Nodup):RE (xR "Ways" [(true,Zm n m J e Ds S)]) (GB n m J e Ds S):=by
 have dl:=A.dl;have n8:=A.n8;have m6:=A.m6;have w1:∀o,WD zk [o,sT<|Zm n m J e Ds S] true (Zm n m J e Ds S):=λo=>za (i:=1) rfl;have h4:∀o,WE pS [o,sT<|Zm n m J e Ds S] (.dct<|Ds.map kK):=λo=>
  ux (vf:=λp=>Zh p.2) A.nd (VI Ds (YN (g:=XA)<|N1 (WD.e<|w1 o) (WD.e zb) rfl) (by omega) λp mp=>⟨[sT<|.str p.1,sT<|x_ p.2],rfl,yR (WD.e<|za (i:=0) rfl)<|xF (WD.e<|za (i:=1) rfl)<|BV<|by rw[(A.ds p mp).1];exact q0J m6⟩)
 have h5:∀o,WE mW [o,sT<|Zm n m J e Ds S] (.dct<|S.map jr):=λo=>
  ux (vf:=λp=>VJ p.2) sn (VI S (YN (g:=UF)<|N1 (WD.e<|w1 o) (WD.e zb) rfl) (by omega) λp mp=>⟨[sT<|.str p.1,sT<|ze p.2],rfl,yR (WD.e<|za (i:=0) rfl)<|QQ (WD.e<|za (i:=1) rfl) rfl⟩)
 have h:ZC (wV 2 (lL "Ways"::[(true,Zm n m J e Ds S)].map Ee))=some _:=
  yT (OU<|xF (WD.e<|w1 _)<|Ow A L) (yT ⋯ (yT ⋯ (yT (wC (c:="Ways") (i:=0) (xF (N1 (WD.e<|w1 _) (WD.e zb) rfl)<|BV<|by rw[A.j.1];exact q0n n8) rfl (by decide +kernel) (by decide +kernel)<|by decide)<|yT ⋯ (yT (wC (c:="Ways") (i:=0) (h4 _) rfl (by decide +kernel) (by decide +kernel)<|by decide)<|wC (c:="Ways") (i:=0) (h5 _) rfl (by decide +kernel) (by decide +kernel)<|by decide))))
 refine⟨.nd (.ob "Ways" nO) [.lf true<|.int n,.lf true<|.int m,.lf true<|Zh J,.lf true<|.int e,.lf true<|.dct<|Ds.map kK,.lf true<|.dct<|S.map jr], ?_,rfl,rfl⟩;unfold xR rY;rw[if_pos (by rfl),h];rfl
def C8{a b:Int}(hJ:Tab n n J)(ha:zT n a)(hb:zT n b):RE (Wg [(true,GB n m J e Ds S),(true,.int a),(true,.int b)]) (.int<|yZ J a b):=
 zN rfl (zE<|WD.e<|Om hJ ha hb ⋯ ⋯ ⋯)
end
structure Cx where
 n:Nat
 m:Nat
 J:TZ
 e:Int
 Ds:DD
 S:SS
abbrev Cx.w(c:Cx):D:=GB c.n c.m c.J c.e c.Ds c.S
abbrev Cx.g(c:Cx):D:=Zm c.n c.m c.J c.e c.Ds c.S
abbrev Cx.h(c:Cx):List Int->Int:=BH c.J c.e
abbrev Cx.In(c:Cx)(r:List Int):Prop:=∀x ∈ r,zT c.n x
structure Cx.Ok(c:Cx):Prop where
 A:Alg c.n c.m c.J c.e c.Ds
 L:LawA c.n c.m c.J c.e c.Ds
structure Cx.W(c:Cx)(T:TZ):Prop where
 t:Tab c.m c.n T
 l:LD c.n c.m (yZ c.J) c.e (yZ T)
def JU:Option TZ->D
 |none=>.non
 |some T=>Zh T
def Cx.wok(c:Cx):Option TZ->Prop
 |none=>True
 |some T=>c.W T
def Cx.ap(c:Cx):Option TZ->List Int->List Int
 |none,r=>r
 |some T,r=>r.map<|yZ T<|1%(c.m:Int)
noncomputable def tn:Bool->List Int->List Int
 |false,r=>r
 |true,r=>r.reverse
noncomputable abbrev ny:List Str:=["whole","back","wait","turn","one","other","deep","size"]
abbrev kn(w b:Int)(q:D)(t:Bool)(x y:D)(p s:Int):D:=.ob "Knot" ny [.int w,.int b,q,.bl t,x,y,.int p,.int s]
inductive TK(c:Cx):D->List Int->Nat->Prop
 |lf (v:Int) (t:Bool):zT c.n v->TK c (kn v v .non t .non .non 0 1) [v] 0
 |nd (w:Option TZ) (t:Bool) {x y:D}{r s:List Int}{p q:Nat}{R:List Int}:TK c x r p->TK c y s q->p<=q+1->q<=p+1->c.wok w->R=tn t (c.ap w (r++s))->TK c (kn (c.h R) (c.h R.reverse) (JU w) t x y ((1+max p q:Nat):Int) (R.length:Int)) R (1+max p q)
section
variable{c:Cx}{d:D}{R:List Int}{p:Nat}
def VO(w:Option TZ)(r:List Int):(c.ap w r).length=r.length:=by cases w with
 |none=>rfl
 |some T=>exact zzB ..
def H_(t:Bool)(r:List Int):(tn t r).length=r.length:=by cases t with
 |false=>rfl
 |true=>exact List.length_reverse ..
def O_(w:Option TZ)(r s:List Int):c.ap w (r++s)=c.ap w r++c.ap w s:=by cases w with
 |none=>rfl
 |some T=>exact zyM ..
def mR(w:Option TZ)(t:Bool)(r:List Int):c.ap w (tn t r)=tn t (c.ap w r):=by cases w with
 |none=>rfl
 |some T=>cases t with
  |false=>rfl
  |true=>exact List.map_reverse ..
theorem Cx.Ok.m1(h:c.Ok):zT c.m (1%(c.m:Int)):=Wn h.A.m1
def oo(h:c.Ok){w:Option TZ}(hw:c.wok w){r:List Int}(k:c.In r):c.In (c.ap w r):=by cases w with
 |none=>exact k
 |some T=>
  intro x mx;obtain⟨z,mz,rfl⟩:=zxB.mp mx;exact hw.l.cl _ _ h.m1<|k z mz
def DO{t:Bool}{r:List Int}(k:c.In r):c.In (tn t r):=by cases t with
 |false=>exact k
 |true=>exact λx mx=>k x<|List.mem_reverse.mp mx
def ET{r s:List Int}(k:c.In r)(l:c.In s):c.In (r++s):=λx mx=>(zzM.mp mx).elim (k x)<|l x
def TK.in(h:c.Ok):TK c d R p->c.In R:=λk=>by
 induction k with
 |lf v t hv=>exact λx mx=>by rcases zzC.mp mx with rfl|mx;exact hv;exact nomatch mx
 |nd w t a b _ _ hw e i j=>subst e;exact DO<|oo h hw<|ET i j
def TK.rev(h:c.Ok)(k:TK c d R p):c.In R.reverse:=DO (t:=true)<|k.in h
noncomputable def fb:Nat->Nat
 |0=>1
 |1=>2
 |k+2=>fb (k+1)+fb k
def p7:∀k,fb k<=fb (k+1)
 |0=>⋯
 |k+1=>by show _<=fb _+fb k;omega
def ua{a b:Nat}(h:a<=b):fb a<=fb b:=by
 induction h with
 |refl=>exact zzN _
 |step _ i=>exact zzO i (p7 _)
theorem TK.fb(k:TK c d R p):fb p<=R.length:=by
 induction k with
 |lf=>exact zzN _
 | @nd w t x y r s p q R a b h1 h2 hw e i j=>
  subst e;rw[H_,VO,zzJ]
  by_cases h:q<=p
  . rw[Nat.max_eq_left h,Nat.add_comm 1 p];cases p with
    |zero=>rw[show q=0 by omega]at j;exact Nat.add_le_add i j
    |succ p=>
     have:G46.fb p<=G46.fb q:=ua ⋯;show G46.fb _+G46.fb p<=_;omega
  . rw[Nat.max_eq_right ⋯,Nat.add_comm 1 q,show q=p+1 by omega];rw[show q=p+1 by omega]at j;show G46.fb _+G46.fb p<=_;omega
def TK.lt(k:TK c d R p)(hl:R.length<=1000):p<20:=by
 refine Nat.lt_of_not_le λh=>?_;have h1:=k.fb;have h2:=ua h;have:G46.fb 20=17711:=⋯;omega
def TK.gt(k:TK c d R p):∃q t x y,d=kn (c.h R) (c.h R.reverse) q t x y p R.length:=by
 cases k with
 |lf v t _=>exact⟨_,_,_,_,rfl⟩
 |nd w t=>exact⟨_,_,_,_,rfl⟩
def W7{a:EF}{as:AS}{w b:Int}{q x y:D}{t:Bool}{p s:Int}{cs:List Str}{f:Str}{v:D}(h:WD a as true (kn w b q t x y p s))(hc:("Knot":Str) ∈ cs)(hl:Ex ny [.int w,.int b,q,.bl t,x,y,.int p,.int s] f=some v):WD (f1 a<|z_ cs f) as true v:=by
 have:=L0 h hc hl
 rwa [zyD]at this
variable{a:EF}{as:AS}
theorem TK.whole(k:TK c d R p)(ha:WD a as true d):WD (f1 a<|z_ vT "whole") as true (.int<|c.h R):=by
 obtain⟨q,t,x,y,rfl⟩:=k.gt;exact W7 ha ⋯ rfl
theorem TK.back(k:TK c d R p)(ha:WD a as true d):WD (f1 a<|z_ Xl "back") as true (.int<|c.h R.reverse):=by
 obtain⟨q,t,x,y,rfl⟩:=k.gt;exact W7 ha ⋯ rfl
theorem TK.deep(k:TK c d R p)(ha:WD a as true d):WD (f1 a<|z_ yE "deep") as true (.int p):=by
 obtain⟨q,t,x,y,rfl⟩:=k.gt;exact W7 ha ⋯ rfl
theorem TK.size(k:TK c d R p)(ha:WD a as true d):WD (f1 a<|z_ wO "size") as true (.int R.length):=by
 obtain⟨q,t,x,y,rfl⟩:=k.gt;exact W7 ha ⋯ rfl
def TK.isN(k:TK c d R p)(ha:WD a as true d):WT (fT<|f2 a (fC .non)<|zw .Is) as false:=by
 obtain⟨q,t,x,y,rfl⟩:=k.gt;exact xi (zV ha zb rfl rfl) rfl
def TK.zero(k:TK c d R p)(ha:WD a as true d):WT (fT<|f2 (f1 a<|z_ yE "deep") zP<|zw .Eq) as (decide (p=0)):=xi (UE (k.deep ha) zb (by
 show some _=_
 by_cases h:p=0
 . subst h;rfl
 . rw[zyG h,beq_eq_false_iff_ne.mpr ⋯])) rfl
end
section
variable{n m:Nat}{J:TZ}{e:Int}{Ds:DD}{S:SS}
def Hl{W1 W2:TZ}{x:D}(h1:Tab m n W1)(h2:Tab m n W2)(m6:m<=6)(n8:n<=8):RE (YB [(true,x),(true,Zh W1),(true,Zh W2)]) (Zh<|bh W1 W2):=by
 have hz:XJ (aC zk Zk) [sT x,sT<|Zh W1,sT<|Zh W2]=some ((W1.zip W2).map λq=>(true,.tup [VJ q.1,VJ q.2]),[sT x,sT<|Zh W1,sT<|Zh W2]):=by
  have:=Cb (as:=[sT x,sT<|Zh W1,sT<|Zh W2]) (WD.e<|za (i:=1) rfl) (WD.e<|za (i:=2) rfl) (.t _)<|.t _;rw[this,List.zip_map,zyB];rfl
 have:=VI (cap:=[none,none]) (gg:=gT 2<|y6 x5<|y6 (gN 1) Xn) (fe:=fP (aC Sa aN) tupP) _ hz (by rw[List.length_zip,h1.1];omega) (λq mq=>by
  obtain⟨q1,q2⟩:=List.of_mem_zip mq;have r1:=h1.2 _ q1;have r2:=h2.2 _ q2;refine⟨[sT<|VJ q.1,sT<|VJ q.2],rfl,QQ (VI (it:=λa=>(true,D.int a)) q.1 ?_ (by rw[r1.1];omega) λa ma=>⟨_,rfl,WD.e<|zV ⋯ ⋯ (pd r2<|r1.2 a ma) rfl⟩) ?_⟩
  . have:=uI (as:=[sT<|VJ q.1,sT<|VJ q.2])<|WD.e<|za (i:=0) rfl
    rwa [zyB]at this
  . show _=some (R0.im<|.tup<|(q.1.map<|Zn q.2).map D.int);rw[zyB];rfl)
 refine zN rfl<|zE<|QQ this ?_;show _=some (R0.im<|.tup<|((W1.zip W2).map λp=>p.1.map<|Zn p.2).map VJ);rw[zyB];rfl
def II{W:TZ}{v k:Int}(m1:1<=m)(h1:Tab m n W)(hv:zT n v):Wi [(true,GB n m J e Ds S),(true,Zh W),(true,.int v),(true,.int k)]=sI (yZ W (k%m) v):=by
 have wa:WD (f1 zm<|z_ W4 "around") [sT<|GB n m J e Ds S,sT<|Zh W,sI v,sI k] true _:=uX rfl ⋯ rfl;exact xX rfl<|xW<|Om h1 (Wn m1) hv ⋯ (zY ⋯ wa ⋯) ⋯
end
def TC{a b c d e f:EF}{as:AS}{x y z u v w o:D}{g:List (Bool×D)->Option O}(ha:WE a as x)(hb:WE b as y)(hc:WE c as z)(hd:WE d as u)(he:WE e as v)(hf:WE f as w)(hg:RE (g [(true,x),(true,y),(true,z),(true,u),(true,v),(true,w)]) o):WE (zg (aC a<|aC b<|aC c<|aC d<|aC e<|aC f aN) g) as o:=by
 obtain⟨o,h1,h2⟩:=hg;exact⟨o,Zr (y8 ha<|y8 hb<|y8 hc<|y8 hd<|y8 he<|y8 hf zq) (by simp;exact h1),h2⟩
abbrev k7(ns:List Str)(os:List O)(w b:Int)(a:D)(t:Bool)(x y:D):AS:=[some<|.nd (.ob "Knot" ns) os,sI w,sI b,sT a,sT<|.bl t,sT x,sT y]
def DJ{w b:Int}{a x y:D}{t:Bool}{p s:Int}(hd:∀ns os,WE mG (k7 ns os w b a t x y)<|.int p)
 (hz:∀ns os,WE pF (k7 ns os w b a t x y)<|.int s):
 RE (ym "Knot" [(true,.int w),(true,.int b),(true,a),(true,.bl t),(true,x),(true,y)]) (kn w b a t x y p s):=by
 have v:∀(i:Nat) (d:D) ns os,(k7 ns os w b a t x y)[i]? = some (sT d)->WE (fV i) (k7 ns os w b a t x y) d:=λi d ns os h=>WD.e<|za h;have h:ZD (wV 7 (lL "Knot"::[(true,.int w),(true,.int b),(true,a),(true,.bl t),(true,x),(true,y)].map Ee))=some (k7 ny _ w b a t x y):=
  yT (wC (i:=0) (ns:=[]) (os:=[]) (v 1 _ _ _ rfl) rfl (by decide +kernel) (by decide +kernel)<|by decide)
  (yT (wC (i:=0) (v 2 _ _ _ rfl) rfl (by decide +kernel) (by decide +kernel)<|by decide)
  (yT (wC (i:=0) (v 3 _ _ _ rfl) rfl (by decide +kernel) (by decide +kernel)<|by decide)
  (yT (wC (i:=0) (v 4 _ _ _ rfl) rfl (by decide +kernel) (by decide +kernel)<|by decide)
  (yT (wC (i:=0) (v 5 _ _ _ rfl) rfl (by decide +kernel) (by decide +kernel)<|by decide)
  (yT (wC (c:="Knot") (i:=0) (v 6 _ _ _ rfl) rfl (by decide +kernel) (by decide +kernel)<|by decide)
  (yT (wC (c:="Knot") (i:=0) (hd _ _) rfl (by decide +kernel) (by decide +kernel)<|by decide)
  (wC (c:="Knot") (i:=0) (hz _ _) rfl (by decide +kernel) (by decide +kernel)<|by decide)))))))
 refine⟨.nd (.ob "Knot" ny) [.lf true<|.int w,.lf true<|.int b,.lf true a,.lf true<|.bl t,.lf true x,.lf true y,.lf true<|.int p,.lf true<|.int s], ?_,rfl,rfl⟩;unfold ym rY;rw[h];rfl
def Mo{w b:Int}{a:D}{t:Bool}:RE (ym "Knot" [(true,.int w),(true,.int b),(true,a),(true,.bl t),(true,.non),(true,.non)]) (kn w b a t .non .non 0 1):=
 DJ (λ_ _=>Fd ⋯ ⋯) λ_ _=>Fd ⋯ ⋯
section
variable{c:Cx}{x y d:D}{r s R:List Int}{p q:Nat}
def PR{w b:Int}{a:D}{t:Bool}(k:TK c x r p)(l:TK c y s q):RE (ym "Knot" [(true,.int w),(true,.int b),(true,a),(true,.bl t),(true,x),(true,y)]) (kn w b a t x y ((1+max p q:Nat):Int) ((r.length+s.length:Nat):Int)):=by
 have v5:∀ns os,WD yN (k7 ns os w b a t x y) true x:=λ_ _=>za rfl;have v6:∀ns os,WD xm (k7 ns os w b a t x y) true y:=λ_ _=>za rfl;refine DJ (λns os=>FC (k.isN ⋯) ?_) λns os=>FC (k.isN ⋯) ?_
 . have h:=zM (zb (x:=.int 1))<|yw (g:=Rc) (zd (k.deep ⋯)<|zd (l.deep<|v6 ns os) zq) rfl rfl;rw[show((1+max p q:Nat):Int)=1+(if(q:Int) > p then(q:Int)else p) by split<;>omega];exact WD.e h
 . have h:=zM (k.size ⋯)<|l.size<|v6 ns os;exact WD.e h
def BU{v:Int}:RE (W3 [(true,.int v)]) (kn v v .non false .non .non 0 1):=
 zN rfl (zE<|TC (WD.e ⋯) (WD.e ⋯) ⋯ ⋯ ⋯ ⋯ Mo)
def TK.mk(h:c.Ok)(w:Option TZ)(t:Bool)(hw:c.wok w)(k:TK c x r p)(l:TK c y s q)(h1:p<=q+1)(h2:q<=p+1){u v:Int}(hu:u=c.h (tn t<|c.ap w<|r++s))(hv:v=c.h (tn t<|c.ap w<|r++s).reverse):TK c (kn u v (JU w) t x y ((1+max p q:Nat):Int) ((r.length+s.length:Nat):Int)) (tn t<|c.ap w<|r++s) (1+max p q):=by
 have:=TK.nd w t k l h1 h2 hw rfl;rw[H_,VO,zzJ]at this
 rwa [hu,hv]
def wF(h:c.Ok)(k:TK c x r p)(l:TK c y s q)(h1:p<=q+1)(h2:q<=p+1):∃d,RE (yz [(true,c.w),(true,x),(true,y)]) d/\TK c d (r++s) (1+max p q):=by
 have v1:WD zk [sT c.w,sT x,sT y] true x:=za rfl;have v2:WD zA [sT c.w,sT x,sT y] true y:=za rfl;have wy:WD zm [sT c.w,sT x,sT y] true c.w:=za rfl;have w1:=Ht (tbl:=Qa) (m:="join") wy (by decide +kernel) rfl (WD.e<|k.whole v1) (WD.e<|l.whole v2)<|C8 h.A.j (ZK h.L.lj<|k.in h)<|ZK h.L.lj<|l.in h;have w2:=Ht (tbl:=Qa) (m:="join") wy (by decide +kernel) rfl (WD.e<|l.back v2) (WD.e<|k.back v1)<|C8 h.A.j (ZK h.L.lj<|l.rev h)<|ZK h.L.lj<|k.rev h;refine⟨_,zN rfl<|zE<|TC w1 w2 (WD.e zb) ⋯ (WD.e v1) (WD.e v2) (PR k l),TK.mk h none false trivial k l h1 h2 ?_ ?_⟩
 . exact(EG h.L.lj (k.in h)<|l.in h).symm
 . show _=c.h (r++s).reverse;rw[List.reverse_append];exact(EG h.L.lj (l.rev h)<|k.rev h).symm
def AU(h:c.Ok){w u:Option TZ}(hw:c.wok w)(hu:c.wok u):∃v,RE (Y1 [(true,c.w),(true,JU w),(true,JU u)]) (JU v)/\c.wok v/\∀r,c.In r->c.ap v r=c.ap u (c.ap w r):=by
 cases w with
 |none=>exact⟨u,zN rfl<|yj<|yH ⋯ (zE<|WD.e<|za rfl),hu,λ_ _=>rfl⟩
 |some A=>
  have t1:∀z,WT (fT<|f2 zk (fC .non)<|zw .Is) [sT c.w,sT<|Zh A,z] false:=λz=>xi ⋯ rfl;cases u with
  |none=>exact⟨some A,zN rfl<|zc ⋯ (yj<|yH ⋯ (zE<|WD.e<|za rfl)),hw,λ_ _=>rfl⟩
  |some B=>
   have m1:=h.m1;have at':∀{i a:Int},zT c.m i->zT c.n a->yZ (bh A B) i a=yZ B i _:=λhi ha=>pN hw.t hu.t hi ha;refine⟨some<|bh A B,zN rfl<|zc ⋯ (zc ⋯ (zE<|Ht (za rfl) ⋯ rfl (WD.e<|za rfl) (WD.e<|za rfl) (Hl hw.t hu.t h.A.m6 h.A.n8))),⟨rz hw.t hu.t, ?_⟩,λr hr=>?_⟩
   . have he:=h.L.lj.ce;have h0:zT c.m 0:=⟨Int.le_refl _,Int.natCast_pos.mpr h.A.m1⟩;refine⟨λi a hi ha=>?_, ?_,λa i b k ha hi hb hk=>?_⟩
     . rw[at' hi ha];exact hu.l.cl _ _ hi<|hw.l.cl _ _ hi ha
     . rw[at' h0 he,hw.l.em,hu.l.em]
     . rw[at' (Wn h.A.m1)<|h.L.lj.cl _ _ ha hb,at' hi ha,at' hk hb,hw.l.dn a i b k ha hi hb hk,hu.l.dn _ i _ k (hw.l.cl _ _ hi ha) hi (hw.l.cl _ _ hk hb) hk]
   . show _=(r.map _).map _;rw[zyB];exact List.map_congr_left λa ma=>at' m1<|hr a ma
def Np(h:c.Ok){T:TZ}(hT:c.W T)(k:TK c d R p):∃d',RE (Zp [(true,c.w),(true,d),(true,Zh T)]) d'/\TK c d' (c.ap (some T) R) p:=by
 have v1:∀a b,WD zk [sT c.w,sT d,sT<|Zh T,a,b] true d:=λ_ _=>za (i:=1) rfl;have mk:∀{v:Int}{j:EF}{a b:Option O},zT c.n v->WE j [sT c.w,sT d,sT<|Zh T,a,b] (.int v)->WE (Yc Pe "made" zm<|aC zA<|aC j<|aC (f1 zk<|z_ wO "size") aN) [sT c.w,sT d,sT<|Zh T,a,b] (.int<|yZ T ((R.length:Int)%c.m) v):=λhv hj=>
  mF (za (i:=0) rfl) (by decide +kernel) rfl (WD.e<|za (i:=2) rfl) hj (WD.e<|k.size<|v1 _ _) (RE.lf<|II h.A.m1 hT.t hv)
 have e1:=Lb (T:=T) h.A.m1 h.L.lj hT.l R<|k.in h;have e2:=Lb (T:=T) h.A.m1 h.L.lj hT.l R.reverse<|k.rev h;rw[List.length_reverse]at e2;have s3:=yU (p:=3) (mk (a:=none) (b:=none) (ZK h.L.lj<|k.in h)<|WD.e<|k.whole<|v1 _ _)<|zh rfl;rw[<-e1]at s3;have s4:=yU (p:=4) (mk (a:=sI<|BH c.J c.e<|R.map<|yZ T<|1%(c.m:Int)) (b:=none) (ZK h.L.lj<|k.rev h)<|WD.e<|k.back<|v1 _ _)<|zh rfl;rw[<-e2]at s4;have t0:=k.zero<|v1 (sI<|BH c.J c.e<|R.map<|yZ T<|1%(c.m:Int)) none;cases k with
 |lf v t hv=>
  exact⟨_,zN rfl<|zc (zp ((TK.lf v t hv).isN<|za (i:=1) rfl) rfl)<|zc s3<|yj<|yH t0<|zE<|xF (WD.e<|za (i:=3) rfl) BU,TK.lf _ false<|hT.l.cl _ _ h.m1 hv⟩
 | @nd w t x y r s p q R k l h1 h2 hw e=>
  obtain⟨v,b1,b2,b3⟩:=AU h hw (show c.wok (some T)from hT);have kk:=TK.nd w t k l h1 h2 hw e;rw[zyG<|by omega]at t0;have f:∀{cs:List Str}{n:Str}{z:D}(a b:Option O),("Knot":Str) ∈ cs->Ex ny _ n=some z->WE (f1 zk<|z_ cs n) _ z:=λa b hc hl=>WD.e<|W7 (v1 a b) hc hl;have eR:c.ap (some T) R=tn t (c.ap v<|r++s):=by rw[e,mR,b3 _<|ET (k.in h)<|l.in h]
  refine⟨_,zN rfl<|zc (zp (kk.isN<|za (i:=1) rfl) rfl)<|zc s3<|zc (zp t0 rfl)<|zc s4<|zE<|TC (WD.e<|za (i:=3) rfl) (WD.e<|za (i:=4) rfl) (zX (WD.e<|za (i:=0) rfl) (f _ _ (by decide +kernel) rfl) (WD.e<|za (i:=2) rfl) b1) (f _ _ (by decide +kernel) rfl) (f _ _ (by decide +kernel) rfl) (f _ _ (by decide +kernel) rfl)<|PR k l, ?_⟩;have:=TK.mk h v t b2 k l h1 h2 (u:=BH c.J c.e<|R.map<|yZ T<|1%(c.m:Int)) (v:=BH c.J c.e<|R.reverse.map<|yZ T<|1%(c.m:Int)) (by rw[<-eR];rfl) (by rw[<-eR,List.map_reverse];rfl);rw[<-eR]at this;exact this
def Uj(h:c.Ok)(k:TK c d R p):∃d',RE (wQ [(true,c.w),(true,d)]) d'/\TK c d' R.reverse p:=by
 have v1:WD zk [sT c.w,sT d] true d:=za (i:=1) rfl;have w1:=WD.e<|k.back v1;have w2:=WD.e<|k.whole v1;have n0:=k.isN v1;cases k with
 |lf v t hv=>
  exact⟨_,zN rfl<|zc (zp n0 rfl)<|zE<|TC w1 w2 (WD.e<|W7 v1 (by decide +kernel) rfl) (WD.e ⋯) (WD.e<|W7 v1 (by decide +kernel) rfl) (WD.e<|W7 v1 (by decide +kernel) rfl) Mo,TK.lf _ _ hv⟩
 | @nd w t x y r s p q R k l h1 h2 hw e=>
  refine⟨_,zN rfl<|zc (zp n0 rfl)<|zE<|TC w1 w2 (WD.e<|W7 v1 (by decide +kernel) rfl) (WD.e<|sC<|W7 v1 (by decide +kernel) rfl) (WD.e<|W7 v1 (by decide +kernel) rfl) (WD.e<|W7 v1 (by decide +kernel) rfl)<|PR k l, ?_⟩;have eR:R.reverse=tn (!t) (c.ap w<|r++s):=by
   rw[e];cases t with
   |false=>rfl
   |true=>exact List.reverse_reverse _
  have:=TK.mk h w (!t) hw k l h1 h2 (v:=c.h R) (by rw[<-eR]) (by rw[<-eR,List.reverse_reverse])
  rwa [<-eR]at this
def Zz(h:c.Ok)(k:TK c d R p)(hp:p≠0):∃x y r s u v,RE (wA [(true,c.w),(true,d)]) (.tup [x,y])/\TK c x r u/\TK c y s v/\u<=v+1/\v<=u+1/\p=1+max u v/\R=r++s:=by
 cases k with
 |lf=>exact absurd rfl hp
 | @nd w t x y r s p q R k l h1 h2 hw e=>
  have v1:∀a b,WD zk [sT c.w,sT _,a,b] true (kn (c.h R) (c.h R.reverse) (JU w) t x y ((1+max p q:Nat):Int) (R.length:Int)):=λ_ _=>za (i:=1) rfl;have s2:=zF (i:=2) (st:=true) (W7 (cs:=Gg) (f:="one") (v1 none none) (by decide +kernel) rfl)<|zh rfl;have s3:=zF (i:=3) (st:=true) (W7 (cs:=WR) (f:="other") (v1 (sT x) none) (by decide +kernel) rfl)<|zh rfl;obtain⟨x',y',q1,q2,q3⟩:∃x' y',xl (fT<|f2 (f1 zk<|z_ ZU "wait") (fC .non)<|zw .IsNot) qE xj [sT c.w,sT<|kn (c.h R) (c.h R.reverse) (JU w) t x y ((1+max p q:Nat):Int) (R.length:Int),sT x,sT y]=some (.nx [sT c.w,sT<|kn (c.h R) (c.h R.reverse) (JU w) t x y ((1+max p q:Nat):Int) (R.length:Int),sT x',sT y'])/\TK c x' (c.ap w r) p/\TK c y' (c.ap w s) q:=by
   cases w with
   |none=>exact⟨x,y,zp ⋯ rfl,k,l⟩
   |some T=>
    obtain⟨x',a1,a2⟩:=Np h hw k;obtain⟨y',b1,b2⟩:=Np h hw l;have wt:∀a b,WE (f1 zk<|z_ ZU "wait") _ (Zh T):=λa b=>WD.e<|W7 (v1 a b) (by decide +kernel) rfl;exact⟨x',y',yY ⋯ (zt (yU (p:=2) (zX (WD.e<|za (i:=0) rfl) (WD.e<|za (i:=2) rfl) (wt _ _) a1)<|zh rfl)<|yU (p:=3) (zX (WD.e<|za (i:=0) rfl) (WD.e<|za (i:=3) rfl) (wt _ _) b1)<|zh rfl),a2,b2⟩
  have tt:WT (fT<|f1 zk<|z_ W0 "turn") [sT c.w,sT _,sT x',sT y'] t:=xi (W7 (v1 _ _) (by decide +kernel) rfl) rfl;cases t with
  |false=>exact⟨x',y',_,_,p,q,zN rfl<|zc s2<|zc s3<|zc q1<|zc (zp tt rfl)<|zE<|yR (WD.e<|za (i:=2) rfl)<|WD.e<|za (i:=3) rfl,q2,q3,h1,h2,rfl,by rw[e,O_];rfl⟩
  |true=>
   obtain⟨x'',a1,a2⟩:=Uj h q2;obtain⟨y'',b1,b2⟩:=Uj h q3;exact⟨y'',x'',_,_,q,p,zN rfl<|zc s2<|zc s3<|zc q1<|yj<|yH tt<|zE<|yR (yQ (WD.e<|za (i:=0) rfl) (WD.e<|za (i:=3) rfl) b1)<|yQ (WD.e<|za (i:=0) rfl) (WD.e<|za (i:=2) rfl) a1,b2,a2,h2,h1,by rw[Nat.max_comm],by rw[e,O_];exact List.reverse_append⟩
end
def lA{f:EF}{as:AS}{d:D}(hd:zC d=true)(h:WE f as d):WD f as true d:=by
 obtain⟨o,h,h1,h2⟩:=h;cases o with
 |lf s x=>subst h2;rwa [show s=true from h1]at h
 |nd k os=>subst h2;cases k<;>cases hd
def tK{f:EF}{as:AS}{k:Bool}(h:WE f as (.bl k)):WT (fT f) as k:=xi (lA rfl h) rfl
def Bn{a b c:EF}{as:AS}{x y z:D}(ha:WE a as x)(hb:WE b as y)(hc:WE c as z):WE (yd<|dC a<|dC b<|dC c dN) as (.tup [x,y,z]):=by
 obtain⟨o1,a1,a2,a3⟩:=ha;obtain⟨o2,b1,b2,b3⟩:=hb;obtain⟨o3,c1,c2,c3⟩:=hc;have h:=M9 (Tf a1<|Tf b1<|Tf c1 yu)<|WY rfl;have hs:O.strs [o1,o2,o3]=true:=by show(o1.str&&(o2.str&&(o3.str&&true)))=_;rw[a2,b2,c2];rfl
 refine⟨_,h, ?_, ?_⟩
 . unfold XO
   split
   . exact hs
   . exact hs
 . unfold XO
   split
   . show D.tup [o1.toD,o2.toD,o3.toD]=_;rw[a3,b3,c3]
   . show D.tup [o1.toD,o2.toD,o3.toD]=_;rw[a3,b3,c3]
section
variable{c:Cx}{x y d:D}{r s R:List Int}{p q:Nat}
def OT(c:Cx)(d:D)(R:List Int):Prop:=(d = .non/\R=[])\/∃p,TK c d R p
def TK.o(k:TK c d R p):OT c d R:=.inr ⟨p,k⟩
def OT.n:OT c .non []:=.inl ⟨rfl,rfl⟩
theorem OT.in(h:c.Ok)(k:OT c d R):c.In R:=by
 rcases k with⟨_,rfl⟩|⟨p,k⟩
 . exact λ_ m=>nomatch m
 . exact k.in h
def RX(k:OT c d R):RE (xu [(true,d)]) (.int R.length):=by
 rcases k with⟨rfl,rfl⟩|⟨p,k⟩
 . exact zN rfl<|zE<|Fd ⋯ (WD.e zb)
 . exact zN rfl<|zE<|FC (k.isN ⋯)<|WD.e<|k.size ⋯
def y7{as:AS}{j:Nat}{i:Int}{ds:List D}{z:D}(h:as[j]? = some (sT<|.tup ds))(hz:zv (.tup ds) (.int i)=some (.im z)):WD (f2 (fV j) (fC<|.int i) zv) as true z:=vZ ⋯ zb hz
end
def Ut{f:EF}{as:AS}{s:Bool}{y:D}{fl fh:OF}{lo hi:Option Int}{r:List Int}(ha:WD f as s y)(hl:fl as=some (lo,as))(hh:fh as=some (hi,as))(hg:YF y lo hi=some (.fl<|r.map D.int)):WE (Yk f fl fh YF) as (ze r):=by
 refine⟨vP r, ?_,Qs r⟩;unfold Yk;rw[ha];show((fl as).bind _)=_;rw[hl];show((fh as).bind _)=_;rw[hh];show((YF y lo hi).bind _)=_;rw[hg];show(if _=true then some _ else none:Option RV).bind _=_;rw[if_pos (by simp),zyB];rfl
def slt{n:Nat}(h:n<1000):n<sizeLine:=zzK h ⋯
def Uk{f:EF}{as:AS}{r:List Int}(h:f as=some (.ow<|vP r,as)):WE f as (ze r):=⟨_,h,Qs r⟩
noncomputable def dg:Int->List Int->List Int
 |_,[]=>[]
 |x,z::r=>x%z::dg (x/z) r
theorem PC:∀(l:List Int) (x:Int),(dg x l).length=l.length
 | [],_=>rfl
 |_::r,x=>congrArg (· + 1)<|PC r _
theorem Be{n:Nat}(hn:1<=n):∀(k:Nat) (x:Int),∀v ∈ dg x (List.replicate k (n:Int)),zT n v
 |0,_,v,m=>nomatch m
 |k+1,x,v,m=>by
  rcases zzC.mp m with rfl|m
  . exact Wn hn
  . exact Be hn k _ v m
abbrev gp:SF:=(zi (zW<|vL 2 (dC (f2 zm zB zJ) dN) ZG)
 (zr true 0<|f2 zm zB zy))
theorem CA{B:Option O}:∀(sz:List Int) (x:Int) (acc:List Int) (e3:Option O),(∀z ∈ sz,0<z/\z<1000000)->acc.length+sz.length<=900->∃x' e3',forL (gN 3) gp (sz.map λz=>(true,D.int z)) [sI x,B,some<|vP acc,e3]=some (.nx [sI x',B,some<|vP<|acc++dg x sz,e3'])
 | [],x,acc,e3,_,_=>⟨x,e3,by rw[show acc++dg x []=acc from zyE _];rfl⟩
 |z::sz,x,acc,e3,h,hl=>by
  have hz:=h z<|zzF ..;rw[zzT]at hl;obtain⟨x',f3,hf⟩:=CA sz (x/z) (acc++[x%z]) (sI z) (λy m=>h y<|zzD _ m) (by rw[zzJ];show acc.length+1+sz.length<=900;exact q1v hl);rw[zxA]at hf;refine⟨x',f3,YL rfl (zt (as1:=[sI x,B,some _,sI z]) ?_<|zF (xJ ⋯ ⋯ hz.1 (zD ⋯ (by omega)))<|zh rfl) hf⟩;have ap:=Qn (i:=2) (as:=[sI x,B,some<|vP acc,sI z]) rfl (zY (za (i:=0) rfl) ⋯ hz.1) rfl (by rw[zzB];exact slt<|by omega)
  rwa [<-Mg]at ap
def Hi{x:Int}{sz:List Int}(h:∀z ∈ sz,0<z/\z<1000000)(hl:sz.length<=900):yA [(true,.int x),(true,ze sz)]=some (vP<|dg x sz):=by
 obtain⟨x',e3,hf⟩:=CA sz x [] none h (by show 0+_<=_;omega);have it:Wc zk [sI x,sT<|ze sz,some<|vP [],none]=some (sz.map λz=>(true,D.int z),[sI x,sT<|ze sz,some<|vP [],none]):=by
  have:=Hz<|WD.e<|za (as:=[sI x,sT<|ze sz,some<|vP [],none]) (i:=1) rfl
  rwa [zyB]at this
 exact xX rfl<|zt ⋯ (zt (yC it hf)<|RZ rfl (Zu _).2.1)
def EH{a b:EF}{as:AS}{x:Int}{sz:List Int}(h:∀z ∈ sz,0<z/\z<1000000)(hl:sz.length<=900)(ha:WE a as (.int x))(hb:WE b as (ze sz)):WE (zg (aC a<|aC b aN) yA) as (ze<|dg x sz):=yQ ha hb ⟨_,Hi h hl,Qs _⟩
def Lg(p n:Nat):Prop:=n<=2 ^ p/\(p=0\/2 ^ (p-1)<n)
def rJ{p q a b:Nat}(ha:1<=a)(h1:a<=b)(h2:b<=a+1)(hp:Lg p a)(hq:Lg q b):p<=q/\q<=p+1/\Lg (1+max p q) (a+b):=by
 obtain⟨p1,p2⟩:=hp;obtain⟨q1,q2⟩:=hq;have e1:p<=q:=by
  rcases p2 with p2|p2
  . omega
  . refine Nat.le_of_not_lt λh=>?_;have:=Nat.pow_le_pow_right (n:=2) (by decide) (show q<=p-1 by omega);omega
 have e2:q<=p+1:=by
  rcases q2 with q2|q2
  . omega
  . refine Nat.le_of_not_lt λh=>?_;have:=Nat.pow_le_pow_right (n:=2) (by decide) (show p+1<=q-1 by omega);omega
 refine⟨e1,e2, ?_⟩;rw[Nat.max_eq_right e1];refine⟨?_,.inr ?_⟩
 . rw[Nat.add_comm 1 q];omega
 . rw[show 1+q-1=q by omega]
   rcases q2 with q2|q2
   . subst q2;omega
   . obtain⟨r,rfl⟩:∃r,q=r+1:=⟨q-1,by
      have:q≠0:=λz=>by subst z;omega
      omega⟩
     rw[Nat.add_sub_cancel]at q2;omega
section
variable{c:Cx}{x y d:D}{r s R:List Int}{p q:Nat}
theorem Nx(h:c.Ok):∀(k:Nat) (r:List Int),1<=r.length->r.length<=2 ^ k->r.length<=1000->c.In r->∀s:Bool,∃d p,RE (vI (k+1) [(true,c.w),(s,ze r)]) d/\TK c d r p/\Lg p r.length
 |k,r,h1,h2,hk,hv,s=>by
  have wl:=λz=>by
   have:=yw (as:=[sT c.w,some<|.lf s<|ze r,z]) (g:=y4) (x:=.int ((r.map D.int).length:Nat)) (zd (za (i:=1) (x:=ze r) (s:=s) rfl) zq) rfl rfl;rw[zzB]at this;exact this
  have t0:WT (fT<|f2 (fP xp y4) zP<|zw .Eq) [sT c.w,some<|.lf s<|ze r,none] false:=xi (UE (c:=false) (wl _) zb (by show some ((r.length:Int)==0)=_;rw[beq_eq_false_iff_ne.mpr<|by omega])) rfl;have t1:WT (fT<|f2 (fP xp y4) zz<|zw .Eq) [sT c.w,some<|.lf s<|ze r,none] (decide (r.length=1)):=xi (UE (c:=decide (r.length=1)) (wl _) zb (by
   show some ((r.length:Int)==1)=_
   by_cases h:r.length=1
   . rw[h];rfl
   . rw[beq_eq_false_iff_ne.mpr (by omega),zyG h])) rfl
  by_cases hr:r.length=1
  . rw[zyO hr]at t1
    match r,hr with
    | [v],_=>
     exact⟨_,0,zN rfl<|zc (zp t0 rfl)<|yj<|yH t1<|zE<|xF (WD.e<|zV (z:=.int v) (za (i:=1) rfl) zb rfl rfl) BU,.lf v false<|hv v zzF,⟨zzN _,.inl rfl⟩⟩
  . rw[zyG hr]at t1;cases k with
    |zero=>exact absurd (show r.length<=1 from h2) (by omega)
    |succ k=>
     rw[Nat.pow_succ]at h2;have s3:zr true 2 (f2 (fP xp y4) yx zy) [sT c.w,some<|.lf s<|ze r,none]=some (.nx [sT c.w,some<|.lf s<|ze r,sI ((r.length/2:Nat):Int)]):=zF (i:=2) (xJ (wl none) (zb (x:=.int 2)) (by decide)<|zD (by decide)<|by decide)<|zh rfl;have l1:(r.take<|r.length/2).length=r.length/2:=by rw[zzS];omega
     have l2:(r.drop<|r.length/2).length=r.length-r.length/2:=List.length_drop;obtain⟨x,p,a1,a2,a3⟩:=Nx h k (r.take<|r.length/2) (by omega) (by omega) (by omega) (λv mv=>hv v<|List.mem_of_mem_take mv) true;obtain⟨y,q,b1,b2,b3⟩:=Nx h k (r.drop<|r.length/2) (by omega) (by omega) (by omega) (λv mv=>hv v<|List.mem_of_mem_drop mv) true;rw[l1]at a3;rw[l2]at b3;obtain⟨q1,q2,q3⟩:=rJ (by omega) (by omega) (by omega) a3 b3;obtain⟨d,d1,d2⟩:=wF h a2 b2 (by omega) (by omega);have sp:(r.map D.int)=(r.take<|r.length/2).map D.int++(r.drop<|r.length/2).map D.int:=by rw[<-zyM,List.take_append_drop]
     have c1:=OK (xs:=(r.take<|r.length/2).map D.int) (ys:=(r.drop<|r.length/2).map D.int);have c2:=NZ (xs:=(r.take<|r.length/2).map D.int) (ys:=(r.drop<|r.length/2).map D.int);rw[<-sp,zzB,l1]at c1 c2;have w1:WE (Yk zk oN (oS zA) YF) [sT c.w,some<|.lf s<|ze r,sI ((r.length/2:Nat):Int)] (ze<|r.take<|r.length/2):=Ut (za (i:=1) rfl) rfl rfl c1;have w2:WE (Yk zk (oS zA) oN YF) [sT c.w,some<|.lf s<|ze r,sI ((r.length/2:Nat):Int)] (ze<|r.drop<|r.length/2):=Ut (za (i:=1) rfl) rfl rfl c2;have wy:WE zm [sT c.w,some<|.lf s<|ze r,sI ((r.length/2:Nat):Int)] c.w:=WD.e<|za (i:=0) rfl;rw[List.take_append_drop]at d2;exact⟨d,_,zN rfl<|zc (zp t0 rfl)<|zc (zp t1 rfl)<|zc s3<|zE<|zX wy (yQ wy w1 a1) (yQ wy w2 b1) d1,d2,by rw[show r.length/2+(r.length-r.length/2)=r.length by omega]at q3;exact q3⟩
def HI(h:c.Ok)(hl:r.length<=1000)(hv:c.In r)(s:Bool):∃d,RE (vI 20 [(true,c.w),(s,ze r)]) d/\OT c d r:=by
 by_cases e:r=[]
 . subst e;exact⟨.non,zN rfl<|yj<|yH ⋯ ⋯,.n⟩
 . obtain⟨d,p,a,b,_⟩:=Nx h 19 r (List.length_pos_iff.mpr e) (zzO hl<|by decide) hl hv s;exact⟨d,a,b.o⟩
def lM{a b:EF}{as:AS}(k:TK c x r p)(l:TK c y s q)(ha:WD a as true x)(hb:WD b as true y):WT (fT<|f2 (f1 a<|z_ yE "deep") (f2 (f1 b<|z_ yE "deep") zz zo)<|zw .Gt) as (decide (q+1<p)):=by
 have:=xi (DX (k.deep ha)<|zM (l.deep hb)<|zb (x:=.int 1)) rfl
 rwa [show decide _=decide (q+1<p)from decide_eq_decide.mpr ⋯]at this
def iD{a b:EF}{as:AS}(k:TK c x r p)(l:TK c y s q)(ha:WD a as true x)(hb:WD b as true y):WT (fT<|f2 (f1 a<|z_ yE "deep") (f1 b<|z_ yE "deep")<|zw .GtE) as (decide (q<=p)):=by
 have:=xi (oX (k.deep ha)<|l.deep hb) rfl
 rwa [show decide _=decide (q<=p)from decide_eq_decide.mpr ⋯]at this
def Af(h:c.Ok)(k:TK c x r p)(l:TK c y s q)(e:p=q+2):∃d u,RE (YC [(true,c.w),(true,x),(true,y)]) d/\TK c d (r++s) u/\p<=u/\u<=p+1:=by
 obtain⟨x1,x2,r1,r2,p1,p2,k0,k1,k2,k3,k4,k5,rfl⟩:=Zz h k (q1B e);have wy:∀a b,WE zm [sT c.w,sT x,sT y,a,b] c.w:=λ_ _=>WD.e<|za (i:=0) rfl;have v2:∀a b,WE zA [sT c.w,sT x,sT y,a,b] y:=λ_ _=>WD.e<|za (i:=2) rfl;have s3:=yU (p:=3) (yQ (wy none none) (WD.e<|za (i:=1) rfl) k0)<|zh rfl;have u0:∀b,WD (f2 zB zP zv) [sT c.w,sT x,sT y,sT<|.tup [x1,x2],b] true x1:=λ_=>y7 (j:=3) rfl rfl;have u1:∀b,WD (f2 zB zz zv) [sT c.w,sT x,sT y,sT<|.tup [x1,x2],b] true x2:=λ_=>y7 (j:=3) rfl rfl;have t:=iD k1 k2 (u0 none)<|u1 none
 by_cases g:p2<=p1
 . rw[zyO g]at t;obtain⟨d1,a1,a2⟩:=wF h k2 l (by omega) (by omega);obtain⟨d2,b1,b2⟩:=wF h k1 a2 (by omega) (by omega);rw[<-zxA]at b2;exact⟨d2,_,zN rfl<|zc s3<|yj<|yH t<|zE<|zX (wy _ _) (WD.e<|u0 _) (zX (wy _ _) (WD.e<|u1 _) (v2 _ _) a1) b1,b2,by omega,by omega⟩
 . rw[zyG g]at t;obtain⟨z1,z2,s1,s2,q1,q2,l0,l1,l2,l3,l4,l5,rfl⟩:=Zz h k2 (by omega);obtain⟨d1,a1,a2⟩:=wF h k1 l1 (by omega) (by omega);obtain⟨d2,b1,b2⟩:=wF h l2 l (by omega) (by omega);obtain⟨d3,c1,c2⟩:=wF h a2 b2 (by omega) (by omega);have s4:=yU (p:=4) (yQ (wy _ _) (WD.e<|u1 none) l0)<|zh rfl;rw[show r1++s1++(s2++s)=r1++(s1++s2)++s by simp only[zxA]]at c2;exact⟨d3,_,zN rfl<|zc s3<|zc (zp t rfl)<|zc s4<|zE<|zX (wy _ _) (zX (wy _ _) (WD.e<|u0 _) (WD.e<|y7 (j:=4) rfl rfl) a1) (zX (wy _ _) (WD.e<|y7 (j:=4) rfl rfl) (v2 _ _) b1) c1,c2,by omega,by omega⟩
def CW(h:c.Ok)(k:TK c x r p)(l:TK c y s q)(e:q=p+2):∃d u,RE (ZZ [(true,c.w),(true,x),(true,y)]) d/\TK c d (r++s) u/\q<=u/\u<=q+1:=by
 obtain⟨x1,x2,r1,r2,p1,p2,k0,k1,k2,k3,k4,k5,rfl⟩:=Zz h l (q1B e);have wy:∀a b,WE zm [sT c.w,sT x,sT y,a,b] c.w:=λ_ _=>WD.e<|za (i:=0) rfl;have v1:∀a b,WE zk [sT c.w,sT x,sT y,a,b] x:=λ_ _=>WD.e<|za (i:=1) rfl;have s3:=yU (p:=3) (yQ (wy none none) (WD.e<|za (i:=2) rfl) k0)<|zh rfl;have u0:∀b,WD (f2 zB zP zv) [sT c.w,sT x,sT y,sT<|.tup [x1,x2],b] true x1:=λ_=>y7 (j:=3) rfl rfl;have u1:∀b,WD (f2 zB zz zv) [sT c.w,sT x,sT y,sT<|.tup [x1,x2],b] true x2:=λ_=>y7 (j:=3) rfl rfl;have t:=iD k2 k1 (u1 none)<|u0 none
 by_cases g:p1<=p2
 . rw[zyO g]at t;obtain⟨d1,a1,a2⟩:=wF h k k1 (by omega) (by omega);obtain⟨d2,b1,b2⟩:=wF h a2 k2 (by omega) (by omega);rw[zxA]at b2;exact⟨d2,_,zN rfl<|zc s3<|yj<|yH t<|zE<|zX (wy _ _) (zX (wy _ _) (v1 _ _) (WD.e<|u0 _) a1) (WD.e<|u1 _) b1,b2,by omega,by omega⟩
 . rw[zyG g]at t;obtain⟨z1,z2,s1,s2,q1,q2,l0,l1,l2,l3,l4,l5,rfl⟩:=Zz h k1 (by omega);obtain⟨d1,a1,a2⟩:=wF h k l1 (by omega) (by omega);obtain⟨d2,b1,b2⟩:=wF h l2 k2 (by omega) (by omega);obtain⟨d3,c1,c2⟩:=wF h a2 b2 (by omega) (by omega);have s4:=yU (p:=4) (yQ (wy _ _) (WD.e<|u0 none) l0)<|zh rfl;rw[show r++s1++(s2++r2)=r++(s1++s2++r2) by simp]at c2;exact⟨d3,_,zN rfl<|zc s3<|zc (zp t rfl)<|zc s4<|zE<|zX (wy _ _) (zX (wy _ _) (v1 _ _) (WD.e<|y7 (j:=4) rfl rfl) a1) (zX (wy _ _) (WD.e<|y7 (j:=4) rfl rfl) (WD.e<|u1 _) b1) c1,c2,by omega,by omega⟩
def BM(h:c.Ok)(k:TK c x r p)(l:TK c y s q)(h1:p<=q+2)(h2:q<=p+2):∃d u,RE (VW [(true,c.w),(true,x),(true,y)]) d/\TK c d (r++s) u/\max p q<=u/\u<=1+max p q/\(p<=q+1->q<=p+1->u=1+max p q):=by
 have v1:WD zk [sT c.w,sT x,sT y] true x:=za rfl;have v2:WD zA [sT c.w,sT x,sT y] true y:=za rfl;have wy:WE zm [sT c.w,sT x,sT y] c.w:=WD.e ⋯;have t1:=lM k l v1 v2;have t2:=lM l k v2 v1
 by_cases g:q+1<p
 . rw[zyO g]at t1;obtain⟨d,u,a,b,b1,b2⟩:=Af h k l ⋯;exact⟨d,u,zN rfl<|yj<|yH t1<|zE<|zX wy (WD.e v1) (WD.e v2) a,b,⋯,⋯,⋯⟩
 . rw[zyG g]at t1
   by_cases g2:p+1<q
   . rw[zyO g2]at t2;obtain⟨d,u,a,b,b1,b2⟩:=CW h k l ⋯;exact⟨d,u,zN rfl<|zc (zp t1 rfl)<|yj<|yH t2<|zE<|zX wy (WD.e v1) (WD.e v2) a,b,⋯,⋯,⋯⟩
   . rw[zyG g2]at t2;obtain⟨d,a,b⟩:=wF h k l ⋯ ⋯;exact⟨d,_,zN rfl<|zc (zp t1 rfl)<|zc (zp t2 rfl)<|zE<|zX wy (WD.e v1) (WD.e v2) a,b,⋯,⋯,λ_ _=>rfl⟩
theorem El(h:c.Ok):∀(n:Nat) {x y:D}{r s:List Int}{p q:Nat},TK c x r p->TK c y s q->p<n->q<n->∃d u,RE (yk n [(true,c.w),(true,x),(true,y)]) d/\TK c d (r++s) u/\max p q<=u/\u<=1+max p q
 |0,_,_,_,_,_,_,_,_,h,_=>absurd h (Nat.not_lt_zero _)
 |n+1,x,y,r,s,p,q,k,l,hp,hq=>by
  have v1:∀a,WD zk [sT c.w,sT x,sT y,a] true x:=λ_=>za (i:=1) rfl;have v2:∀a,WD zA [sT c.w,sT x,sT y,a] true y:=λ_=>za (i:=2) rfl;have wy:∀a,WE zm [sT c.w,sT x,sT y,a] c.w:=λ_=>WD.e<|za (i:=0) rfl;have t1:=lM k l (v1 none)<|v2 none;have t2:=lM l k (v2 none)<|v1 none;have n1:=k.isN<|v1 none;have n2:=l.isN<|v2 none
  by_cases g:q+1<p
  . rw[zyO g]at t1;obtain⟨x1,x2,r1,r2,p1,p2,k0,k1,k2,k3,k4,k5,rfl⟩:=Zz h k (q1q g);obtain⟨d,u,a1,a2,a3,a4⟩:=El h n k2 l (by omega) (by omega);obtain⟨d',u',b1,b2,b3,b4,b5⟩:=BM h k1 a2 (by omega) (by omega);have s3:=yU (p:=3) (yQ (wy none) (WD.e<|v1 _) k0)<|zh rfl;rw[<-zxA]at b2;exact⟨d',u',zN rfl<|zc (zp n1 rfl)<|zc (zp n2 rfl)<|yj<|yH t1<|zc s3<|zE<|zX (wy _) (WD.e<|y7 (j:=3) rfl rfl) (zX (wy _) (WD.e<|y7 (j:=3) rfl rfl) (WD.e<|v2 _) a1) b1,b2,by omega,by omega⟩
  . rw[zyG g]at t1
    by_cases g2:p+1<q
    . rw[zyO g2]at t2;obtain⟨x1,x2,r1,r2,p1,p2,k0,k1,k2,k3,k4,k5,rfl⟩:=Zz h l (q1q g2);obtain⟨d,u,a1,a2,a3,a4⟩:=El h n k k1 (by omega) (by omega);obtain⟨d',u',b1,b2,b3,b4,b5⟩:=BM h a2 k2 (by omega) (by omega);have s3:=yU (p:=3) (yQ (wy none) (WD.e<|v2 _) k0)<|zh rfl;rw[zxA]at b2;exact⟨d',u',zN rfl<|zc (zp n1 rfl)<|zc (zp n2 rfl)<|zc (zp t1 rfl)<|yj<|yH t2<|zc s3<|zE<|zX (wy _) (zX (wy _) (WD.e<|v1 _) (WD.e<|y7 (j:=3) rfl rfl) a1) (WD.e<|y7 (j:=3) rfl rfl) b1,b2,by omega,by omega⟩
    . rw[zyG g2]at t2;obtain⟨d,a,b⟩:=wF h k l (by omega) (by omega);exact⟨d,_,zN rfl<|zc (zp n1 rfl)<|zc (zp n2 rfl)<|zc (zp t1 rfl)<|zc (zp t2 rfl)<|zE<|zX (wy _) (WD.e<|v1 _) (WD.e<|v2 _) a,b,by omega,by omega⟩
def MW(h:c.Ok)(k:OT c x r)(l:OT c y s)(h1:r.length<=1000)(h2:s.length<=1000):∃d,RE (yk 20 [(true,c.w),(true,x),(true,y)]) d/\OT c d (r++s):=by
 have wN:WT (fT<|f2 zk (fC .non)<|zw .Is) [sT c.w,sT .non,sT y,none] true:=xi ⋯ rfl
 rcases k with⟨rfl,rfl⟩|⟨p,k⟩
 . exact⟨y,zN rfl<|yj<|yH wN<|zE<|WD.e ⋯,l⟩
 rcases l with⟨rfl,rfl⟩|⟨q,l⟩
 . refine⟨x,zN rfl<|zc (zp (k.isN ⋯) rfl)<|yj<|yH ⋯ (zE<|WD.e ⋯), ?_⟩;rw[zyE];exact k.o
 . obtain⟨d,u,a,b,_⟩:=El h 20 k l (k.lt h1)<|l.lt h2;exact⟨d,a,b.o⟩
end
noncomputable abbrev SW:Int:=1000*10 ^ (64:Int).toNat
def Eb:(0:Int)<SW:=⋯
def eqT{a b:EF}{as:AS}{x y:Int}{s t q:Bool}(ha:WD a as s (.int x))(hb:WD b as t (.int y))(e:(x==y)=q):WT (fT<|f2 a b<|zw .Eq) as q:=xi (UE ha hb<|congrArg some e) rfl
def lb{x y:Int}(h0:0<=x)(h1:x<y)(hy:y<=10 ^ 200:=by decide):x.natAbs<big:=zD (Int.lt_of_lt_of_le (by decide) h0)<|Int.lt_of_lt_of_le h1 hy
def Zt{as:AS}{a b:EF}{ns:List Int}{k:Int}(ha:WD a as true (ze ns))(hb:WD b as true (.int k))(h0:0<=k)(h1:k<ns.length):∃v,WD (f2 a b zv) as true (.int v):=by
 obtain⟨v,e,_⟩:=HW h0 h1 λ_ _=>trivial;exact⟨v,zV ha hb e rfl⟩
abbrev gx:SF:=(zi pG
 pH)
def Dh{ns:List Int}{k:Nat}(hk:k<=100):∃x:Int,0<=x/\yo [(true,.lst<|ns.map .int),(true,.int k)]=sI x:=by
 have s2:zr true 2 mN [sT<|ze ns,sI k,none,none,none,none]=some (.nx [sT<|ze ns,sI k,sI SW,none,none,none]):=zF (i:=2) (xq zb (Ou zb zb ⟨by decide,by decide,by decide⟩) (zD (by decide)<|by decide)<|zD (by decide)<|by decide)<|zh rfl;have wl:∀as:AS,as[0]? = some (sT<|ze ns)->WD (fP vN y4) as true (.int (ns.length:Nat)):=λas h=>by
  have:=yw (g:=y4) (x:=.int ((ns.map D.int).length:Nat)) (zd (za h) zq) rfl rfl
  rwa [zzB]at this
 by_cases h:(k:Int)<(ns.length:Int)
 . obtain⟨v,w⟩:=Zt (as:=[sT<|ze ns,sI k,sI SW,none,none,none]) (a:=fV 0) (b:=fV 1) (ns:=ns) (k:=k) (za rfl) (za rfl) (q0z hk) h;refine⟨_,zyN _<|Int.ne_of_gt Eb,xX rfl<|zt s2<|Zs<|yY (xi (Bb (za (i:=1) rfl)<|wl _ rfl)<|congrArg some<|zyO h)<|xW<|zY (xq (zY w (za (i:=2) rfl) Eb) (Ou zb zb ⟨by decide,by decide,by decide⟩) (lb (zyN _<|Int.ne_of_gt Eb)<|zyH _ Eb)<|zD (by decide)<|by decide) (za (i:=2) rfl) Eb⟩
 . have t0:=zp (f:=zx nW) (g:=xj) (xi (Bb (as:=[sT<|ze ns,sI k,sI SW,none,none,none]) (za (i:=1) (x:=.int k) (s:=true) rfl)<|wl _ rfl)<|congrArg some<|zyG h) rfl;have kb:((k:Int)).natAbs<big:=zD (by omega) (by omega);have s3:zr true 3 pW [sT<|ze ns,sI k,sI SW,none,none,none]=some (.nx [sT<|ze ns,sI k,sI SW,sI<|(k:Int)*k+7*k+11,none,none]):=zF (i:=3) (zM (zM (xq (za (i:=1) rfl) (za (i:=1) rfl) kb kb)<|xq zb (za (i:=1) rfl) (zD (by decide)<|by decide) kb) zb)<|zh rfl;have kk:(k:Int)*k<=10000:=by
    have:=Int.mul_le_mul (show(k:Int)<=100 by omega) (show(k:Int)<=100 by omega) (q0z hk) (by omega);omega
   have k0:0<=(k:Int)*k:=Int.mul_nonneg (q0z hk) (q0z hk);obtain⟨x0,p0,p1,s4⟩:∃x0:Int,0<=x0/\x0<10 ^ 12/\xl (fT<|f2 zm (zZ dN)<|zw .NotEq) qZ xj [sT<|ze ns,sI k,sI SW,sI<|(k:Int)*k+7*k+11,none,none]=some (.nx [sT<|ze ns,sI k,sI SW,sI x0,none,none]):=by
    have nn:WT (fT<|f2 zm (zZ dN)<|zw .NotEq) [sT<|ze ns,sI k,sI SW,sI<|(k:Int)*k+7*k+11,none,none] (!ns.isEmpty):=xi (BP (g:=zw .NotEq) (z:=.bl<|!ns.isEmpty) (WD.e<|za (i:=0) rfl) (xG (x:=.lst []) (os:=[]) yu (WY rfl) rfl rfl)<|by cases ns<;>rfl) rfl
    by_cases hn:ns=[]
    . subst hn;exact⟨_,by omega,by omega,zp nn rfl⟩
    . have lp:0<ns.length:=List.length_pos_iff.mpr hn;obtain⟨v,w⟩:=Zt (as:=[sT<|ze ns,sI k,sI SW,sI<|(k:Int)*k+7*k+11,none,none]) (a:=fV 0) (b:=f2 zk (fP vN y4) zJ) (ns:=ns) (k:=(k:Int)%(ns.length:Int)) (za rfl) (zY (za (i:=1) rfl) (wl _ rfl)<|(q0V lp)) (zyN _<|by omega) (zyH _<|(q0V lp));have q0:=zyN v (show(1000003:Int)≠0 by decide);have q1:=zyH v (show(0:Int)<1000003 by decide);have q2:0<=v%1000003*(2*k+1):=Int.mul_nonneg q0 (by omega);have q3:v%1000003*(2*k+1)<=1000003*201:=Int.mul_le_mul (by omega) (by omega) (by omega) (by omega);have ne:(!ns.isEmpty)=true:=by
       cases ns with
       |nil=>exact absurd rfl hn
       |cons _ _=>rfl
      rw[ne]at nn;exact⟨_,by omega,by omega,yY nn<|zF (i:=3) (zM (za (i:=3) rfl)<|xq (zY w zb<|by decide) (zM (xq zb (za (i:=1) rfl) (zD (by decide)<|by decide) kb) zb) (zD (by omega)<|by omega)<|zD (by omega)<|by omega)<|zh rfl⟩
   obtain⟨as',hf,x,y,e5,rfl,_⟩:=xa (g:=gN 5) (f:=gx) (λi as=>∃(x y:Int) (e5:Option O),as=[sT<|ze ns,sI k,sI SW,sI x,sI y,e5]/\0<=x/\x<10 ^ 12) (y9 0 8) 0 [sT<|ze ns,sI k,sI SW,sI x0,sI 0,none] (λi z as hz hI=>by
    obtain⟨x,y,e5,rfl,b0,b1⟩:=hI;obtain⟨rfl,hi⟩:=xU hz;have xb:x.natAbs<big:=zD (by omega) (by omega);have c0:=zyN (x*x+48271*x+69621*(0+(i:Int))+k) (show(2147483629:Int)≠0 by decide);exact⟨[sT<|ze ns,sI k,sI SW,sI x,sI y,sI<|0+(i:Int)],rfl,_,zt (zF (i:=3) (zY (zM (zM (zM (xq (za (i:=3) rfl) (za (i:=3) rfl) xb xb)<|xq zb (za (i:=3) rfl) (zD (by decide)<|by decide) xb)<|xq zb (za (i:=5) rfl) (zD (by decide)<|by decide)<|zD (by omega)<|by omega)<|za (i:=1) rfl) zb<|by decide)<|zh rfl)<|zF (i:=4) (zM (NG (za (i:=4) rfl) zb<|by decide)<|zY (NG (za (i:=3) rfl) zb<|by decide) zb<|by decide)<|zh rfl,_,_,_,rfl,c0,by omega⟩)
    ⟨x0,0,none,rfl,p0,p1⟩
   refine⟨_,zyN _<|Int.ne_of_gt Eb,xX rfl<|zt s2<|zt t0<|zt s3<|zt s4<|zt (zF (i:=4) zb<|zh rfl)<|zt (yC (xO (zd (zb (x:=.int 8)) zq) (by decide)<|by decide) hf)<|xW<|zY (za (i:=4) rfl) (za (i:=2) rfl) Eb⟩
def Vs(ns:List Int){k:Nat}(hk:k<=100):∃x:Int,0<=x/\∀(as:AS) (b:EF),as[0]? = some (sT<|ze ns)->WD b as true (.int k)->WD (zg (aC zm<|aC b aN) yo) as true (.int x):=by
 obtain⟨x,h0,h⟩:=Dh hk;exact⟨x,h0,λas b h1 h2=>Nt (zd (za h1)<|zd h2 zq) h⟩
noncomputable def tG(x at_ st:Int)(k j:Nat):Nat:=97+((x/(53761+26*(j:Int)*j)+(if(j:Int)=at_ then(k:Int)*(st+1)else 0))%26).toNat
def Mc(x at_ st:Int)(sz k:Nat):Str:=⟨((List.range sz).map<|tG x at_ st k).toArray⟩
abbrev js(st:Int):Prop:=st=0\/st=2\/st=4\/st=6\/st=8\/st=10\/st=14\/st=16
def dcd:∀t ∈ [(1:Int),3,5,7,9,11,15,17],∀k<10,∀l<10,((k:Nat):Int)*t%26=((l:Nat):Int)*t%26->k=l:=by decide +kernel
def Jm{x at_ st:Int}{sz k l:Nat}(hs:js st)(h0:0<=at_)(h1:at_<sz)(hk:k<10)(hl:l<10)(h:Mc x at_ st sz k=Mc x at_ st sz l):k=l:=by
 injection h with h
 have h:=congrArg Array.toList h;have e:=congrArg (λt:List Nat=>t[at_.toNat]?) h;have hr:(List.range sz)[at_.toNat]? = some at_.toNat:=List.getElem?_range (by omega)
 simp only[zzI,hr]at e;have e:=zzZ e;unfold tG at e;rw[show((at_.toNat:Nat):Int)=at_ by omega,if_pos rfl,if_pos rfl]at e;have a0:=zyN ⋯ (show(26:Int)≠0 by decide);have b0:=zyN ⋯ (show(26:Int)≠0 by decide);generalize x/_=q at e a0 b0;generalize hu:(k:Int)*(st+1)=u at e a0;generalize hv:(l:Int)*(st+1)=v at e b0
 refine dcd (st+1) ?_ k hk l hl (by rw[hu,hv];clear hu hv hs;omega);rcases hs with rfl|rfl|rfl|rfl|rfl|rfl|rfl|rfl<;>decide
def rQ{x y:Str}(h:x.length+y.length<=sizeLine):Yj .Add (.str x) (.str y)=some (.im<|.str<|x++y):=if_pos h
abbrev EW(x:Int)(mn sz:Nat)(at_ st:Int)(os:List O)(a b c d:Option O):AS:=[sI x,sI mn,sT<|.str Ha,sI<|(sz:Int)-1,sI at_,sI st,sN os,a,b,c,d]
abbrev jl:SF:=(zi (zr true 10 rB)
 (zi (xl (fT<|f2 (fV 9) zL<|zw .Eq) sd xj)
 mJ))
def mO{x:Int}{mn sz:Nat}{at_ st:Int}{os:List O}{k:Nat}{c d:Option O}(hz:sz<=8)(hk:k<10)(hs:js st):∃c' d',forL (gN 9) jl (y9 0 sz) (EW x mn sz at_ st os (sI k) (sT<|.str ⟨#[]⟩) c d)=some (.nx<|EW x mn sz at_ st os (sI k) (sT<|.str<|Mc x at_ st sz k) c' d'):=by
 have st16:0<=st/\st<=16:=by rcases hs with rfl|rfl|rfl|rfl|rfl|rfl|rfl|rfl<;>decide
 obtain⟨as',hf,c',d',rfl⟩:=xa (g:=gN 9) (f:=jl) (λi as=>∃c' d',as=EW x mn sz at_ st os (sI k) (sT<|.str<|Mc x at_ st i k) c' d') (y9 0 sz) 0 _ (λi z as hz' hI=>by
  obtain⟨c',d',rfl⟩:=hI;obtain⟨rfl,hi⟩:=xU hz';rw[zyX,Int.zero_add];have i2:0<=(i:Int)*i:=Int.mul_nonneg (q0a) (q0a);have i3:(i:Int)*i<=64:=Int.mul_le_mul (c:=8) (d:=8) (by omega) (by omega) (q0a) (by omega);have i4:26*(i:Int)*i=26*((i:Int)*i):=Int.mul_assoc ..;have s10:∀d',zr true 10 rB (EW x mn sz at_ st os (sI k) (sT<|.str<|Mc x at_ st i k) (sI i) d')=some _:=λd'=>zF (i:=10) (xJ (za (i:=0) rfl) (zM zb<|xq (xq zb (za (i:=9) rfl) (zD (by decide)<|by decide)<|zD (q1s)<|by omega) (za (i:=9) rfl) (zD (by omega)<|by omega)<|zD (q1s)<|by omega) (by omega)<|zD (by omega)<|by omega)<|zh rfl;have s11:xl (fT<|f2 (fV 9) zL<|zw .Eq) sd xj (EW x mn sz at_ st os (sI k) (sT<|.str<|Mc x at_ st i k) (sI i)<|sI<|x/(53761+26*(i:Int)*i))=some (.nx<|EW x mn sz at_ st os (sI k) (sT<|.str<|Mc x at_ st i k) (sI i)<|sI<|x/(53761+26*(i:Int)*i)+(if(i:Int)=at_ then(k:Int)*(st+1)else 0)):=by
   by_cases e:(i:Int)=at_
   . rw[if_pos e];exact yY (eqT (za (i:=9) rfl) (za (i:=4) rfl)<|by simp[e])<|zF (i:=10) (zM (za (i:=10) rfl)<|xq (za (i:=7) rfl) (zM (za (i:=5) rfl) zb) (zD (by omega)<|by omega)<|zD (by omega)<|by omega)<|zh rfl
   . rw[if_neg e,Int.add_zero];exact zp (eqT (za (i:=9) rfl) (za (i:=4) rfl)<|by simp[e]) rfl
  have q0:=zyN (x/(53761+26*(i:Int)*i)+(if(i:Int)=at_ then(k:Int)*(st+1)else 0)) (show(26:Int)≠0 by decide);have q1:=zyH (x/(53761+26*(i:Int)*i)+(if(i:Int)=at_ then(k:Int)*(st+1)else 0)) (show(0:Int)<26 by decide);have ln:(Mc x at_ st i k).length=i:=by
   show(((List.range i).map<|tG x at_ st k).toArray).size=i;rw[zzH,zzB,zyU]
  have ea:Mc x at_ st i k++(⟨#[tG x at_ st k i]⟩:Str)=Mc x at_ st (i+1) k:=by
   show(⟨((List.range i).map<|tG x at_ st k).toArray ++ #[tG x at_ st k i]⟩:Str)=_;unfold Mc;rw[List.range_succ,zyM];simp
  have s8:=zF (st:=true) (i:=8) (as:=EW x mn sz at_ st os (sI k) (sT<|.str<|Mc x at_ st i k) (sI i)<|sI<|x/(53761+26*(i:Int)*i)+(if(i:Int)=at_ then(k:Int)*(st+1)else 0)) (zV (za (i:=8) rfl) (zV (za (i:=2) (x:=.str Ha) (s:=true) rfl) (zY (za (i:=10) rfl) zb<|by decide) (sU q0 q1) rfl) (rQ<|BR (by rw[ln];show i+1<=_;omega)) rfl)<|zh rfl;rw[show(⟨#[97+((x/(53761+26*(i:Int)*i)+(if(i:Int)=at_ then(k:Int)*(st+1)else 0))%26).toNat]⟩:Str)=⟨#[tG x at_ st k i]⟩from rfl,ea]at s8;exact⟨EW x mn sz at_ st os (sI k) (sT<|.str<|Mc x at_ st i k) (sI i) d',rfl,_,zt (s10 d')<|zt s11 s8,_,_,rfl⟩)
  ⟨c,d,rfl⟩
 rw[xg,zyX]at hf;exact⟨c',d',hf⟩
def N2(x:Int){mn:Nat}(hm:mn<=10):∃ss:List Str,ss.length=mn/\ss.Nodup/\RE (Ym [(true,.int x),(true,.int mn)]) (.lst<|ss.map D.str):=by
 have s2:zr true 2 (fC<|.str "abcdefghijklmnopqrstuvwxyz") [sI x,sI mn,none,none,none,none,none,none,none,none,none]=some (.nx [sI x,sI mn,sT<|.str Ha,none,none,none,none,none,none,none,none]):=zF (i:=2) zb<|zh rfl;have e0:=zyN x (show(8:Int)≠0 by decide);have e1:=zyH x (show(0:Int)<8 by decide);obtain⟨sz,hz1,hz8,hz⟩:∃sz:Nat,1<=sz/\sz<=8/\x%8=(sz:Int)-1:=⟨(x%8+1).toNat,by omega,by omega,by omega⟩;have s3:X1 px (gT 3<|y6 (gN 3)<|y6 V2<|y6 (gN 5) Xn) [sI x,sI mn,sT<|.str Ha,none,none,none,none,none,none,none,none]=some (.nx [sI x,sI mn,sT<|.str Ha,sI<|(sz:Int)-1,sI<|x/8%840,sI<|x/8/840%8,none,none,none,none,none]):=by
  rw[<-hz];exact Fx (EH (sz:=[8,840,8]) (by decide) (by decide) (WD.e<|za (i:=0) rfl)<|xG (os:=[VM 8,VM 840,VM 8]) (zH zb<|zH zb<|zH zb yu) (WY rfl) rfl rfl) rfl
 have f0:=zyN (x/8/840) (show(8:Int)≠0 by decide);have f1:=zyH (x/8/840) (show(0:Int)<8 by decide);obtain⟨st,hst,hs⟩:=HW (r:=[0,2,4,6,8,10,14,16]) (P:=js) f0 f1 (by decide);have s5:zr true 5 o8 [sI x,sI mn,sT<|.str Ha,sI<|(sz:Int)-1,sI<|x/8%840,sI<|x/8/840%8,none,none,none,none,none]=some (.nx [sI x,sI mn,sT<|.str Ha,sI<|(sz:Int)-1,sI<|x/8%840,sI st,none,none,none,none,none]):=zF (i:=5) (BP (xG (os:=[0,2,4,6,8,10,14,16].map VM) (zH zb<|zH zb<|zH zb<|zH zb<|zH zb<|zH zb<|zH zb<|zH zb yu) (WY rfl) rfl rfl) (WD.e<|za (i:=5) rfl) hst)<|zh rfl;have h0:=zyN (x/8%840) (show(sz:Int)-1+1≠0 by omega);have h1:=zyH (x/8%840) (show(0:Int)<(sz:Int)-1+1 by omega);have s4:zr true 4 (f2 zL (f2 zB zz zo) zJ) [sI x,sI mn,sT<|.str Ha,sI<|(sz:Int)-1,sI<|x/8%840,sI st,none,none,none,none,none]=some (.nx [sI x,sI mn,sT<|.str Ha,sI<|(sz:Int)-1,sI<|x/8%840%((sz:Int)-1+1),sI st,none,none,none,none,none]):=zF (i:=4) (zY (za (i:=4) rfl) (zM (za (i:=3) rfl) zb)<|by omega)<|zh rfl;generalize x/8%840%((sz:Int)-1+1)=at_ at s4 h0 h1
 obtain⟨as',hf,os,a,b,c,d,rfl,ho⟩:=xa (g:=gN 7) (f:=(zi (zr true 8<|fC<|.str "")
  (zi (yL (yt (aC (f2 zB zz zo) aN) yV) (gN 9) jl)
  (zW<|vL 6 (dC (fV 8) dN) ZG))))
  (λi as=>∃os a b c d,as=EW x mn sz at_ st os a b c d/\Ows D.str (λ_=>True) os ((List.range i).map<|Mc x at_ st sz))
  (y9 0 mn) 0 (EW x mn sz at_ st [] none none none none) (λi z as hz' hI=>by
   obtain⟨os,a,b,c,d,rfl,ho⟩:=hI;obtain⟨rfl,hi⟩:=xU hz';rw[zyX]at ho ⊢;rw[Int.zero_add];obtain⟨c',d',hin⟩:=mO (x:=x) (mn:=mn) (at_:=at_) (os:=os) (k:=i) (c:=c) (d:=d) hz8 (q0Q hi hm) hs;have wr:WA (aC (f2 zB zz zo) aN) (EW x mn sz at_ st os (sI i) (sT<|.str ⟨#[]⟩) c d) [(true,.int (sz:Int))]:=by
    have:=zd (zM (as:=EW x mn sz at_ st os (sI i) (sT<|.str ⟨#[]⟩) c d) (za (i:=3) (x:=.int<|(sz:Int)-1) (s:=true) rfl)<|zb (x:=.int 1)) zq
    rwa [Int.sub_add_cancel]at this
   have hrun:=xO wr (by omega) (by omega);rw[zyI]at hrun;obtain⟨os',o1,o2⟩:=OO (as:=EW x mn sz at_ st os (sI i) (sT<|.str<|Mc x at_ st sz i) c' d') (x:=Mc x at_ st sz i) (i:=6) (toD:=D.str) (Q:=λ_=>True) (a:=fV 8) rfl ho (by rw[zzB,zyU];omega) (WD.e<|za (i:=8) rfl) True.intro;exact⟨EW x mn sz at_ st os (sI i) b c d,rfl,_,zt (zF (i:=8) (x:=.str ⟨#[]⟩) zb<|zh rfl)<|zt (yC hrun hin) o2,os',_,_,_,_,rfl,by rw[List.range_succ,zyM];exact o1⟩)
  ⟨[],none,none,none,none,rfl,Ows.nil⟩
 rw[xg,zyX]at ho;have hrun:=xO (as:=EW x mn sz at_ st [] none none none none) (zd (za (i:=1) (x:=.int mn) (s:=true) rfl) zq) (by omega) (by omega);rw[zyI]at hrun;refine⟨(List.range mn).map<|Mc x at_ st sz,by rw[zzB,zyU], ?_,zN rfl<|zc s2<|zc s3<|zc s5<|zc s4<|zc (vR (i:=6) (Ys yu<|WY rfl)<|zh rfl)<|zc (yC hrun hf)<|Ows.retB (i:=6) rfl ho⟩;exact List.pairwise_map.mpr<|(List.nodup_range (n:=mn)).imp_of_mem λha hb hne he=>hne<|Jm hs h0 (by omega) (by have:=List.mem_range.mp ha;exact q0Q this hm) (by have:=List.mem_range.mp hb;exact q0Q this hm) he
abbrev PZ:Type:=List<|Int×Nat
noncomputable abbrev pD(p:Int×Nat):D:=.tup [.int p.1,.int p.2]
abbrev Xf(P:PZ):D:=.lst<|P.map pD
noncomputable def PN:PZ->Nat
 | []=>1
 |p::r=>PN r*p.2
noncomputable def sp:PZ->Int->List Int
 | [],_=>[]
 |p::r,v=>v%p.2::sp r (v/p.2)
noncomputable def ld:PZ->List Int->Int
 |p::r,d::t=>ld r t*p.2+d
 |_,_=>0
def jX:PZ->Int->Int->Int
 | [],_,_=>0
 |p::r,v,w=>jB p.2 (jX r) (jK p.1 p.2) v w
def eX:PZ->Int
 | []=>0
 |p::r=>eX r*p.2+eK p.1
noncomputable def dS(x:Int):Nat->Int
 |0=>0
 |k+1=>dS x k+x/3 ^ k%3
def dK(k:Int)(n:Nat)(x c a:Int):Int:=
 if k=0 then(x%n*a+x/n%n*c)%n
 else if k=1 then(if dS x a.toNat<(n:Int)-1 then dS x a.toNat else(n:Int)-1)
 else if k=2 then(if 0<a then 1+x/6 ^ a.toNat%((n:Int)-1)else 0)
 else if x%2=0 then a else sP a
def dX:PZ->Int->Int->Int->Int
 | [],_,_,_=>0
 |p::r,x,c,v=>dB p.2 (dX r x) (dK p.1 p.2 x) c v
abbrev PK(P:PZ):Prop:=∀p ∈ P,KN p.1 p.2/\2<=p.2/\p.2<=7
theorem EK:∀{P:PZ},PK P->1<=PN P
 | [],_=>zzN _
 |p::r,h=>Nat.mul_pos (EK λq m=>h q<|zzD _ m) (by have:=(h p<|zzF ..).2.1;exact q0C this)
theorem rZ:∀{P:PZ},PK P->LJ (PN P) (jX P) (eX P)
 | [],_=>⟨λ_ _ _ _=>⟨Int.le_refl _,Int.one_pos⟩,⋯,λa ha=>(by have h1:a<1:=ha.2;show 0=a;omega),λa ha=>(by have h1:a<1:=ha.2;show 0=a;omega),λ_ _ _ _ _ _=>rfl⟩
 |p::r,h=>gK (rZ λq m=>h q<|zzD _ m) (iZ (h p<|zzF ..).1) (by have:=(h p<|zzF ..).2.1;exact q0C this)
def BD(x:Int):∀{a b:Nat},a<=b->dS x a<=dS x b:=λ{a b} h=>by
 induction h with
 |refl=>exact Int.le_refl _
 | @step k _ ih=>
  refine Int.le_trans ih ?_;have:=zyN (x/3 ^ k) (show 3≠0 by decide);exact Int.le_add_of_nonneg_right this
def nX(x:Int)(a:Nat):0<=dS x a:=BD x<|Nat.zero_le a
def ldK{k x:Int}{n m:Nat}(h:KN k n)(n2:2<=n)(m1:1<=m)(hm:k=0->m=n):LD n m (jK k n) (eK k) (dK k n x):=by
 rcases h with⟨rfl,_⟩|⟨rfl,_⟩|⟨rfl,_⟩|⟨rfl,rfl⟩
 . have e:=hm rfl;subst e;exact LD.congr ⋯ (iz ⋯) (gZ (x0:=x%m) (x1:=x/m%m) ⋯ ⋯ ⋯ (Int.dvd_refl _) (Int.dvd_refl _)) (λ_ _ _ _=>rfl) λc a _ _=>by
    show(x%m*a+x/m%m*c)%m=_;rw[Int.ediv_self ⋯,Int.mul_one,Int.mul_comm<|x%m,Int.mul_comm<|x/m%m]
 . refine gO (r:=λa=>if dS x a.toNat<n-1 then dS x a.toNat else n-1) m1 ?_ (λa _=>?_) λa b ha hb hab=>?_
   . show(if 0<(n:Int)-1 then 0 else _-1)=0;rw[if_pos ⋯]
   . have:=nX x a.toNat
     split<;>exact⟨by omega,by omega⟩
   . have:=BD x (show a.toNat<=b.toNat by omega)
     split<;>split<;>omega
 . have g0:∀a:Int,0<=x/6 ^ a.toNat%(n-1)/\x/6 ^ a.toNat%(n-1)<n-1:=λa=>⟨zyN _ ⋯,zyH _<|by omega⟩;refine gY rfl (λa _=>?_) λa ha hn=>?_
   . have:=g0 a;show zT n (if 0<a then _ else _)
     split<;>exact ⋯
   . have:=g0 a;show(if 0<a then 1+x/6 ^ a.toNat%(n-1)else 0)≠0;rw[if_pos<|by omega];omega
 . refine gX ?_
   by_cases e:x%2=0
   . exact .inl λa _=>if_pos e
   . exact .inr λa _=>if_neg e
theorem lZ{x:Int}{m:Nat}(m1:1<=m):∀{P:PZ},PK P->(∀p ∈ P,p.1=0->m=p.2)->LD (PN P) m (jX P) (eX P) (dX P x)
 | [],_,_=>⟨λ_ _ _ _=>⟨Int.le_refl _,Int.one_pos⟩,rfl,λ_ _ _ _ _ _ _ _=>rfl⟩
 |p::r,h,hm=>gB (rZ λq m=>h q<|zzD _ m) (iZ (h p<|zzF ..).1) (by have:=(h p<|zzF ..).2.1;exact q0C this) (lZ m1 (λq m=>h q<|zzD _ m) λq m=>hm q<|zzD _ m)<|ldK (h p<|zzF ..).1 (h p<|zzF ..).2.1 m1<|hm p<|zzF ..
noncomputable def z3(f:Int->Nat->Int->Int->Int):PZ->List Int->List Int->List Int
 |p::P,a::s,b::t=>f p.1 p.2 a b::z3 f P s t
 |_,_,_=>[]
noncomputable def z2(f:Int->Nat->Int->Int):PZ->List Int->List Int
 |p::P,a::s=>f p.1 p.2 a::z2 f P s
 |_,_=>[]
theorem DR:∀(P:PZ) (v w:Int),ld P (z3 jK P (sp P v)<|sp P w)=jX P v w
 | [],_,_=>rfl
 |p::r,v,w=>by
  show ld r _*p.2+jK p.1 p.2 _ _=_;rw[DR r];rfl
theorem uc(x c:Int):∀(P:PZ) (v:Int),ld P (z2 (λk n a=>dK k n x c a) P<|sp P v)=dX P x c v
 | [],_=>rfl
 |p::r,v=>by
  show ld r _*p.2+dK p.1 p.2 x c _=_;rw[uc x c r];rfl
theorem LS:∀(P:PZ) (v:Int),(sp P v).length=P.length
 | [],_=>rfl
 |_::r,v=>congrArg _<|LS r _
theorem ig:∀P:PZ,ld P (P.map λp=>eK p.1)=eX P
 | []=>rfl
 |p::r=>by
  show ld r _*p.2+eK p.1=_;rw[ig r];rfl
theorem iy:∀P:PZ,ld P (P.map λp=>(p.2:Int)-1)+1=(PN P:Int)
 | []=>rfl
 |p::r=>by
  show ld r _*p.2+(p.2-1)+1=((PN r*p.2:Nat):Int);rw[zzV,<-iy r,Int.add_mul];omega
end G46
end
section
set_option exponentiation.threshold 5000
namespace G46
open PySem PySem.Spec PyProof.Rows PF
local macro_rules |`(⋯)=>do `(by first|with_reducible rfl|assumption|$(<-zqb "zb;zq;yu;zh"):tactic|(with_reducible refine za ?_;first|rfl|assumption)|$(<-zqc "WD.e ?;zd ? ?;zH ? ?;zM ? ?;Zb ? ?;zY ? ? ?;xJ ? ? ? ?;xq ? ? ? ?;zV ? ? = =;zE ?;xW ?;xi ? ="):tactic|exact zD (by decide)|omega|rfl|decide)
def Nv{p:Int×Nat}{a b:Int}(h:KN p.1 p.2)(ha:zT p.2 a)(hb:zT p.2 b):vA [(true,pD p),(true,.int a),(true,.int b)]=sI (jK p.1 p.2 a b):=by
 obtain⟨k,n⟩:=p;have s0:∀{k:Int}{n:Nat},X1 zm (gT 2<|y6 (gN 3)<|y6 V2 Xn) [sT<|pD (k,n),sI a,sI b,none,none]=some (.nx [sT<|pD (k,n),sI a,sI b,sI k,sI n]):=Fx (WD.e<|za (i:=0) rfl) rfl
 rcases h with⟨rfl,hn⟩|⟨rfl,hn⟩|⟨rfl,hn⟩|⟨rfl,rfl⟩
 . exact xX rfl (zt s0<|Zs<|yY (eqT (za (i:=3) rfl) zb rfl)<|xW<|zY (zM (za (i:=1) rfl)<|za (i:=2) rfl) (za (i:=4) rfl)<|(q0D hn))
 . exact xX rfl ⋯
 . exact xX rfl<|zt s0<|zt (zp (eqT (za (i:=3) rfl) zb rfl) rfl)<|zt (zp (eqT (za (i:=3) rfl) zb rfl) rfl)<|Zs<|yY (eqT (za (i:=3) rfl) zb rfl)<|xW<|BP (xG (os:=[VM b,VM a]) (zH (za (i:=2) rfl)<|zH (za (i:=1) rfl) yu) (WY rfl) rfl rfl) (WD.e<|yw (zd (UE (za (i:=2) rfl) zb rfl) zq) rfl rfl)<|qP.trans (by show _=some (R0.im<|.int<|jL a b);unfold jL;by_cases h:b=0<;>simp[h])
 . obtain⟨a0,a1⟩:=ha;obtain⟨b0,b1⟩:=hb;have a1:a<4:=a1;have b1:b<4:=b1;have LL:WE sA [sT<|pD (3,4),sI a,sI b,sI 3,sI (4:Nat)] (.lst [.int<|b/2,.int<|b%2]):=xG ⋯ (WY rfl) rfl rfl;have pk:∀{i:Int},i=0\/i=1->zv (.lst [.int<|b/2,.int<|b%2]) (.int i)=some (.im<|.int<|iP b i):=λh=>by
    rcases h with rfl|rfl<;>rfl
   have ib:∀i,0<=iP b i/\iP b i<4:=λi=>by unfold iP;split<;>constructor<;>omega
   have:=ib<|a/2;exact xX rfl (zt s0<|zt (zp (eqT (za (i:=3) rfl) zb rfl) rfl)<|zt (zp (eqT (za (i:=3) rfl) zb rfl) rfl)<|zt (zp (eqT (za (i:=3) rfl) zb rfl) rfl)<|xW<|zM (xq zb (BP LL (WD.e ⋯)<|pk<|by omega) (zD (by decide)<|by decide)<|zD (by omega)<|by omega)<|BP LL (WD.e<|zY (za (i:=1) rfl) zb<|by decide)<|pk<|by omega)
theorem Oq(x:Int):∀k:Nat,((List.range k).map λi=>x/3 ^ i%3).sum=dS x k
 |0=>rfl
 |k+1=>by
  rw[List.range_succ,zyM,List.sum_append_int,Oq x k];show dS x k+(x/3 ^ k%3+0)=dS x k+x/3 ^ k%3;rw[Int.add_zero]
def fy:∀i:Nat,i<7->zv (ze [1,3,9,27,81,243,729]) (.int (i:Int))=some (.im<|.int<|3 ^ i)
 |0,_=>rfl|1,_=>rfl|2,_=>rfl|3,_=>rfl|4,_=>rfl|5,_=>rfl|6,_=>rfl
 |n+7,h=>⋯
def gA:∀i:Nat,i<7->zv (ze [1,6,36,216,1296,7776,46656]) (.int (i:Int))=some (.im<|.int<|6 ^ i)
 |0,_=>rfl|1,_=>rfl|2,_=>rfl|3,_=>rfl|4,_=>rfl|5,_=>rfl|6,_=>rfl
 |n+7,h=>⋯
def pb(b:Int)(h1:1<=b)(h2:b<=6):∀i:Nat,i<7->(0:Int)<b ^ i/\b ^ i<=1000000:=λi hi=>by
 have e:i=0\/i=1\/i=2\/i=3\/i=4\/i=5\/i=6:=⋯;have f:b=1\/b=2\/b=3\/b=4\/b=5\/b=6:=⋯
 rcases e with rfl|rfl|rfl|rfl|rfl|rfl|rfl<;>rcases f with rfl|rfl|rfl|rfl|rfl|rfl<;>decide
def l7{as:AS}{a b c d e f g:Int}:WE (zZ<|dC (fC<|.int a)<|dC (fC<|.int b)<|dC (fC<|.int c)<|dC (fC<|.int d)<|dC (fC<|.int e)<|dC (fC<|.int f)<|dC (fC<|.int g) dN) as (ze [a,b,c,d,e,f,g]):=xG ⋯ (WY rfl) rfl rfl
theorem KM:∀l:List Int,X8 (l.map D.int)=some l
 | []=>rfl
 |x::l=>by show(X8 _).bind _=_;rw[KM l];rfl
def MP{k:Int}{n:Nat}{x c a:Int}{m:Nat}(h:KN k n)(n2:2<=n)(n7:n<=7)(hc:zT m c)(m6:m<=6)(ha:zT n a):xQ [(true,pD (k,n)),(true,.int x),(true,.int c),(true,.int a)]=sI (dK k n x c a):=by
 obtain⟨a0,a1⟩:=ha;obtain⟨c0,c1⟩:=hc;have s0:∀{k:Int}{n:Nat},X1 zm (gT 2<|y6 V2<|y6 (gN 5) Xn) [sT<|pD (k,n),sI x,sI c,sI a,none,none]=some (.nx [sT<|pD (k,n),sI x,sI c,sI a,sI k,sI n]):=Fx (WD.e<|za (i:=0) rfl) rfl;have x0:=zyN x (show(n:Int)≠0 by omega);have x1:=zyH x (show(0:Int)<n from q0p n2 n7);have y0:=zyN (x/n) (show(n:Int)≠0 by omega);have y1:=zyH (x/n) (show(0:Int)<n from q0p n2 n7);have nb:((n:Int)).natAbs<big:=zD (by omega) (by omega)
 rcases h with⟨rfl,hn⟩|⟨rfl,hn⟩|⟨rfl,hn⟩|⟨rfl,rfl⟩
 . exact xX rfl (zt s0<|Zs<|yY (eqT (za (i:=4) rfl) zb rfl)<|xW<|zY (zM (xq (zY (za (i:=1) rfl) (za (i:=5) rfl)<|(q0p n2 n7)) (za (i:=3) rfl) (zD (by omega)<|by omega)<|zD (by omega)<|by omega)<|xq (zY (xJ (za (i:=1) rfl) (za (i:=5) rfl) (q0p n2 n7) nb) (za (i:=5) rfl)<|(q0p n2 n7)) (za (i:=2) rfl) (zD (by omega)<|by omega)<|zD (by omega)<|by omega) (za (i:=5) rfl)<|(q0p n2 n7))
 . obtain⟨b,rfl⟩:∃b:Nat,a=(b:Int):=⟨a.toNat,q1k a0⟩;have wc:=VI (as:=[sT<|pD (1,n),sI x,sI c,sI (b:Int),sI 1,sI n]) (h:=λi:Nat=>D.int<|x/3 ^ i%3) (it:=λi:Nat=>(true,D.int<|0+(i:Int))) (fi:=yt ZW yV) (cap:=[none,some 1]) (gg:=gN 0) (fe:=f2 oU Y9 zJ) (List.range b) (by
    have:=xO (as:=[sT<|pD (1,n),sI x,sI c,sI (b:Int),sI 1,sI n]) (zd (za (i:=3) (x:=.int (b:Int)) (s:=true) rfl) zq) (by omega) (by omega)
    rwa [zyI]at this) (by rw[zyU];omega) λi mi=>by
    have hi:=List.mem_range.mp mi;rw[Int.zero_add];have:=pb 3 (by decide) (by decide) i (by omega);exact⟨[sI i,sI x],rfl,WD.e<|zY (xJ (za (i:=1) rfl) (BP l7 (WD.e<|za (i:=0) (x:=.int i) rfl)<|fy i<|by omega) this.1<|zD (by omega)<|by omega) zb<|by decide⟩
   have e1:((List.range b).map λi:Nat=>D.int<|x/3 ^ i%3)=((List.range b).map λi=>x/3 ^ i%3).map D.int:=by rw[zyB];rfl
   rw[e1]at wc;have ws:=yw (g:=rS) (x:=.int<|dS x b) (y8 wc zq) (by
    show(X8<|((List.range b).map λi=>x/3 ^ i%3).map D.int).bind _=_;rw[KM,<-Oq x b];rfl) rfl
   have wm:=yw (g:=Gq) (x:=.int<|dK 1 n x c (b:Int)) (zd (Zb (as:=[sT<|pD (1,n),sI x,sI c,sI (b:Int),sI 1,sI n]) (za (i:=5) (x:=.int n) (s:=true) rfl)<|zb (x:=.int 1))<|zd ws zq) rfl rfl;exact xX rfl<|zt s0<|zt (zp (eqT (za (i:=4) rfl) zb rfl) rfl)<|Zs<|yY (eqT (za (i:=4) rfl) zb rfl)<|xW wm
 . obtain⟨b,rfl⟩:∃b:Nat,a=(b:Int):=⟨a.toNat,q1k a0⟩;have q:=pb 6 (by decide) (by decide) b (by omega);have wm:=yw (g:=Rc) (x:=.int<|(n:Int)-1) (zd (zb (as:=[sT<|pD (2,n),sI x,sI c,sI (b:Int),sI 2,sI n]) (x:=.int 1))<|zd (Zb (za (i:=5) (x:=.int n) (s:=true) rfl)<|zb (x:=.int 1)) zq) (by
    show some (R0.im<|.int<|if(n:Int)-1 > 1 then(n:Int)-1 else 1)=_
    split
    . rfl
    . rw[show(n:Int)-1=1 by omega]) rfl
   have r0:=zyN (x/6 ^ b) (show(n:Int)-1≠0 by omega);have r1:=zyH (x/6 ^ b) (show(0:Int)<(n:Int)-1 by omega);have wi:=yw (g:=PH) (x:=.int<|if(0:Int)<b then 1 else 0) (zd (zV (g:=zw .Gt) (z:=.bl<|decide ((0:Int)<b)) (za (as:=[sT<|pD (2,n),sI x,sI c,sI (b:Int),sI 2,sI n]) (i:=3) (x:=.int (b:Int)) (s:=true) rfl) (zb (x:=.int 0)) rfl rfl) zq) (by
    show PH [.bl<|decide ((0:Int)<b)]=_
    by_cases h:(0:Int)<b
    . rw[zyO h,if_pos h];rfl
    . rw[zyG h,if_neg h];rfl) rfl
   have wv:=xq wi (zM (zb (x:=.int 1))<|zY (xJ (za (i:=1) (x:=.int x) (s:=true) rfl) (BP l7 (WD.e<|za (i:=3) (x:=.int (b:Int)) rfl)<|gA b<|by omega) q.1<|zD (by omega)<|by omega) wm<|by omega) (zD (by split<;>decide)<|by split<;>decide) (zD (by omega)<|by omega);have e2:(if(0:Int)<b then(1:Int)else 0)*(1+x/6 ^ b%((n:Int)-1))=dK 2 n x c (b:Int):=by
    show _=if(0:Int)<b then 1+x/6 ^ (((b:Nat):Int)).toNat%((n:Int)-1)else 0
    rw[zyI]
    split
    . rw[Int.one_mul]
    . rw[Int.zero_mul]
   rw[e2]at wv;exact xX rfl<|zt s0<|zt (zp (eqT (za (i:=4) rfl) zb rfl) rfl)<|zt (zp (eqT (za (i:=4) rfl) zb rfl) rfl)<|Zs<|yY (eqT (za (i:=4) rfl) zb rfl)<|xW wv
 . have tt:WT (fT<|f2 (f2 zk yx zJ) zP<|zw .Eq) [sT<|pD (3,4),sI x,sI c,sI a,sI 3,sI (4:Nat)] (x%2==0):=eqT (zY (za (i:=1) rfl) zb<|by decide) zb rfl
   by_cases e:x%2=0
   . rw[show(x%2==0)=true by simp[e]]at tt;have d:dK 3 4 x c a=a:=if_pos e;rw[d];exact xX rfl<|zt s0<|zt (zp (eqT (za (i:=4) rfl) zb rfl) rfl)<|zt (zp (eqT (za (i:=4) rfl) zb rfl) rfl)<|zt (zp (eqT (za (i:=4) rfl) zb rfl) rfl)<|Zs<|yY tt<|xW<|za (i:=3) rfl
   . rw[show(x%2==0)=false by simp[e]]at tt;have d:dK 3 4 x c a=sP a:=if_neg e;rw[d];exact xX rfl (zt s0<|zt (zp (eqT (za (i:=4) rfl) zb rfl) rfl)<|zt (zp (eqT (za (i:=4) rfl) zb rfl) rfl)<|zt (zp (eqT (za (i:=4) rfl) zb rfl) rfl)<|zt (zp tt rfl)<|xW<|Zb (zM (xq zb (Zb zb<|zY (za (i:=3) rfl) zb<|by decide) (zD (by decide)<|by decide)<|zD (by omega)<|by omega) zb)<|xJ (za (i:=3) rfl) zb (by decide)<|zD (by decide)<|by decide)
def Na{p:Int×Nat}{x c a:Int}{m:Nat}(h:KN p.1 p.2/\2<=p.2/\p.2<=7)(hc:zT m c)(m6:m<=6)(ha:zT p.2 a):xQ [(true,pD p),(true,.int x),(true,.int c),(true,.int a)]=sI (dK p.1 p.2 x c a):=MP h.1 h.2.1 h.2.2 hc m6 ha
def PK.tail{p:Int×Nat}{P:PZ}(h:PK (p::P)):PK P:=λq m=>h q<|zzD _ m
abbrev fx:SF:=(zi (zW<|vL 2 (dC (f2 zk zL zJ) dN) ZG)
 (zr true 1<|f2 zk zL zy))
theorem Iq{B:Option O}:∀(P:PZ) (v:Int) (acc:List Int) (e3 e4:Option O),PK P->acc.length+P.length<=900->∃v' e3' e4',forL (gT 2<|y6 (gN 3)<|y6 V2 Xn) fx (P.map λp=>(true,pD p)) [B,sI v,some<|vP acc,e3,e4]=some (.nx [B,sI v',some<|vP<|acc++sp P v,e3',e4'])
 | [],v,acc,e3,e4,_,_=>⟨v,e3,e4,by rw[show acc++sp [] v=acc from zyE _];rfl⟩
 |p::P,v,acc,e3,e4,h,hl=>by
  have hp:=(h p<|zzF ..).2;rw[zzT]at hl;obtain⟨v',f3,f4,hf⟩:=Iq P _ (acc++[v%p.2]) _ _ h.tail (by rw[zzJ];show acc.length+1+P.length<=900;exact q1v hl);rw[zxA]at hf;refine⟨v',f3,f4,YL rfl (zt (as1:=[B,sI v,some _,sI p.1,sI p.2]) ?_<|zF (xJ ⋯ ⋯ ⋯ (zD ⋯ ⋯))<|zh rfl) hf⟩;have ap:=Qn (i:=2) (as:=[B,sI v,some<|vP acc,sI p.1,sI p.2]) rfl (zY (za (i:=1) rfl) (za (i:=4) rfl) ⋯) rfl (by rw[zzB];exact slt ⋯)
  rwa [<-Mg]at ap
def HL{P:PZ}{v:Int}(h:PK P)(hl:P.length<=10):X7 [(true,Xf P),(true,.int v)]=some (vP<|sp P v):=by
 obtain⟨v',e3,e4,hf⟩:=Iq P v [] none none h (by show 0+_<=_;omega);have it:Wc zm [sT<|Xf P,sI v,some<|vP [],none,none]=some (P.map λp=>(true,pD p),[sT<|Xf P,sI v,some<|vP [],none,none]):=by
  have:=Hz<|WD.e<|za (as:=[sT<|Xf P,sI v,some<|vP [],none,none]) (i:=0) rfl
  rwa [zyB]at this
 exact xX rfl<|zt ⋯ (zt (yC it hf)<|RZ rfl (Zu _).2.1)
def ph{f:EF}{as:AS}{ds:List D}(h:WD f as true (.lst ds)):WE (Yk f oN (oS<|f1 zz GJ) rW) as (.lst ds.reverse):=by
 refine⟨.nd .ls _, ?_,X0 _,congrArg D.lst<|Qy _⟩;unfold Yk;rw[h];show(if _=true then some (RV.ow<|.nd .ls<|ds.reverse.map<|Hq true)else none:Option RV).bind _=_;rw[if_pos<|by simp];show some _=_;rw[show(Hq true)=O.lf true from funext λd=>by show O.lf _ d=_;rw[zyD]]
theorem Wx:∀(P:PZ) (ds:List Int),QV true (P.map pD) (ds.map D.int)=(P.zip ds).map λq=>(true,D.tup [pD q.1,.int q.2])
 | [],_=>rfl
 |_::_,[]=>rfl
 |p::P,d::ds=>congrArg _<|Wx P ds
theorem FZ:∀(P:PZ) (ds:List Int),P.length=ds.length->(P.zip ds).foldr (λq v=>v*(q.1.2:Int)+q.2) 0=ld P ds
 | [],[],_=>rfl
 | [],_::_,h=>⋯
 |_::_,[],h=>⋯
 |p::P,d::ds,h=>by
  show(P.zip ds).foldr _ 0*p.2+d=ld P ds*p.2+d;rw[FZ P ds<|by simpa using h]
abbrev fg:SF:=nu
theorem CY{B C:Option O}:∀(l:List ((Int×Nat)×Int)) (v:Int) (e3 e4:Option O),(∀q ∈ l,q.1.2<=7)->∃e3' e4',forL (gT 2<|y6 (gN 3)<|y6 V2 Xn) fg (l.map λq=>(true,D.tup [pD q.1,.int q.2])) [B,C,sI v,e3,e4]=some (.nx [B,C,sI<|l.foldl (λv q=>v*(q.1.2:Int)+q.2) v,e3',e4'])
 | [],v,e3,e4,_=>⟨e3,e4,rfl⟩
 |q::l,v,e3,e4,h=>by
  have hq:=h q<|zzF ..;obtain⟨f3,f4,hf⟩:=CY l _ (sT<|pD q.1) (sI q.2) λx m=>h x<|zzD _ m;exact⟨f3,f4,YL rfl (zF (zM (NG ⋯ ⋯ ⋯) ⋯)<|zh rfl) hf⟩
def Nh{P:PZ}{ds:List Int}(h:PK P)(hl:P.length=ds.length):xI [(true,Xf P),(true,ze ds)]=sI (ld P ds):=by
 obtain⟨e3,e4,hf⟩:=CY (P.zip ds).reverse 0 none none λq m=>by
  have:=List.of_mem_zip<|List.mem_reverse.mp<|m;exact(h _ this.1).2.2
 rw[List.foldl_reverse,FZ P ds hl]at hf;have ez:(P.zip ds).reverse=P.reverse.zip ds.reverse:=List.reverse_zipWith hl;have w1:=ph (as:=[sT<|Xf P,sT<|ze ds,sI 0,none,none])<|za (i:=0) rfl;have w2:=ph (as:=[sT<|Xf P,sT<|ze ds,sI 0,none,none])<|za (i:=1) rfl;rw[<-List.map_reverse]at w1 w2;have it:XJ tO [sT<|Xf P,sT<|ze ds,sI 0,none,none]=some ((P.zip ds).reverse.map λq=>(true,D.tup [pD q.1,.int q.2]),[sT<|Xf P,sT<|ze ds,sI 0,none,none]):=by
  rw[ez,<-Wx];have hw:=y8 w1<|y8 w2 ⋯;unfold XJ tO;rw[hw];rfl
 exact xX rfl<|zt ⋯ (zt (yC it hf) ⋯)
def Jt{as:AS}{a b:EF}{i:Nat}{l:List Int}{k v:Int}(h:as[i]? = some (some<|vP l))(hl:l.length<900)(ha:WD a as true (.int k))(hb:WD b as true (.int v))(k0:0<=k)(k1:k<1000):∃l':List Int,l'.Perm (v::l)/\zW (vL i (dC a<|dC b dN) S_) as=some (.nx<|as.set i<|some<|vP l'):=by
 refine⟨l.take _++v::l.drop (Vq k l.length),List.perm_middle.trans (by rw[List.take_append_drop]), ?_⟩;unfold zW vL;rw[h];have e:=zH ha<|zH hb yu;rw[e];show(Option.bind (match as[i]? with|some (some<|.nd .ls os)=>_|_=>none) _)=_;rw[h];show((S_ _ _).bind _).bind _=_;have e2:S_ (l.map VM) [.lf true<|.int k,VM v]=some ((l.take (Vq k l.length)++v::l.drop (Vq k l.length)).map VM,.lf true .non):=by
  show(if _/\(l.map VM).length<sizeLine then _ else _)=_;rw[if_pos ⟨⋯,by rw[zzB];exact slt ⋯⟩,zzB,zyM,zyS,List.map_take,List.map_drop]
 rw[e2];rfl
def O7{x:Int}{n:Nat}(n8:n<=8):∃F:List Int,F.Perm (YQ n)/\RE (Wl [(true,.int x),(true,.int n)]) (ze F):=by
 obtain⟨as',hf,x',F,e3,rfl,hp⟩:=xa (g:=gN 3) (f:=(zi pY
  (zr true 0<|f2 zm (f2 zB zz zo) zy)))
  (λi as=>∃(x':Int) (F:List Int) (e3:Option O),as=[sI x',sI n,some<|vP F,e3]/\F.Perm (YQ i)) (y9 0 n) 0 [sI x,sI n,some<|vP [],none] (λi z as hz hI=>by
   obtain⟨x',F,e3,rfl,hp⟩:=hI;obtain⟨rfl,hi⟩:=xU hz;rw[zyX]at hp ⊢;rw[Int.zero_add];have fl:F.length=i:=by rw[hp.length_eq,zzB,zyU]
   have q0:=zyN x' (show(i:Int)+1≠0 by omega);have q1:=zyH x' (show(0:Int)<(i:Int)+1 from q0T fl);obtain⟨F',p',hs⟩:=Jt (as:=[sI x',sI n,some<|vP F,sI i]) (b:=fV 3) (i:=2) rfl (by omega) (zY ⋯ ⋯ (q0T fl)) ⋯ q0 (by omega);refine⟨[sI x',sI n,some<|vP F,sI i],rfl,_,zt hs<|zF (xJ ⋯ ⋯ (q0T fl) (zD (by omega)<|by omega))<|zh rfl,_,F',_,rfl, ?_⟩;show F'.Perm ((List.range<|i+1).map λ(i:Nat)=>(i:Int));rw[List.range_succ,zyM];exact p'.trans<|(hp.cons _).trans (List.perm_append_singleton _ _).symm)
  ⟨x,[],none,rfl,List.Perm.refl _⟩
 rw[xg,zyX]at hp;have hrun:=xO (as:=[sI x,sI n,some<|vP [],none]) (zd (za (i:=1) rfl) zq) (by omega) (by omega);exact⟨F,hp,zN rfl<|zc (vR (Ys yu<|WY rfl)<|zh rfl)<|zc (yC hrun hf) ⟨_,RZ (i:=2) rfl (Zu F).2.1,(Qs F).1,(Qs F).2⟩⟩
def WL(fr:DF)(as:AS)(xs:List D):Prop:=∃os,fr as=some (os,as)/\O.strs os=true/\O.toDs os=xs
def Wh{as:AS}:WL dN as []:=⟨[],rfl,rfl,rfl⟩
def yg{a:EF}{fr:DF}{as:AS}{x:D}{xs:List D}(h:WE a as x)(t:WL fr as xs):WL (dC a fr) as (x::xs):=by
 obtain⟨o,h1,h2,h3⟩:=h;obtain⟨os,t1,t2,t3⟩:=t;refine⟨o::os,Tf h1 t1, ?_, ?_⟩
 . show(o.str&&O.strs os)=true;rw[h2,t2];rfl
 . show o.toD::O.toDs os=_;rw[h3,t3]
def VG{fr:DF}{as:AS}{xs:List D}(h:WL fr as xs)(hl:Nat.ble xs.length 1000=true):WE (zZ fr) as (.lst xs):=by
 obtain⟨os,h1,h2,h3⟩:=h;have e:os.length=xs.length:=by rw[<-h3,Yq]
 exact xG h1 (by rw[e];exact WY hl) h2<|congrArg D.lst h3
noncomputable def jG:List PZ:=[[(0,3)],[(2,3)],[(1,4)],[(0,2),(2,2)],[(3,4)],[(2,4)],[(0,2),(1,3)],[(0,5)],[(2,2),(3,4)],[(1,2),(2,3)],[(0,4)],[(3,4)],[(1,6)],[(0,2),(3,4)],[(2,7)],[(0,6)]]
def lP(P:PZ):Bool:=P.all (λp=>((p.1==0&&p.2<=6)||p.1==1||p.1==2||(p.1==3&&p.2==4))&&2<=p.2&&p.2<=7)&&PN P<=8&&P.tail.all (λp=>p.1 != 0)&&P.length<=2&&P != []
def AC:∀P ∈ jG,lP P=true:=by decide
structure Pt(P:PZ):Prop where
 k:PK P
 n8:PN P<=8
 tl:∀p ∈ P.tail,p.1≠0
 l2:P.length<=2
 ne:P≠[]
 z6:∀p ∈ P,p.1=0->p.2<=6
def qg{P:PZ}(h:lP P=true):Pt P:=by
 unfold lP at h;simp only[zyC,List.all_eq_true,Bool.or_eq_true,beq_iff_eq,decide_eq_true_eq,bne_iff_ne,ne_eq]at h;obtain⟨⟨⟨⟨h1,h2⟩,h3⟩,h4⟩,h5⟩:=h;refine⟨λp mp=>?_,h2,h3,h4,h5,λp mp e=>?_⟩
 . obtain⟨⟨h,a⟩,b⟩:=h1 p mp;refine⟨?_,a,b⟩
   rcases h with((h|h)|h)|h
   . exact .inl ⟨h.1,by omega⟩
   . exact .inr<|.inl ⟨h,q1w a b⟩
   . exact .inr<|.inr<|.inl ⟨h,q1w a b⟩
   . exact .inr<|.inr<|.inr ⟨h.1,h.2⟩
 . obtain⟨⟨h,a⟩,b⟩:=h1 p mp
   rcases h with((h|h)|h)|h
   . exact h.2
   . omega
   . omega
   . omega
def jT{as:AS}{k:Int}{n:Nat}:WE (yd<|dC (fC<|.int k)<|dC (fC<|.int (n:Int)) dN) as (pD (k,n)):=yR (WD.e zb)<|WD.e zb
def Cu{as:AS}{k:Int}{n:Nat}:WE (zZ<|dC (yd<|dC (fC<|.int k)<|dC (fC<|.int (n:Int)) dN) dN) as (Xf [(k,n)]):=VG (yg jT Wh) rfl
def qH{as:AS}{k l:Int}{n m:Nat}:WE (zZ<|dC (yd<|dC (fC<|.int k)<|dC (fC<|.int (n:Int)) dN)<|dC (yd<|dC (fC<|.int l)<|dC (fC<|.int (m:Int)) dN) dN) as (Xf [(k,n),(l,m)]):=VG (yg jT<|yg jT Wh) rfl
def Sv(x:Int):∃P:PZ,Pt P/\RE (Wt [(true,.int x)]) (Xf P):=by
 have q0:=zyN x (show(16:Int)≠0 by decide);have q1:=zyH x (show(0:Int)<16 by decide);obtain⟨P,hP,mP⟩:=rC Xf (T:=jG) (P:=λP=>lP P=true) q0 q1 AC;have s1:=yU (p:=1) (as:=[sI x,none]) (VG (yg (Cu (k:=0) (n:=3))<|yg (Cu (k:=2) (n:=3))<|yg (Cu (k:=1) (n:=4))<|yg (qH (k:=0) (n:=2) (l:=2) (m:=2))<|yg (Cu (k:=3) (n:=4))<|yg (Cu (k:=2) (n:=4))<|yg (qH (k:=0) (n:=2) (l:=1) (m:=3))<|yg (Cu (k:=0) (n:=5)) Wh) rfl)<|zh rfl;have s2:=yU (p:=1) (as:=[sI x,sT<|.lst<|([[(0,3)],[(2,3)],[(1,4)],[(0,2),(2,2)],[(3,4)],[(2,4)],[(0,2),(1,3)],[(0,5)]]:List PZ).map Xf]) (Fg (WD.e<|za (i:=1) rfl) (VG (yg (qH (k:=2) (n:=2) (l:=3) (m:=4))<|yg (qH (k:=1) (n:=2) (l:=2) (m:=3))<|yg (Cu (k:=0) (n:=4))<|yg (Cu (k:=3) (n:=4))<|yg (Cu (k:=1) (n:=6))<|yg (qH (k:=0) (n:=2) (l:=3) (m:=4)) Wh) rfl)<|add_lists<|WY rfl)<|zh rfl;have s3:=yU (p:=1) (as:=[sI x,sT<|.lst<|([[(0,3)],[(2,3)],[(1,4)],[(0,2),(2,2)],[(3,4)],[(2,4)],[(0,2),(1,3)],[(0,5)],[(2,2),(3,4)],[(1,2),(2,3)],[(0,4)],[(3,4)],[(1,6)],[(0,2),(3,4)]]:List PZ).map Xf]) (Fg (WD.e<|za (i:=1) rfl) (VG (yg (Cu (k:=2) (n:=7))<|yg (Cu (k:=0) (n:=6)) Wh) rfl)<|add_lists<|WY rfl)<|zh rfl;exact⟨P,qg mP,zN rfl<|zc s1<|zc s2<|zc s3<|zE<|WD.e<|vZ (as:=[sI x,sT<|.lst<|jG.map Xf]) (za (i:=1) rfl) (zY (za (i:=0) rfl) zb<|by decide) hP⟩
section
variable{α:Type}{fi:IF}{cap:List (Option Nat)}{gg:GF}{fe:EF}{as:AS}{it:α->wG}
def Kx{h:α->Int}(l:List α)(h1:fi as=some (l.map it,as))(hl:l.length<=1000)(H:∀q ∈ l,∃as1,gg (it q) (ZV cap as)=some as1/\WD fe as1 true (.int<|h q)):yb fi cap gg yP fe as=some (.ow<|vP<|l.map h,as):=by
 have c:∀l:List α,(∀q ∈ l,∃as1,gg (it q) (ZV cap as)=some as1/\WD fe as1 true (.int<|h q))->xV gg yP fe (ZV cap as) (l.map it)=some ((l.map h).map VM):=by
  intro l
  induction l with
  |nil=>exact λ_=>rfl
  |cons q l ih=>
   intro H;obtain⟨as1,a,b⟩:=H q<|zzF ..;exact Q0 a b<|ih λz m=>H z<|zzD _ m
 exact VU h1 (by rw[zzB];exact BR ⋯)<|c l H
def O6{h:α->D}(l:List α)(h1:fi as=some (l.map it,as))(hl:l.length<=1000)(H:∀q ∈ l,∃as1,gg (it q) (ZV cap as)=some as1/\WE fe as1 (h q)):∃os,yb fi cap gg yP fe as=some (.ow<|.nd .ls os,as)/\O.strs os=true/\O.toDs os=l.map h:=by
 have c:∀l:List α,(∀q ∈ l,∃as1,gg (it q) (ZV cap as)=some as1/\WE fe as1 (h q))->∃os,xV gg yP fe (ZV cap as) (l.map it)=some os/\O.strs os=true/\O.toDs os=l.map h:=by
  intro l
  induction l with
  |nil=>exact λ_=>⟨[],rfl,rfl,rfl⟩
  |cons q l ih=>
   intro H;obtain⟨as1,a,o,b1,b2,b3⟩:=H q<|zzF ..;obtain⟨os,c1,c2,c3⟩:=ih λz m=>H z<|zzD _ m;refine⟨o::os,N_ a b1 b2 c1, ?_, ?_⟩
   . show(o.str&&O.strs os)=_;rw[b2,c2];rfl
   . show o.toD::O.toDs os=_;rw[b3,c3];rfl
 obtain⟨os,c1,c2,c3⟩:=c l H;exact⟨os,VU h1 (by rw[zzB];exact BR ⋯) c1,c2,c3⟩
end
def JD{as:AS}{fr:AF}{n:Nat}{u:Bool}(h:WA fr as [(u,.int n)])(hn:n<=1000):yt fr yV as=some ((List.range n).map λi:Nat=>(true,D.int<|0+(i:Int)),as):=by
 have:=xO h ⋯ ⋯
 rwa [zyI]at this
theorem any_ints(b:Int):∀r:List Int,∃t,anyF (λy=>YG 50 y<|.int b) (r.map D.int)=some t
 | []=>⟨_,rfl⟩
 |x::r=>by
  obtain⟨t,h⟩:=any_ints b r;refine⟨(x==b)||t, ?_⟩;show(some _).bind _=_;rw[h];rfl
theorem Mt{b:Int}:∀{r:List Int},b ∈ r->∃j:Nat,j<r.length/\r[j]? = some b/\La (λy=>YG 50 y<|.int b) (r.map D.int)=some j
 |x::r,m=>by
  by_cases e:x=b
  . obtain⟨t,h⟩:=any_ints b r;refine⟨0,Nat.succ_pos _,by rw[e];rfl, ?_⟩;show(some _).bind _=_;rw[show(x==b)=true by simp[e]];rw[h];rfl
  . obtain⟨j,h1,h3,h2⟩:=Mt<|(zzC.mp m).resolve_left λz=>e z.symm;refine⟨j+1,Nat.succ_lt_succ h1,⋯, ?_⟩;show(some _).bind _=_;rw[show(x==b)=false by simp[e]];rw[h2];rfl
def Gk(r:List Int)(b:Int):Int:=(((La (λy=>YG 50 y<|.int b)<|r.map D.int).getD 0:Nat):Int)
def CP{n:Nat}{r:List Int}{b:Int}(hl:r.length=n)(hb:b ∈ r):zT n (Gk r b)/\Zn r (Gk r b)=b/\La (λy=>YG 50 y<|.int b) (r.map D.int)=some (Gk r b).toNat:=by
 obtain⟨j,j1,j2,j3⟩:=Mt hb;have e:Gk r b=j:=by unfold Gk;rw[j3];rfl
 rw[e];refine⟨⋯, ?_,j3⟩;unfold Zn;rw[zyI,j2];rfl
def gS{as:AS}{r:List Int}{i j:Nat}{x:Int}(hl:r.length<=1000)(hx:x ∈ r)(hi:as[i]? = some (sT<|ze r))(hj:as[j]? = some (sI x)):WD (Ke .lst (fV i) (aC (fV j) aN) FD) as true (.int<|Gk r x):=by
 obtain⟨a1,a2,a3⟩:=CP rfl hx;refine JP (za hi) rfl (zd (za hj) zq) ?_ rfl;show(La _ _).bind _=_;rw[a3];show(if(r.map D.int).length<=1000 then some _ else none)=_;rw[if_pos (by rwa [zzB]),show(((Gk r x).toNat:Nat):Int)=Gk r x by omega]
section
variable{n:Nat}{F:List Int}
def Yp(h:F.Perm (YQ n)){x:Int}(hx:zT n x):zT n (Gk F x)/\Zn F (Gk F x)=x:=
 have k:=CP (wq h).1.1 ((wq h).2 x hx.1 hx.2)
 ⟨k.1,k.2.1⟩
def WX(h:F.Perm (YQ n)){v:Int}(hv:zT n v):zT n (Zn F v):=(rowAt (wq h).1 hv).2
def T9(h:F.Perm (YQ n)){a:Int}(ha:zT n a):Gk F (Zn F a)=a:=
 have k:=Yp h (WX h ha)
 HQ h k.1 ha k.2
end
def pin:PZ->List Int->Prop
 | [],[]=>True
 |p::P,a::s=>zT p.2 a/\pin P s
 |_,_=>False
theorem LK:∀{P:PZ},PK P->∀v,pin P<|sp P v
 | [],_,_=>trivial
 |p::P,h,v=>⟨Wn (by have:=(h p<|zzF ..).2.1;exact q0C this),LK h.tail _⟩
theorem HB(f:Int->Nat->Int->Int->Int):∀{P:PZ}{s t:List Int},pin P s->pin P t->P.length=(z3 f P s t).length
 | [],[],[],_,_=>rfl
 |_::_,_::_,_::_,h,k=>congrArg _<|HB f h.2 k.2
 | [],_::_,_,h,_=>h.elim
 |_::_,[],_,h,_=>h.elim
 | [],[],_::_,_,h=>h.elim
 |_::_,_::_,[],_,h=>h.elim
theorem Ox(f:Int->Nat->Int->Int):∀{P:PZ}{s:List Int},pin P s->P.length=(z2 f P s).length
 | [],[],_=>rfl
 |_::_,_::_,h=>congrArg _<|Ox f h.2
 | [],_::_,h=>h.elim
 |_::_,[],h=>h.elim
abbrev j_:EF:=zg (aC zm<|aC zk Zk) vA
theorem DZ:∀{P:PZ}{s t:List Int},PK P->pin P s->pin P t->xV rT yP j_ [none,none,none] (Xv true (P.map pD) (s.map D.int)<|t.map D.int)=some ((z3 jK P s t).map VM)
 | [],[],[],_,_,_=>rfl
 |p::P,a::s,b::t,h,ha,hb=>Q0 rfl (Nt (zd (za rfl)<|zd (za rfl)<|zd (za rfl) zq)<|Nv (h p<|zzF ..).1 ha.1 hb.1)<|DZ h.tail ha.2 hb.2
 | [],_::_,_,_,h,_=>h.elim
 |_::_,[],_,_,h,_=>h.elim
 | [],[],_::_,_,_,h=>h.elim
 |_::_,_::_,[],_,_,h=>h.elim
abbrev hG:EF:=zg (aC zm<|aC zA<|aC zB xp) xQ
theorem ud{x c:Int}{m:Nat}(hc:zT m c)(m6:m<=6):∀{P:PZ}{s:List Int},PK P->pin P s->xV (gT 2<|y6 x5<|y6 (gN 1) Xn) yP hG [none,none,sI x,sI c] (QV true (P.map pD)<|s.map D.int)=some ((z2 (λk n a=>dK k n x c a) P s).map VM)
 | [],[],_,_=>rfl
 |p::P,a::s,h,ha=>Q0 rfl (Nt (zd (za rfl)<|zd (za rfl)<|zd (za rfl)<|zd (za rfl) zq)<|Na (h p<|zzF ..) hc m6 ha.1)<|ud hc m6 h.tail ha.2
 | [],_::_,_,h=>h.elim
 |_::_,[],_,h=>h.elim
def IS{P:PZ}{u v:Int}(h:PK P)(l2:P.length<=2):WD (zg (aC zk<|aC (yb (BI<|aC zk<|aC zA vN) [none,none,none] rT yP j_) aN) xI) [sT<|ze<|sp P v,sT<|Xf P,sT<|ze<|sp P u] true (.int<|jX P u v):=by
 have p1:=LK h u;have p2:=LK h v;have it:BI (aC zk<|aC zA vN) [sT<|ze<|sp P v,sT<|Xf P,sT<|ze<|sp P u]=some (Xv true (P.map pD) ((sp P u).map D.int)<|(sp P v).map D.int,[sT<|ze<|sp P v,sT<|Xf P,sT<|ze<|sp P u]):=by
  show(if(P.map pD).length=((sp P u).map D.int).length/\((sp P u).map D.int).length=((sp P v).map D.int).length then _ else _)=_;rw[if_pos<|by simp only[zzB,LS,and_self]];rfl
 have wc:=VU (cap:=[none,none,none]) it (by rw[Uh _ _ _ _ (by simp only[zzB,LS]) (by simp only[zzB,LS]),zzB];exact BR ⋯)<|DZ h p1 p2;have:=VN (WD.e ⋯) (Uk wc)<|Nh h<|HB jK p1 p2
 rwa [DR]at this
def mD{P:PZ}{x c v:Int}{m:Nat}(h:PK P)(l2:P.length<=2)(hc:zT m c)(m6:m<=6):WD (zg (aC zk<|aC (yb (XJ<|aC zk vN) [none,none,some 2,some 3] (gT 2<|y6 x5<|y6 (gN 1) Xn) yP hG) aN) xI) [sT<|ze<|sp P v,sT<|Xf P,sI x,sI c] true (.int<|dX P x c v):=by
 have p1:=LK h v;have it:XJ (aC zk vN) [sT<|ze<|sp P v,sT<|Xf P,sI x,sI c]=some _:=rfl;have wc:=VU (cap:=[none,none,some 2,some 3]) it (by rw[QE,zzB];exact BR ⋯)<|ud hc m6 h p1;have:=VN (WD.e ⋯) (Uk wc)<|Nh h<|Ox _ p1
 rwa [uc]at this
def Ig{n:Nat}{g:GF}{f:SF}{S:List O->Option O->AS}{it:Nat->wG}{v:Nat->O}{w:Nat->Option O}(hn:n<=900)(H:∀i,i<n->∀os e,os.length<900->g (it i) (S os e)=some (S os<|w i)/\f (S os<|w i)=some (.nx<|S (os++[v i])<|w i))(e0:Option O):∃e',forL g f ((List.range n).map it) (S [] e0)=some (.nx<|S ((List.range n).map v) e'):=by
 obtain⟨as',hf,e',rfl⟩:=xa (λi as=>∃e,as=S ((List.range i).map v) e) _ 0 _ (λi x as hx hI=>by
  obtain⟨e,rfl⟩:=hI;rw[zyX];have hi:i<n:=by
   have:=(zzG.mp hx).1
   rwa [zzB,zyU]at this
  rw[zzI,List.getElem?_range hi]at hx;cases hx;obtain⟨h1,h2⟩:=H i hi ((List.range i).map v) e (by rw[zzB,zyU];omega);exact⟨_,h1,_,h2,w i,by rw[List.range_succ,zyM];rfl⟩) ⟨e0,rfl⟩
 rw[zzB,zyU,zyX]at hf;exact⟨e',hf⟩
def m5{as:AS}{i:Nat}{s:Bool}{r:List Int}(h:as[i]? = some (some<|.lf s<|ze r)):wR (fV i) as=some (r.map λx=>(true,D.int x),as):=by
 refine AZ (za h) ?_;show some _=_;unfold kids;rw[zyB];rfl
def oA{as:AS}{i:Nat}{T:TZ}(h:as[i]? = some (some<|E5 T)):wR (fV i) as=some (T.map λr=>(false,ze r),as):=by
 unfold wR;rw[Mi h];show((match as[i]? with|some (some<|.nd .ls os)=>some _|some (some<|.nd .tp os)=>some _|_=>none:Option _).bind λl=>some _)=_;rw[h];show some _=_;unfold P6;rw[zyB]
 congr 2
 refine List.map_congr_left λr _=>?_;show(false,(vP r).toD)=_;rw[(Qs r).2]
section
variable{n m:Nat}{F:List Int}{P:PZ}
def iM{as:AS}{i:Nat}{T:TZ}(hF:Row n F)(hi:as[i]? = some (some<|E5 T))(hc:∀d:wG,gN 0 d (ZV [none,some 5] as)=some [some<|.lf d.1 d.2,sT<|ze F])(hl:T.length<=900)(hr:∀r ∈ T,r.length<=900/\∀x ∈ r,zT n x):∃os,yb (wR<|fV i) [none,some 5] x5 yP Sa as=some (.ow<|.nd .ls os,as)/\O.strs os=true/\O.toDs os=(T.map λr=>r.map<|Zn F).map ze:=by
 obtain⟨os,h1,h2,h3⟩:=O6 T (oA hi) ⋯ λr mr=>by
  refine⟨_,hc _, ?_⟩;have wi:=Kx (as:=[some<|.lf false _,sT _]) (cap:=[none,some 1]) (gg:=gN 0) r (m5 (i:=0) rfl) (by have:=(hr r mr).1;exact q0b this) λx mx=>⟨_,rfl,zV (za (i:=1) rfl) (za (i:=0) rfl) (rowAt hF<|(hr r mr).2 x mx).1 rfl⟩;exact Uk wi
 exact⟨os,h1,h2,by rw[h3,zyB];rfl⟩
def J3(P:PZ)(F:List Int)(n a:Nat):List Int:=(List.range n).map λb:Nat=>jX P (Gk F a)<|Gk F b
def Lq(P:PZ)(F:List Int)(n:Nat):TZ:=((List.range n).map<|J3 P F n).map λr=>r.map<|Zn F
def Fc(P:PZ)(F:List Int)(n:Nat)(x:Int)(c:Nat):List Int:=(List.range n).map λa:Nat=>dX P x c<|Gk F a
def t9(P:PZ)(F:List Int)(n m:Nat)(x:Int):TZ:=((List.range m).map<|Fc P F n x).map λr=>r.map<|Zn F
def I_{g:Nat->Int}{v:Int}(hv:zT n v):Zn ((List.range n).map g) v=g v.toNat:=by
 unfold Zn;rw[zzI,List.getElem?_range ⋯];rfl
def OG{k:Nat}{g:Nat->Nat->Int}{u v:Int}(hu:zT k u)(hv:zT n v):yZ (((List.range k).map λa=>(List.range n).map<|g a).map λr=>r.map<|Zn F) u v=Zn F (g u.toNat v.toNat):=by
 unfold yZ;rw[zzI,zzI,List.getElem?_range ⋯];show Zn (((List.range n).map _).map _) v=_;rw[zyB,I_ hv];rfl
def BG{k:Nat}{g:Nat->Nat->Int}(hF:Row n F)(hg:∀a b,a<k->b<n->zT n (g a b)):Tab k n (((List.range k).map λa=>(List.range n).map<|g a).map λr=>r.map<|Zn F):=by
 refine⟨by rw[zzB,zzB,zyU],λr mr=>?_⟩;obtain⟨q,mq,rfl⟩:=zxB.mp mr;obtain⟨a,ma,rfl⟩:=zxB.mp mq;refine⟨by rw[zzB,zzB,zyU],λx mx=>?_⟩;obtain⟨y,my,rfl⟩:=zxB.mp mx;obtain⟨b,mb,rfl⟩:=zxB.mp my;exact(rowAt hF<|hg a b (List.mem_range.mp ma)<|List.mem_range.mp mb).2
def Eg{i:Nat}(h:i<n):zT n (i:Int):=⋯
def D_(hP:PK P)(hn:n=PN P)(hF:F.Perm (YQ n)){a b:Nat}(ha:a<n)(hb:b<n):zT n (jX P (Gk F a)<|Gk F b):=by
 have:=(rZ hP).cl;rw[<-hn]at this;exact this _ _ (Yp hF<|Eg ha).1 (Yp hF<|Eg hb).1
def D4{x:Int}(hP:PK P)(hn:n=PN P)(m1:1<=m)(hm:∀p ∈ P,p.1=0->m=p.2)(hF:F.Perm (YQ n)){c a:Nat}(hc:c<m)(ha:a<n):zT n (dX P x c<|Gk F a):=by
 have:=(lZ (x:=x) m1 hP hm).cl;rw[<-hn]at this;exact this _ _ (Eg hc) (Yp hF<|Eg ha).1
def Bo(hP:PK P)(hn:n=PN P)(hF:F.Perm (YQ n)):Tab n n (Lq P F n)/\LJ n (yZ<|Lq P F n) (Zn F<|eX P)/\∀a b,zT n a->zT n b->yZ (Lq P F n) (Zn F a) (Zn F b)=Zn F (jX P a b):=by
 have q:∀a b,zT n a->zT n b->yZ (Lq P F n) _ _=Zn F _:=λa b ha hb=>by
  have ia:=WX hF ha;have ib:=WX hF hb;refine(OG ia ib).trans ?_;rw[show(((Zn F a).toNat:Nat):Int)=Zn F a by omega,show(((Zn F b).toNat:Nat):Int)=Zn F b by omega,T9 hF ha,T9 hF hb]
 have hL:=rZ hP;rw[<-hn]at hL;exact⟨BG (wq hF).1 λa b ha hb=>D_ hP hn hF ha hb,gf hL (λa ha=>WX hF ha) (λa ha=>(Yp hF ha).1) (λa ha=>(Yp hF ha).2) q,q⟩
def AK{x:Int}(hP:PK P)(hn:n=PN P)(m1:1<=m)(hm:∀p ∈ P,p.1=0->m=p.2)(hF:F.Perm (YQ n)):Tab m n (t9 P F n m x)/\LD n m (yZ<|Lq P F n) (Zn F<|eX P) (yZ<|t9 P F n m x):=by
 have hL:=rZ hP;have hD:=lZ (x:=x) m1 hP hm;rw[<-hn]at hL hD;refine⟨BG (wq hF).1 λc a hc ha=>D4 hP hn m1 hm hF hc ha,g8 ⋯ hL hD (λa ha=>WX hF ha) (λa ha=>(Yp hF ha).1) (λa ha=>(Yp hF ha).2) (Bo hP hn hF).2.2 λc a hc ha=>?_⟩;have ia:=WX hF ha;refine(OG hc ia).trans ?_;rw[show(((Zn F a).toNat:Nat):Int)=Zn F a by omega,show c.toNat=c by omega,T9 hF ha]
end
abbrev iY:SF:=nH
abbrev ir:SF:=o6
abbrev iI:SF:=pC
abbrev iE:SF:=nI
abbrev ie:SF:=oG
abbrev ic:SF:=nj
abbrev iW:SF:=(zr false 7<|zZ dN)
abbrev iJ:SF:=(yL (Wc xm) (gN 8) lU)
abbrev gu:SF:=(zr false 7<|yb (wR YO) [none,some 5] x5 yP Sa)
abbrev vD(P:PZ)(F:List Int)(n:Nat):D:=.lst ((List.range n).map λa:Nat=>ze<|sp P<|Gk F a)
abbrev A7(ns:List Int)(P:PZ)(n m:Nat)(F:List Int)(l:AS):AS:=sT (ze ns)::sI 0::sT (Xf P)::sI n::sI m::sT (ze F)::sT (vD P F n)::l
structure Hd(P:PZ)(n m:Nat)(F:List Int):Prop where
 p:Pt P
 nn:n=PN P
 m1:1<=m
 m6:m<=6
 z:∀p ∈ P,p.1=0->m=p.2
 f:F.Perm (YQ n)
def qQ{as:AS}{P:PZ}(h:as[2]? = some (sT<|Xf P)):wR zA as=some (P.map λp=>(true,pD p),as):=YN ⋯
def ue{as:AS}{P:PZ}{fe:EF}{f:Int×Nat->Int}(hP:Pt P)(h:as[2]? = some (sT<|Xf P))(hf:∀p:Int×Nat,WD fe [sI p.1,sI p.2] true<|.int<|f p):WD (zg (aC zA<|aC (yb (wR zA) [none,none] (gT 2<|y6 x5<|y6 (gN 1) Xn) yP fe) aN) xI) as true (.int<|ld P<|P.map f):=
 VN ⋯ (Uk<|Kx P (qQ h) (by have:=hP.l2;omega) λp _=>⟨[sI p.1,sI p.2],rfl,hf p⟩) (Nh hP.k (zzB ..).symm)
def JL(ns:List Int):∃P n m F,Hd P n m F/\∀(g:SF) (d:D),Rt (g<|A7 ns P n m F [none,none,none,none,none,none,none,none,none,none]) d->Rt (zi iY (zi ir<|zi iI<|zi iE<|zi ie<|zi ic g) [sT<|ze ns,sI 0,none,none,none,none,none,none,none,none,none,none,none,none,none,none,none]) d:=by
 obtain⟨x0,hx0,w0⟩:=Vs ns (k:=0) (by omega);obtain⟨x1,hx1,w1⟩:=Vs ns (k:=1) (by omega);obtain⟨P,hP,rP⟩:=Sv x0;have nN:=iy P;have n8:=hP.n8;have n1:=EK hP.k;obtain⟨F,hF,rF⟩:=O7 (x:=x1) n8;have s1:iY [sT<|ze ns,sI 0,none,none,none,none,none,none,none,none,none,none,none,none,none,none,none]=some (.nx _):=yU (p:=2) (xF (WD.e<|w0 _ _ rfl<|za (i:=1) rfl) rP)<|zh rfl;have s2:ir [sT<|ze ns,sI 0,sT<|Xf P,none,none,none,none,none,none,none,none,none,none,none,none,none,none]=some (.nx [sT<|ze ns,sI 0,sT<|Xf P,sI<|PN P,none,none,none,none,none,none,none,none,none,none,none,none,none]):=by
  have w:=zM (ue (as:=[sT<|ze ns,sI 0,sT<|Xf P,none,none,none,none,none,none,none,none,none,none,none,none,none,none]) (fe:=f2 zk zz xx) (f:=λp=>(p.2:Int)-1) hP rfl λp=>Zb (za (i:=1) rfl) zb)<|zb (x:=.int 1);rw[nN]at w;exact zF (i:=3) w<|zh rfl
 have q0:=zyN (x0/16) (show(4:Int)≠0 by decide);obtain⟨m0,em⟩:∃k:Nat,(k:Int)=1+x0/16%4:=⟨(1+x0/16%4).toNat,by omega⟩;have s3:iI [sT<|ze ns,sI 0,sT<|Xf P,sI<|PN P,none,none,none,none,none,none,none,none,none,none,none,none,none]=some (.nx [sT<|ze ns,sI 0,sT<|Xf P,sI<|PN P,sI m0,none,none,none,none,none,none,none,none,none,none,none,none]):=by
  have w:=zM (zb (x:=.int 1)) (zY (xJ (w0 [sT<|ze ns,sI 0,sT<|Xf P,sI<|PN P,none,none,none,none,none,none,none,none,none,none,none,none,none] zk rfl<|za (i:=1) rfl) (zb (x:=.int 16)) (by decide)<|zD (by decide)<|by decide) (zb (x:=.int 4))<|by decide);rw[<-em]at w;exact zF (i:=4) w<|zh rfl
 obtain⟨m,m1,m6,mz,s4⟩:∃m:Nat,1<=m/\m<=6/\(∀p ∈ P,p.1=0->m=p.2)/\iE [sT<|ze ns,sI 0,sT<|Xf P,sI<|PN P,sI m0,none,none,none,none,none,none,none,none,none,none,none,none]=some (.nx [sT<|ze ns,sI 0,sT<|Xf P,sI<|PN P,sI m,none,none,none,none,none,none,none,none,none,none,none,none]):=by
  obtain _|⟨p,Q⟩:=P
  . exact absurd rfl hP.ne
  have wp:WD (f2 zA zP zv) [sT<|ze ns,sI 0,sT<|Xf (p::Q),sI<|PN (p::Q),sI m0,none,none,none,none,none,none,none,none,none,none,none,none] true (pD p):=vZ (za (i:=2) (x:=Xf (p::Q)) rfl) (zb)<|Ye (f:=pD) (l:=p::Q) (i:=0) rfl;have tl:=hP.tl
  by_cases hz:p.1=0
  . have k:=hP.z6 p (zzF ..) hz;have k2:=hP.k p<|zzF ..;refine⟨p.2,by omega,k,λq mq e=>?_,yY (eqT (zV wp zb rfl rfl) zb<|by rw[hz];rfl)<|zF (i:=4) (zV wp zb rfl rfl)<|zh rfl⟩
    rcases zzC.mp mq with rfl|mq
    . rfl
    . exact absurd e<|tl q mq
  . refine⟨m0,by omega,by omega,λq mq e=>?_,zp (eqT (zV wp zb rfl rfl) zb<|beq_eq_false_iff_ne.mpr hz) rfl⟩
    rcases zzC.mp mq with rfl|mq
    . exact absurd e hz
    . exact absurd e<|tl q mq
 have s5:ie [sT<|ze ns,sI 0,sT<|Xf P,sI<|PN P,sI m,none,none,none,none,none,none,none,none,none,none,none,none]=some (.nx _):=yU (p:=5) (yQ (WD.e<|w1 _ _ rfl<|zM (za (i:=1) (x:=.int 0) (s:=true) rfl)<|zb (x:=.int 1)) (WD.e<|za (i:=3) rfl) rF)<|zh rfl;have s6:ic [sT<|ze ns,sI 0,sT<|Xf P,sI<|PN P,sI m,sT<|ze F,none,none,none,none,none,none,none,none,none,none,none]=some (.nx<|A7 ns P (PN P) m F [none,none,none,none,none,none,none,none,none,none]):=by
  obtain⟨os,o1,o2,o3⟩:=O6 (cap:=[none,some 2,some 5]) (gg:=gN 0) (List.range<|PN P) (JD (as:=[sT<|ze ns,sI 0,sT<|Xf P,sI<|PN P,sI m,sT<|ze F,none,none,none,none,none,none,none,none,none,none,none]) (zd (za (i:=3) rfl) zq)<|(q0E n1 n8)) (by rw[zyU];exact q0E n1 n8) λa ma=>by
   have ha:=List.mem_range.mp ma;rw[Int.zero_add];refine⟨[sI a,sT<|Xf P,sT<|ze F],rfl,yQ (WD.e<|za (i:=1) rfl) (WD.e<|gS (i:=2) (j:=0) (by have:=(wq hF).1.1;omega) ((wq hF).2 a (q0a)<|(q0e ha)) rfl rfl) ⟨_,HL hP.k (by have:=hP.l2;omega),Qs _⟩⟩
  exact yU (p:=6) ⟨_,o1,o2,congrArg D.lst o3⟩<|zh rfl
 exact⟨P,PN P,m,F,⟨hP,rfl,m1,m6,mz,hF⟩,λg d h=>zc s1<|zc s2<|zc s3<|zc s4<|zc s5<|zc s6 h⟩
abbrev oe:SF:=(zr false 9<|zZ dN)
abbrev pw:SF:=pO
abbrev jW:SF:=oW
abbrev pV:SF:=(zr false 15<|zZ dN)
abbrev kZ:SF:=n5
abbrev lV:SF:=oV
section
variable{ns F:List Int}{P:PZ}{n m:Nat}
def Jv(h:Hd P n m F):∃os b,O.strs os=true/\O.toDs os=(Lq P F n).map ze/\∀(g:SF) (d:D),Rt (g<|A7 ns P n m F [sN os,b,none,none,none,none,none,none,none,none]) d->Rt (zi iW (zi iJ<|zi gu g)<|A7 ns P n m F [none,none,none,none,none,none,none,none,none,none]) d:=by
 have n8:=h.p.n8;rw[<-h.nn]at n8;have l2:=h.p.l2;have s7:iW (A7 ns P n m F [none,none,none,none,none,none,none,none,none,none])=some _:=vR ⋯ (zh rfl);obtain⟨b,hb⟩:=Ig (n:=n) (g:=gN 8) (f:=lU) (S:=λos e=>A7 ns P n m F [sN os,e,none,none,none,none,none,none,none,none]) (it:=λa=>(true,ze<|sp P<|Gk F a)) ⋯ (λa ha os e hl=>⟨rfl,Qn rfl (Kx _ (YN<|WD.e ⋯) (by rw[zyU];exact q0n n8) λb mb=>⟨[sT _,sT _,sT _],rfl,IS h.p.k l2⟩) rfl<|slt ⋯⟩) none;have s8:iJ (A7 ns P n m F [sN [],none,none,none,none,none,none,none,none,none])=some (.nx<|A7 ns P n m F [some<|E5<|(List.range n).map<|J3 P F n,b,none,none,none,none,none,none,none,none]):=by
  refine yC (F9 ⋯) ?_;rw[zyB];refine hb.trans ?_;show _=some (Out.nx<|A7 ns P n m F [sN _,b,none,none,none,none,none,none,none,none]);rw[zyB];rfl
 have hR:=(wq h.f).1;obtain⟨os,o1,o2,o3⟩:=iM (i:=7) (as:=A7 ns P n m F [some<|E5<|(List.range n).map<|J3 P F n,b,none,none,none,none,none,none,none,none]) hR rfl (λd=>rfl) (by rw[zzB,zyU];exact q0o n8) (λr mr=>by
  obtain⟨a,ma,rfl⟩:=zxB.mp mr;have ha:=List.mem_range.mp ma;refine⟨by unfold J3;rw[zzB,zyU];exact q0o n8,λx mx=>?_⟩;obtain⟨b,mb,rfl⟩:=zxB.mp mx;exact D_ h.p.k h.nn h.f ha<|List.mem_range.mp mb)
 exact⟨os,b,o2,o3,λg d hg=>zc s7<|zc s8<|zc (vR o1<|zh rfl) hg⟩
abbrev Dw(P:PZ)(n m:Nat)(F:List Int)(p:Str×TZ):Prop:=Tab m n p.2/\LD n m (yZ<|Lq P F n) (Zn F<|eX P) (yZ p.2)
abbrev VQ(ns:List Int)(P:PZ)(n m:Nat)(F:List Int)(o7:List O)(ss:List Str)(o9:List O)(b8 b11 b12 b13 b14 b15:Option O):AS:=A7 ns P n m F [sN o7,b8,sN o9,sT<|.lst<|ss.map D.str,b11,b12,b13,b14,b15,none]
def HD{o7:List O}{b:Option O}(h:Hd P n m F):∃ss o9 Ds b8 b11 b12 b13 b14,ss.length=7/\ss.Nodup/\Ows XA (Dw P n m F) o9 Ds/\1<=Ds.length/\Ds.length<=4/\Ds.map (·.1)=(List.range Ds.length).map (λj=>(ss[j]?).getD ("":Str))/\∀(g:SF) (d:D),Rt (g<|VQ ns P n m F o7 ss o9 b8 b11 b12 b13 b14 none) d->Rt (zi oe (zi pw<|zi jW g)<|A7 ns P n m F [sN o7,b,none,none,none,none,none,none,none,none]) d:=by
 have n8:=h.p.n8;rw[<-h.nn]at n8;have l2:=h.p.l2;have m6:=h.m6;have hR:=(wq h.f).1;obtain⟨x2,_,w2⟩:=Vs ns (k:=2) (by omega);obtain⟨x3,_,w3⟩:=Vs ns (k:=3) (by omega);obtain⟨ss,sl,sn,rs⟩:=N2 x2 (mn:=7) (by omega);have sg:∀i,i<7->ss[i]? = some ((ss[i]?).getD ("":Str)):=λi hi=>by rw[zzE<|(q1A hi sl)];rfl
 have s10:oe (A7 ns P n m F [sN o7,b,none,none,none,none,none,none,none,none])=some (.nx<|A7 ns P n m F [sN o7,b,sN [],none,none,none,none,none,none,none]):=vR (i:=9) (Ys yu<|WY rfl)<|zh rfl;have s11:pw (A7 ns P n m F [sN o7,b,sN [],none,none,none,none,none,none,none])=some (.nx<|VQ ns P n m F o7 ss [] b none none none none none):=yU (p:=10) (yQ (WD.e<|w2 _ _ rfl<|zM (za (i:=1) (x:=.int 0) (s:=true) rfl)<|zb (x:=.int 2)) (WD.e<|zb (x:=.int 7)) rs)<|zh rfl;have q0:=zyN x3 (show(4:Int)≠0 by decide);have q1:=zyH x3 (show(0:Int)<4 by decide);obtain⟨k,ek⟩:∃k:Nat,(k:Int)=1+x3%4:=⟨(1+x3%4).toNat,by omega⟩;obtain⟨as',hl,o9,Ds,b11,b12,b13,b14,rfl,hO,hN,hK⟩:=xa (g:=gN 11) (f:=iw)
  (λi as=>∃(o9:List O) (Ds:DD) (b11 b12 b13 b14:Option O),as=VQ ns P n m F o7 ss o9 b b11 b12 b13 b14 none/\Ows XA (Dw P n m F) o9 Ds/\Ds.map (·.1)=(List.range i).map (λj=>(ss[j]?).getD ("":Str))/\Ds.length=i) (y9 0 k) 0 (VQ ns P n m F o7 ss [] b none none none none none) (λi y as hy hI=>by
   obtain⟨o9,Ds,b11,b12,b13,b14,rfl,hO,hN,hK⟩:=hI;obtain⟨rfl,hi⟩:=xU hy;rw[zyX]at hN hK ⊢;rw[Int.zero_add];obtain⟨x,_,wx⟩:=Vs ns (k:=4+i) (by omega);have t1:zr true 12 qu (VQ ns P n m F o7 ss o9 b (sI i) b12 b13 b14 none)=some (.nx<|VQ ns P n m F o7 ss o9 b (sI i) (sI x) b13 b14 none):=by
    have w:=zM (zM (za (as:=VQ ns P n m F o7 ss o9 b (sI i) b12 b13 b14 none) (i:=1) (x:=.int 0) (s:=true) rfl)<|zb (x:=.int 4))<|za (i:=11) (x:=.int i) (s:=true) rfl;exact zF (i:=12) (wx _ _ rfl w)<|zh rfl
   have t2:zr false 13 (zZ dN) (VQ ns P n m F o7 ss o9 b (sI i) (sI x) b13 b14 none)=some (.nx<|VQ ns P n m F o7 ss o9 b (sI i) (sI x) (sN []) b14 none):=vR (i:=13) (Ys yu<|WY rfl)<|zh rfl;obtain⟨e,he⟩:=Ig (n:=m) (g:=gN 14) (f:=k_) (S:=λos e=>VQ ns P n m F o7 ss o9 b (sI i) (sI x) (sN os) e none) (it:=λc:Nat=>(true,D.int<|0+(c:Int))) (v:=λc=>vP<|Fc P F n x c) (w:=λc=>sI c) (q0F m6) (λc hc os e hl=>by
    rw[Int.zero_add];exact⟨rfl,Qn (os:=os) (i:=13) rfl (Kx (h:=λa:Nat=>dX P x c<|Gk F a) (it:=λa:Nat=>(true,ze<|sp P<|Gk F a)) (List.range n) (YN<|WD.e<|za (i:=6) rfl) (by rw[zyU];exact q0n n8) λa ma=>⟨[sT<|ze<|sp P<|Gk F a,sT<|Xf P,sI x,sI c],rfl,mD h.p.k l2 (Eg hc) m6⟩) rfl<|slt<|(q1m hl)⟩) b14
   have t3:yL (yt (aC zL aN) yV) (gN 14) k_ (VQ ns P n m F o7 ss o9 b (sI i) (sI x) (sN []) b14 none)=some (.nx<|VQ ns P n m F o7 ss o9 b (sI i) (sI x) (some<|E5<|(List.range m).map<|Fc P F n x) e none):=by
    refine yC (JD (zd (za (i:=4) rfl) zq)<|(q0J m6))<|he.trans ?_;show _=some (Out.nx<|VQ ns P n m F o7 ss o9 b (sI i) (sI x) (sN<|((List.range m).map<|Fc P F n x).map vP) e none);rw[zyB];rfl
   obtain⟨os,o1,o2,o3⟩:=iM (n:=n) (F:=F) (i:=13) (as:=VQ ns P n m F o7 ss o9 b (sI i) (sI x) (some<|E5<|(List.range m).map<|Fc P F n x) e none) hR rfl (λd=>rfl) (by rw[zzB,zyU];exact q0F m6) (λr mr=>by
    obtain⟨c,mc,rfl⟩:=zxB.mp mr;have hc:=List.mem_range.mp mc;refine⟨by unfold Fc;rw[zzB,zyU];exact q0o n8,λy my=>?_⟩;obtain⟨a,ma,rfl⟩:=zxB.mp my;exact D4 h.p.k h.nn h.m1 h.z h.f hc<|List.mem_range.mp ma)
   have wt:WE qe (VQ ns P n m F o7 ss o9 b (sI i) (sI x) (some<|E5<|(List.range m).map<|Fc P F n x) e none) (XA ((ss[i]?).getD ("":Str),t9 P F n m x)):=yR (WD.e<|zV (za (i:=10) (x:=.lst<|ss.map D.str) (s:=true) rfl) (za (i:=11) (x:=.int i) (s:=true) rfl) (Ye<|sg i<|by omega) rfl) ⟨_,o1,o2,congrArg D.lst o3⟩;obtain⟨os',p1,p2⟩:=OO (i:=9) (os:=o9) (l:=Ds) rfl hO (by omega) wt<|AK h.p.k h.nn h.m1 h.z h.f;exact⟨_,rfl,_,zt t1<|zt t2<|zt t3 p2,os',_,_,_,_,_,rfl,p1,by rw[zyM,hN,List.range_succ,zyM];rfl,by rw[zzJ,hK];rfl⟩)
  ⟨[],[],none,none,none,none,rfl,Ows.nil,rfl,rfl⟩
 rw[xg,zyX]at hN hK;have hr:=xO (as:=VQ ns P n m F o7 ss [] b none none none none none) (zd (zM (zb (x:=.int 1))<|zY (w3 _ _ rfl<|zM (za (i:=1) (x:=.int 0) (s:=true) rfl)<|zb (x:=.int 3)) (zb (x:=.int 4))<|by decide) zq) (by omega) (by omega);rw[<-ek,zyI]at hr;exact⟨ss,o9,Ds,b,b11,b12,b13,b14,sl,sn,hO,by omega,by omega,by rw[hK];exact hN,λg d hg=>zc s10<|zc s11<|zc (yC hr hl) hg⟩
end
section
variable{ns F:List Int}{P:PZ}{n m:Nat}
def fz:∀i:Nat,i<8->∃k:Int,0<k/\k<1000/\zv (ze [1,2,4,8,16,32,64,128]) (.int (i:Int))=some (.im<|.int k)
 |0,_=>⟨1,by decide,by decide,rfl⟩
 |1,_=>⟨2,by decide,by decide,rfl⟩
 |2,_=>⟨4,by decide,by decide,rfl⟩
 |3,_=>⟨8,by decide,by decide,rfl⟩
 |4,_=>⟨16,by decide,by decide,rfl⟩
 |5,_=>⟨32,by decide,by decide,rfl⟩
 |6,_=>⟨64,by decide,by decide,rfl⟩
 |7,_=>⟨128,by decide,by decide,rfl⟩
 |i+8,h=>absurd h ⋯
def l8{as:AS}{a b c d e f g h:Int}:WE (zZ<|dC (fC<|.int a)<|dC (fC<|.int b)<|dC (fC<|.int c)<|dC (fC<|.int d)<|dC (fC<|.int e)<|dC (fC<|.int f)<|dC (fC<|.int g)<|dC (fC<|.int h) dN) as (ze [a,b,c,d,e,f,g,h]):=xG ⋯ (WY rfl) rfl rfl
def BJ{as:AS}{fi:IF}{cap:List (Option Nat)}{gg:GF}{tt:TF}{fe:EF}{it:Nat->wG}(l:List Nat)(h1:fi as=some (l.map it,as))(hl:l.length<=1000000)(H:∀q ∈ l,∃as1 t,gg (it q) (ZV cap as)=some as1/\WT tt as1 t/\WE fe as1 (.int q)):∃r:List Int,WE (yb fi cap gg tt fe) as (ze r):=by
 have:∃p:Nat->Bool,∀q ∈ l,∃as1,gg (it q) (ZV cap as)=some as1/\WT tt as1 (p q)/\WE fe as1 (.int q):=by
  refine⟨λq=>((gg (it q)<|ZV cap as).bind tt).elim false (·.1),λq mq=>?_⟩;obtain⟨as1,t,h1,h2,h3⟩:=H q mq;refine⟨as1,h1, ?_,h3⟩;show WT tt as1 (((gg _ _).bind tt).elim false _);rw[h1];show _=some ((tt as1).elim false _,as1);rw[h2];rfl
 obtain⟨p,hp⟩:=this;have w:=HC l h1 hl λq mq=>by
  obtain⟨as1,h1,h2,h3⟩:=hp q mq;exact⟨as1,h1,h2,λ_=>h3⟩
 refine⟨(l.filter p).map λq:Nat=>q, ?_⟩;show WE _ _ (D.lst _)
 rwa [zyB]
def OL{o7 o9:List O}{ss:List Str}{b8 b11 b12 b13 b14:Option O}(h:Hd P n m F)(sl:ss.length=7):∃o15 S c11 c12,Ows UF (λ_=>True) o15 S/\1<=S.length/\S.length<=3/\S.map (·.1)=(List.range S.length).map (λj=>(ss[4+j]?).getD ("":Str))/\∀(g:SF) (d:D),Rt (g<|VQ ns P n m F o7 ss o9 b8 c11 c12 b13 b14<|sN o15) d->Rt (zi pV (zi kZ g)<|VQ ns P n m F o7 ss o9 b8 b11 b12 b13 b14 none) d:=by
 have n8:=h.p.n8;rw[<-h.nn]at n8;obtain⟨x3,_,w3⟩:=Vs ns (k:=8) (by omega);have sg:∀i,i<7->ss[i]? = some ((ss[i]?).getD ("":Str)):=λi hi=>by rw[zzE<|(q1A hi sl)];rfl
 have s13:pV (VQ ns P n m F o7 ss o9 b8 b11 b12 b13 b14 none)=some (.nx<|VQ ns P n m F o7 ss o9 b8 b11 b12 b13 b14<|sN []):=vR (i:=15) (Ys yu<|WY rfl)<|zh rfl;have q0:=zyN x3 (show(3:Int)≠0 by decide);obtain⟨k,ek⟩:∃k:Nat,(k:Int)=1+x3%3:=⟨(1+x3%3).toNat,by omega⟩;obtain⟨as',hl,o15,S,c11,c12,rfl,hO,hN,hK⟩:=xa (g:=gN 11) (f:=jY)
  (λi as=>∃(o15:List O) (S:SS) (b11 b12:Option O),as=VQ ns P n m F o7 ss o9 b8 b11 b12 b13 b14 (sN o15)/\Ows UF (λ_=>True) o15 S/\S.map (·.1)=(List.range i).map (λj=>(ss[4+j]?).getD ("":Str))/\S.length=i) (y9 0 k) 0 (VQ ns P n m F o7 ss o9 b8 b11 b12 b13 b14<|sN []) (λi y as hy hI=>by
   obtain⟨o15,S,b11,b12,rfl,hO,hN,hK⟩:=hI;obtain⟨rfl,hi⟩:=xU hy;rw[zyX]at hN hK ⊢;rw[Int.zero_add];obtain⟨x,_,wx⟩:=Vs ns (k:=9+i) (by omega);have t1:zr true 12 oM (VQ ns P n m F o7 ss o9 b8 (sI i) b12 b13 b14<|sN o15)=some (.nx<|VQ ns P n m F o7 ss o9 b8 (sI i) (sI<|x/7) b13 b14<|sN o15):=by
    have w:=zM (zM (za (as:=VQ ns P n m F o7 ss o9 b8 (sI i) b12 b13 b14<|sN o15) (i:=1) (x:=.int 0) (s:=true) rfl)<|zb (x:=.int 9))<|za (i:=11) (x:=.int i) (s:=true) rfl;exact zF (i:=12) (xJ (wx _ _ rfl w) (zb (x:=.int 7)) (by decide)<|zD (by decide)<|by decide)<|zh rfl
   obtain⟨r,wr⟩:=BJ (as:=VQ ns P n m F o7 ss o9 b8 (sI i) (sI<|x/7) b13 b14<|sN o15) (cap:=[none,some 12]) (gg:=gN 0) (tt:=nY) (fe:=fV 0) (List.range n) (JD (zd (za (i:=3) rfl) zq)<|(q0n n8)) (by rw[zyU];omega) λq mq=>by
    have hq:=List.mem_range.mp mq;rw[Int.zero_add];obtain⟨z,z0,z1,ez⟩:=fz q (by omega);exact⟨[sI q,sI<|x/7],_,rfl,eqT (zY (xJ (za (i:=1) rfl) (BP l8 (WD.e<|za (i:=0) (x:=.int q) rfl) ez) z0<|zD (by omega)<|by omega) zb<|by decide) zb rfl,WD.e<|za (i:=0) rfl⟩
   have wn:WD (f2 (fV 10) (f2 Zw Pm zo) zv) (VQ ns P n m F o7 ss o9 b8 (sI i) (sI<|x/7) b13 b14<|sN o15) true (.str<|(ss[4+i]?).getD ("":Str)):=by
    have w:=zM (zb (x:=.int 4))<|za (as:=VQ ns P n m F o7 ss o9 b8 (sI i) (sI<|x/7) b13 b14<|sN o15) (i:=11) (x:=.int i) (s:=true) rfl;exact zV (za (i:=10) (x:=.lst<|ss.map D.str) (s:=true) rfl) w (Ye<|sg (4+i)<|by omega) rfl
   obtain⟨os',p1,p2⟩:=OO (i:=15) (os:=o15) (l:=S) (x:=((ss[4+i]?).getD ("":Str),r)) rfl hO (by omega) (yR (WD.e wn) wr) True.intro;exact⟨_,rfl,_,zt t1 p2,os',_,_,_,rfl,p1,by rw[zyM,hN,List.range_succ,zyM];rfl,by rw[zzJ,hK];rfl⟩)
  ⟨[],[],b11,b12,rfl,Ows.nil,rfl,rfl⟩
 rw[xg,zyX]at hN hK;have hr:=xO (as:=VQ ns P n m F o7 ss o9 b8 b11 b12 b13 b14<|sN []) (zd (zM (zb (x:=.int 1))<|zY (w3 _ _ rfl<|zM (za (i:=1) (x:=.int 0) (s:=true) rfl)<|zb (x:=.int 8)) (zb (x:=.int 3))<|by decide) zq) (by omega) (by omega);rw[<-ek,zyI]at hr;exact⟨o15,S,c11,c12,hO,by omega,by omega,by rw[hK];exact hN,λg d hg=>zc s13<|zc (yC hr hl) hg⟩
def Ic{ss:List Str}(nd:ss.Nodup){i j:Nat}(hi:i<ss.length)(hj:j<ss.length)(e:ss[i]=ss[j]):i=j:=by
 have p:=List.pairwise_iff_getElem.mp nd
 rcases Nat.lt_trichotomy i j with h|h|h
 . exact absurd e<|p i j hi hj h
 . exact h
 . exact absurd e.symm<|p j i hj hi h
def KZ{ss:List Str}{k a:Nat}(nd:ss.Nodup)(hk:a+k<=ss.length):((List.range k).map λj=>(ss[a+j]?).getD ("":Str)).Nodup:=by
 refine List.pairwise_map.mpr<|(List.nodup_range).imp_of_mem λ{i j} mi mj hne he=>hne ?_;have hi:=List.mem_range.mp mi;have hj:=List.mem_range.mp mj;rw[zzE ⋯,zzE ⋯]at he;have:=Ic nd ⋯ ⋯ he;omega
structure Cx.Gd(c:Cx):Prop where
 ok:c.Ok
 sl:c.S.length<=4
 sn:(c.S.map (·.1)).Nodup
 dd:1<=c.Ds.length
def Fo(ns:List Int):∃c:Cx,c.Gd/\RE (Yt [(true,ze ns),(true,.int 0)]) c.g:=by
 obtain⟨P,n,m,F,h,g1⟩:=JL ns;obtain⟨o7,b,j1,j2,g2⟩:=Jv (ns:=ns) h;obtain⟨ss,o9,Ds,b8,b11,b12,b13,b14,sl,sn,hD,d1,d4,dn,g3⟩:=HD (ns:=ns) (o7:=o7) (b:=b) h;obtain⟨o15,S,c11,c12,hS,s1,s3,sm,g4⟩:=OL (ns:=ns) (o7:=o7) (o9:=o9) (b8:=b8) (b11:=b11) (b12:=b12) (b13:=b13) (b14:=b14) h sl;obtain⟨tJ,lJ,qJ⟩:=Bo h.p.k h.nn h.f;have hR:=(wq h.f).1;have e0:=(rZ h.p.k).ce;rw[<-h.nn]at e0;have n8:=h.p.n8;have n1:=EK h.p.k;rw[<-h.nn]at n8 n1;let Z:=VQ ns P n m F o7 ss o9 b8 c11 c12 b13 b14<|sN o15;have s15:lV Z=some (.nx<|A7 ns P n m F [sN o7,b8,sN o9,sT<|.lst<|ss.map D.str,c11,c12,b13,b14,sN o15,sI<|Zn F<|eX P]):=by
  have w:=ue (as:=Z) h.p rfl λp=>by
   have w:=yw (as:=[sI p.1,sI p.2]) (g:=PH) (zd (UE (c:=p.1==3) (za (i:=0) (x:=.int p.1) (s:=true) rfl) (zb (x:=.int 3)) rfl) zq) rfl rfl
   rwa [show(if(p.1==3)=true then(1:Int)else 0)=eK p.1 by unfold eK;by_cases h:p.1=3<;>simp[h]]at w
  rw[ig]at w;exact zF (i:=16) (zV (za (i:=5) (x:=ze F) (s:=true) rfl) w (rowAt hR e0).1 rfl)<|zh rfl
 have wr:pL (A7 ns P n m F [sN o7,b8,sN o9,sT<|.lst<|ss.map D.str,c11,c12,b13,b14,sN o15,sI<|Zn F<|eX P])=some (_,_):=
  Z1 (za (i:=3) rfl) ⋯
 have hfin:=FY wr<|WY rfl;have hf7:(O.nd .ls o7).frz = .lf true (x_<|Lq P F n):=by
  show O.lf (O.strs o7) (.lst<|O.toDs o7)=_;rw[j1,j2]
 rw[hf7,hD.frz,hS.frz]at hfin;have rt:=Nz hfin rfl;have nd1:(Ds.map (·.1)).Nodup:=by
  rw[dn];have:=KZ (k:=Ds.length) (a:=0) sn (by omega);simp only[zyX]at this;exact this
 have nd2:(S.map (·.1)).Nodup:=by
  rw[sm];exact KZ sn (by omega)
 exact⟨⟨n,m,Lq P F n,Zn F<|eX P,Ds,S⟩,⟨⟨⟨n1,n8,h.m1,h.m6,tJ,(rowAt hR e0).2.1,(rowAt hR e0).2.2,by show Ds.length<=6;omega,λp mp=>(hD.al p mp).1,nd1⟩,⟨lJ,λp mp=>(hD.al p mp).2⟩⟩,by show S.length<=4;omega,nd2,d1⟩,zN rfl<|g1 _ _<|g2 _ _<|g3 _ _<|g4 _ _<|zc s15 ⟨_,rt,rfl,rfl⟩⟩
end
abbrev ff:SF:=(zr true 1 jV)
abbrev iu:SF:=nQ
abbrev j9:SF:=(zr true 3<|f2 zB zz zo)
abbrev iS:SF:=(zr true 4<|f2 zL zz zo)
abbrev jZ:SF:=oZ
abbrev gH:SF:=pJ
abbrev gh:SF:=oB
abbrev gC:SF:=(zr false 11<|zZ dN)
abbrev gJ:SF:=(yL (yt O2 yV) (gN 12) kx)
abbrev jA:SF:=(zr false 14<|zZ dN)
abbrev jv:SF:=(yL (yt (aC xm aN) yV) (gN 12) kr)
def JW{ds:List Int}{a n:Nat}(h:a+n<=ds.length):YF (ze ds) (some (a:Int)) (some ((a+n:Nat):Int))=some (.fl<|((ds.drop a).take n).map D.int):=by
 show some _=_
 congr 2
 unfold PF.cutD;rw[HT.Yn,HT.Yn,zzB,Nat.min_eq_left h,Nat.min_eq_left ⋯,<-List.map_drop,<-List.map_take,Nat.add_sub_cancel_left]
def AV{ds:List Int}{a n N:Nat}(h:a+n<=ds.length)(hd:∀x ∈ ds,zT N x)(e:n=N):Row N ((ds.drop a).take n):=by
 refine⟨by rw[zzS,List.length_drop];omega,λx m=>hd x<|List.mem_of_mem_drop<|List.mem_of_mem_take m⟩
def l_{f fl fh:EF}{as:AS}{ds:List Int}{a n:Nat}{lo hi:Int}(h:a+n<=ds.length)(hf:WD f as true (ze ds))(h1:WD fl as true (.int lo))(h2:WD fh as true (.int hi))(e1:lo=(a:Int))(e2:hi=((a+n:Nat):Int)):WE (Yk f (oS fl) (oS fh) YF) as (ze<|(ds.drop a).take n):=by
 subst e1 e2;exact LV ⋯ (H0 h1) (H0 h2) (JW h)
def Bw{xs:List D}{k:Int}(h : -(2 ^ 63)<=k/\k<2 ^ 63/\xs.length*k.toNat<=sizeLine):Yj .Mult (.lst xs) (.int k)=some (.fl (List.replicate k.toNat xs).flatten):=if_pos h
def HJ{as:AS}{a b:EF}{x:Int}{k:Nat}(ha:WD a as true (.int x))(hb:WD b as true (.int (k:Int)))(hk:k<=900):WE (f2 (zZ<|dC a dN) b zR) as (ze<|List.replicate k x):=by
 refine Fg (xG (zH ha yu) (WY rfl) rfl rfl) (WD.e hb) ?_;show Yj .Mult (.lst [D.int x]) _=_;rw[Bw ⟨⋯,⋯,BR (by show 1*k<=_;omega)⟩,zyI,List.flatten_replicate_singleton,List.map_replicate]
abbrev gL:EF:=Yk zk (oS<|f2 zA zm zR) (oS<|f2 (f2 zA zm zR) zA zo) YF
def D1{as:AS}{j n k:Nat}{cap:List (Option Nat)}{ds:List Int}(n8:n<=8)(k8:k<=8)(hc:∀b:Int,gN 0 (true,.int b) (ZV cap as)=some [sI b,sT<|ze ds,sI n])(hr:as[j]? = some (sI k))(hl:ds.length=n*k)(hd:∀x ∈ ds,zT n x):∃T:TZ,Tab k n T/\WE (yb (yt (aC (fV j) aN) yV) cap x5 yP gL) as (x_ T):=by
 obtain⟨T,t1,t2,t3⟩:=uN ze (zd (za hr) zq) ⋯ λb b0 b1=>by
  have ha:n*b.toNat+n<=n*k:=by rw[<-Nat.mul_succ];exact Nat.mul_le_mul_left n ⋯
  have eb:b.toNat=b:=⋯;have w:WD (f2 zA zm zR) [sI b,sT<|ze ds,sI n] true _:=xq ⋯ ⋯ (zD ⋯ (by omega)) (zD ⋯ ⋯);refine⟨[sI b,sT _,sI n],_,hc b,l_ (a:=n*b.toNat) ⋯ (za (i:=1) rfl) w (zM w<|za (i:=2) rfl) (by rw[zzV,eb]) (by rw[Int.natCast_add,zzV,eb]),AV ⋯ hd rfl⟩
 exact⟨T,⟨t1,t2⟩,t3⟩
def Cq{ns:List Int}:∃r:List Int,r.length<=12/\YF (ze ns) none (some 12)=some (.fl<|r.map D.int):=by
 refine⟨ns.take<|min 12 ns.length,by rw[zzS];omega, ?_⟩;show some (R0.fl<|PF.cutD _ none<|some ((12:Nat):Int))=_
 congr 2
 unfold PF.cutD;rw[HT.Yn,HT.Qr,zzB,List.drop_zero,Nat.sub_zero,<-List.map_take]
def So{f:EF}{as:AS}{r:List Int}(h:WE f as (ze r)):WD (fP (aC f aN) y4) as true (.int r.length):=by
 have:=L5 (g:=y4) h rfl
 rwa [zzB]at this
def Iv{ns:List Int}{as:AS}(h:as[0]? = some (sT<|ze ns)):∃cs:List Int,cs.length=12/\WE jV as (ze cs):=by
 obtain⟨r,hr,e⟩:=Cq;have ws:WE (Yk zm oN _ YF) as _:=Ut (za h) rfl ⋯ e;have w1:=Uk<|Kx (cap:=[none]) (gg:=gN 0) r (YN ws) ⋯ λx _=>⟨_,rfl,za (i:=0) rfl⟩;rw[List.map_id']at w1;have w2:WD nr as true (.int ((12-r.length:Nat):Int)):=by
  have:=Zb (zb (x:=.int 12))<|So ws
  rwa [show 12-_=((12-r.length:Nat):Int) by omega]at this
 refine⟨r++List.replicate (12-r.length) 0,by rw[zzJ,List.length_replicate];omega, ?_⟩;refine Fg w1 (HJ zb w2 ⋯) ?_;rw[zyM];exact if_pos (by rw[zzB,zzB,List.length_replicate];exact BR ⋯)
section
variable{ns cs:List Int}{o z:Int}{n m k s:Nat}
abbrev B8(ns cs:List Int)(o:Int)(n m k s:Nat)(z:Int)(l:AS):AS:=sT (ze ns)::sT (ze cs)::sI o::sI n::sI m::sI k::sI s::sI z::l
abbrev NI(ns cs:List Int)(o:Int)(n m k s:Nat)(z:Int)(ss:List Str)(b9:Option O)(J:TZ)(o11:List O)(b12 b13 b14 b15:Option O):AS:=B8 ns cs o n m k s z [sT<|.lst<|ss.map D.str,b9,sT<|x_ J,sN o11,b12,b13,b14,b15]
structure Bd(cs:List Int)(n m k s:Nat):Prop where
 c:cs.length=12
 n1:1<=n
 n8:n<=8
 m1:1<=m
 m6:m<=6
 k6:k<=6
 s4:s<=4
def m9(ns:List Int):∃cs o n m k s z ss b9 J,Bd cs n m k s/\ss.length=10/\ss.Nodup/\Tab n n J/\0<=z/\∀(g:SF) (d:D),Rt (g<|NI ns cs o n m k s z ss b9 J [] none none none none) d->Rt (zi ff (zi iu<|zi j9<|zi iS<|zi jZ<|zi gH<|zi gh<|zi gC g) [sT<|ze ns,none,none,none,none,none,none,none,none,none,none,none,none,none,none,none]) d:=by
 obtain⟨cs,hc,wc⟩:=Iv (ns:=ns) (as:=[sT<|ze ns,none,none,none,none,none,none,none,none,none,none,none,none,none,none,none]) rfl;have s1:=yU (p:=1) wc<|zh rfl;obtain⟨c,w0⟩:=Zt (as:=[sT<|ze ns,sT<|ze cs,none,none,none,none,none,none,none,none,none,none,none,none,none,none]) (za (i:=1) rfl) (zb (x:=.int 0)) (by omega) (by omega);have wd:WE og _ (ze [c%2,c/2%8,c/2/8%6,c/2/8/6%7,c/2/8/6/7%5,c/2/8/6/7/5%8]):=EH (sz:=[2,8,6,7,5,8]) (by decide) (by decide) (WD.e w0)<|xG (os:=[VM 2,VM 8,VM 6,VM 7,VM 5,VM 8]) (zH zb<|zH zb<|zH zb<|zH zb<|zH zb<|zH zb yu) (WY rfl) rfl rfl;have bd:∀(x y:Int),0<y->∃r:Nat,(r:Int)=x%y/\(r:Int)<y:=λx y hy=>by
  have:=zyN x (show y≠0 by omega);have:=zyH x hy;exact⟨(x%y).toNat,by omega,by omega⟩
 obtain⟨n',en,n8⟩:=bd (c/2) 8 (by decide);obtain⟨m',em,m8⟩:=bd (c/2/8) 6 (by decide);obtain⟨k,ek,k8⟩:=bd (c/2/8/6) 7 (by decide);obtain⟨s,es,s8⟩:=bd (c/2/8/6/7) 5 (by decide);obtain⟨z,ez,z8⟩:=bd (c/2/8/6/7/5) 8 (by decide);rw[<-en,<-em,<-ek,<-es,<-ez]at wd;generalize c%2=o at wd;have s2:iu [sT<|ze ns,sT<|ze cs,none,none,none,none,none,none,none,none,none,none,none,none,none,none]=some (.nx _):=Fx wd rfl;have s3:j9 [sT<|ze ns,sT<|ze cs,sI o,sI n',sI m',sI k,sI s,sI z,none,none,none,none,none,none,none,none]=some (.nx _):=zF (i:=3) (zM (za (i:=3) (x:=.int n') (s:=true) rfl)<|zb (x:=.int 1))<|zh rfl;have s4:iS [sT<|ze ns,sT<|ze cs,sI o,sI ((n'+1:Nat):Int),sI m',sI k,sI s,sI z,none,none,none,none,none,none,none,none]=some (.nx<|B8 ns cs o (n'+1) (m'+1) k s z [none,none,none,none,none,none,none,none]):=zF (i:=4) (zM (za (i:=4) (x:=.int m') (s:=true) rfl)<|zb (x:=.int 1))<|zh rfl;have n9:n'+1<=8:=by omega
 have nn:(n'+1)*(n'+1)<=64:=Nat.mul_le_mul n9 n9;obtain⟨x,_,wx⟩:=Vs ns (k:=12) (by omega);obtain⟨ss,sl,sn,rs⟩:=N2 x (mn:=10) (by omega);have s5:jZ (B8 ns cs o (n'+1) (m'+1) k s z [none,none,none,none,none,none,none,none])=some (.nx<|B8 ns cs o (n'+1) (m'+1) k s z [sT<|.lst<|ss.map D.str,none,none,none,none,none,none,none]):=yU (p:=8) (yQ (WD.e<|wx _ _ rfl<|zb (x:=.int 12)) (WD.e<|zb (x:=.int 10)) rs)<|zh rfl;obtain⟨c1,w1⟩:=Zt (as:=B8 ns cs o (n'+1) (m'+1) k s z [sT<|.lst<|ss.map D.str,none,none,none,none,none,none,none]) (za (i:=1) rfl) (zb (x:=.int 1)) (by omega) (by omega);have wm:=xq (za (as:=B8 ns cs o (n'+1) (m'+1) k s z [sT<|.lst<|ss.map D.str,none,none,none,none,none,none,none]) (i:=3) (x:=.int ((n'+1:Nat):Int)) (s:=true) rfl) (za (i:=3) (x:=.int ((n'+1:Nat):Int)) (s:=true) rfl) (zD (by omega)<|by omega) (zD (by omega)<|by omega);rw[<-zzV]at wm;have s6:=yU (p:=9) (EH (λy my=>by rw[List.eq_of_mem_replicate my];omega) (by rw[List.length_replicate];omega) (WD.e w1)<|HJ (za (i:=3) rfl) wm<|by omega)<|zh rfl;obtain⟨J,tJ,wJ⟩:=D1 (as:=B8 ns cs o (n'+1) (m'+1) k s z [sT<|.lst<|ss.map D.str,sT<|ze<|dg c1<|List.replicate ((n'+1)*(n'+1)) ((n'+1:Nat):Int),none,none,none,none,none,none]) (j:=3) (n:=n'+1) (k:=n'+1) (cap:=[none,some 9,some 3]) n9 n9 (λb=>rfl) rfl (by rw[PC,List.length_replicate])<|Be (by omega) _ _;have s7:=yU (p:=10) wJ<|zh rfl;exact⟨cs,o,n'+1,m'+1,k,s,z,ss,_,J,⟨hc,by omega,n9,by omega,by omega,by omega,by omega⟩,sl,sn,tJ,by omega,λg d h=>zc s1<|zc s2<|zc s3<|zc s4<|zc s5<|zc s6<|zc s7<|zc (vR (i:=11) (Ys yu<|WY rfl)<|zh rfl) h⟩
end
section
variable{ns cs:List Int}{o z:Int}{n m k s:Nat}{ss:List Str}{b9:Option O}{J:TZ}
def u9(h:Bd cs n m k s)(sl:ss.length=10):∃o11 Ds b12 b13,Ows XA (λp=>Tab m n p.2) o11 Ds/\Ds.length=k/\Ds.map (·.1)=(List.range k).map (λj=>(ss[j]?).getD ("":Str))/\gJ (NI ns cs o n m k s z ss b9 J [] none none none none)=some (.nx<|NI ns cs o n m k s z ss b9 J o11 b12 b13 none none):=by
 have n1:=h.n1;have n8:=h.n8;have m6:=h.m6;have k6:=h.k6;have hc:=h.c;have nm:=Nat.mul_le_mul n8 m6;have sg:∀i,i<10->ss[i]? = some ((ss[i]?).getD ("":Str)):=λi hi=>by rw[zzE<|by omega];rfl
 obtain⟨as',hl,o11,Ds,b12,b13,rfl,hO,hN,hK⟩:=xa (g:=gN 12) (f:=kx)
  (λi as=>∃(o11:List O) (Ds:DD) (b12 b13:Option O),as=NI ns cs o n m k s z ss b9 J o11 b12 b13 none none/\Ows XA (λp=>Tab m n p.2) o11 Ds/\Ds.map (·.1)=(List.range i).map (λj=>(ss[j]?).getD ("":Str))/\Ds.length=i) (y9 0 k) 0 _ (λi y as hy hI=>by
   obtain⟨o11,Ds,b12,b13,rfl,hO,hN,hK⟩:=hI;obtain⟨rfl,hi⟩:=xU hy;rw[zyX]at hN hK ⊢;rw[Int.zero_add];obtain⟨c,wc⟩:=Zt (as:=NI ns cs o n m k s z ss b9 J o11 (sI i) b13 none none) (za (i:=1) rfl) (zM (zb (x:=.int 2))<|za (i:=12) (x:=.int i) (s:=true) rfl) (by omega) (by omega);have wm:=xq (za (as:=NI ns cs o n m k s z ss b9 J o11 (sI i) b13 none none) (i:=3) (x:=.int n) (s:=true) rfl) (za (i:=4) (x:=.int m) (s:=true) rfl) (zD (q0U n1 n8)<|(q1a n1 n8)) (zD (by omega)<|by omega);have t1:=yU (p:=13) (EH (λy my=>by rw[List.eq_of_mem_replicate my];omega) (by rw[List.length_replicate];exact q1x nm) (WD.e wc)<|HJ (za (i:=3) (x:=.int n) (s:=true) rfl) wm<|(q1x nm))<|zh rfl;obtain⟨T,tT,wT⟩:=D1 (as:=NI ns cs o n m k s z ss b9 J o11 (sI i) (sT<|ze<|dg c _) none none) (j:=4) (n:=n) (k:=m) (cap:=[none,some 13,some 3]) n8 (by omega) (λb=>rfl) rfl (by rw[PC,List.length_replicate])<|Be n1 _ _;obtain⟨os',p1,p2⟩:=OO (i:=11) (os:=o11) (l:=Ds) (x:=((ss[i]?).getD ("":Str),T)) rfl hO (by omega) (yR (WD.e<|zV (za (i:=8) (s:=true) rfl) ⋯ (Ye<|sg i<|by omega) rfl) wT) tT;exact⟨_,rfl,_,zt t1 p2,os',_,_,_,rfl,p1,by rw[zyM,hN,List.range_succ,zyM];rfl,by rw[zzJ,hK];rfl⟩)
  ⟨[],[],none,none,rfl,Ows.nil,rfl,rfl⟩
 rw[xg,zyX]at hN hK;have hr:=xO (as:=NI ns cs o n m k s z ss b9 J [] none none none none) (zd (za (i:=5) (x:=.int k) (s:=true) rfl) zq) (by omega) (by omega);exact⟨o11,Ds,b12,b13,hO,hK,hN,yC hr hl⟩
def rE{o11:List O}{b12 b13:Option O}(h:Bd cs n m k s)(sl:ss.length=10):∃o14 S b12' b15,Ows UF (λ_=>True) o14 S/\S.length=s/\S.map (·.1)=(List.range s).map (λj=>(ss[9-j]?).getD ("":Str))/\jv (NI ns cs o n m k s z ss b9 J o11 b12 b13 (sN []) none)=some (.nx<|NI ns cs o n m k s z ss b9 J o11 b12' b13 (sN o14) b15):=by
 have n1:=h.n1;have n8:=h.n8;have s4:=h.s4;have hc:=h.c;have sg:∀i,i<10->ss[i]? = some ((ss[i]?).getD ("":Str)):=λi hi=>by rw[zzE<|by omega];rfl
 obtain⟨as',hl,o14,S,b12',b15,rfl,hO,hN,hK⟩:=xa (g:=gN 12) (f:=kr)
  (λi as=>∃(o14:List O) (S:SS) (b12 b15:Option O),as=NI ns cs o n m k s z ss b9 J o11 b12 b13 (sN o14) b15/\Ows UF (λ_=>True) o14 S/\S.map (·.1)=(List.range i).map (λj=>(ss[9-j]?).getD ("":Str))/\S.length=i) (y9 0 s) 0 _ (λi y as hy hI=>by
   obtain⟨o14,S,b12,b15,rfl,hO,hN,hK⟩:=hI;obtain⟨rfl,hi⟩:=xU hy;rw[zyX]at hN hK ⊢;rw[Int.zero_add];obtain⟨c,wc⟩:=Zt (as:=NI ns cs o n m k s z ss b9 J o11 (sI i) b13 (sN o14) b15) (za (i:=1) rfl) (zM (zb (x:=.int 8))<|za (i:=12) (x:=.int i) (s:=true) rfl) (by omega) (by omega);have t1:=yU (p:=15) (EH (λy my=>by rw[List.eq_of_mem_replicate my];omega) (by rw[List.length_replicate];omega) (WD.e wc)<|HJ (zb (x:=.int 2)) (za (i:=3) (x:=.int n) (s:=true) rfl)<|by omega)<|zh rfl;obtain⟨r,wr⟩:=BJ (as:=NI ns cs o n m k s z ss b9 J o11 (sI i) b13 (sN o14)<|sT<|ze<|dg c<|List.replicate n 2) (cap:=[none,some 15]) (gg:=gN 0) (tt:=(fT<|f2 (f2 zk zm zv) zz<|zw .Eq)) (fe:=fV 0) (List.range n) (JD (zd (za (i:=3) rfl) zq)<|(q0E n1 n8)) (by rw[zyU];omega) λq mq=>by
    have hq:=List.mem_range.mp mq;rw[Int.zero_add];obtain⟨v,wv⟩:=Zt (as:=[sI q,sT<|ze<|dg c<|List.replicate n 2]) (za (i:=1) rfl) (za (i:=0) (x:=.int q) rfl) (q0a) (by rw[PC,List.length_replicate];exact q0e hq);exact⟨_,_,rfl,eqT wv zb rfl,WD.e<|za (i:=0) rfl⟩
   have wn:WD (f2 (fV 8) (f2 (fC<|.int 9) (fV 12) xx) zv) (NI ns cs o n m k s z ss b9 J o11 (sI i) b13 (sN o14)<|sT<|ze<|dg c<|List.replicate n 2) true (.str<|(ss[9-i]?).getD ("":Str)):=by
    have w:=Zb (as:=NI ns cs o n m k s z ss b9 J o11 (sI i) b13 (sN o14)<|sT<|ze<|dg c<|List.replicate n 2) (zb (x:=.int 9))<|za (i:=12) (x:=.int i) (s:=true) rfl;rw[show(9:Int)-i=((9-i:Nat):Int) by omega]at w;exact zV (za (i:=8) (s:=true) rfl) w (Ye<|sg (9-i)<|by omega) rfl
   obtain⟨os',p1,p2⟩:=OO (i:=14) (os:=o14) (l:=S) (x:=((ss[9-i]?).getD ("":Str),r)) rfl hO (by omega) (yR (WD.e wn) wr) True.intro;exact⟨_,rfl,_,zt t1 p2,os',_,_,_,rfl,p1,by rw[zyM,hN,List.range_succ,zyM];rfl,by rw[zzJ,hK];rfl⟩)
  ⟨[],[],b12,none,rfl,Ows.nil,rfl,rfl⟩
 rw[xg,zyX]at hN hK;have hr:=xO (as:=NI ns cs o n m k s z ss b9 J o11 b12 b13 (sN []) none) (zd (za (i:=6) (x:=.int s) (s:=true) rfl) zq) (by omega) (by omega);exact⟨o14,S,b12',b15,hO,hK,hN,yC hr hl⟩
def JZ{ss:List Str}{k a:Nat}(nd:ss.Nodup)(ha:a<ss.length)(hk:k<=a):((List.range k).map λj=>(ss[a-j]?).getD ("":Str)).Nodup:=by
 refine List.pairwise_map.mpr<|(List.nodup_range).imp_of_mem λ{i j} mi mj hne he=>hne ?_;have hi:=List.mem_range.mp mi;have hj:=List.mem_range.mp mj;rw[zzE ⋯,zzE ⋯]at he;have:=Ic nd ⋯ ⋯ he;omega
def Nq(ns:List Int):∃c:Cx,Alg c.n c.m c.J c.e c.Ds/\c.S.length<=4/\(c.S.map (·.1)).Nodup/\RE (w6 [(true,ze ns)]) c.g:=by
 obtain⟨cs,o,n,m,k,s,z,ss,b9,J,h,sl,sn,tJ,z0,g1⟩:=m9 ns;obtain⟨o11,Ds,b12,b13,hD,dl,dn,e9⟩:=u9 (ns:=ns) (o:=o) (z:=z) (b9:=b9) (J:=J) h sl;obtain⟨o14,S,c12,b15,hS,slen,sm,e11⟩:=rE (ns:=ns) (o:=o) (z:=z) (b9:=b9) (J:=J) h sl;have n1:=h.n1;have k6:=h.k6;have s4:=h.s4;have e10:jA (NI ns cs o n m k s z ss b9 J o11 b12 b13 none none)=some _:=vR (i:=14) (Ys yu<|WY rfl)<|zh rfl;have hz:=Wn (x:=z) h.n1;have wr:qW (NI ns cs o n m k s z ss b9 J o11 c12 b13 (sN o14) b15)=some (_,_):=
  Z1 (za (i:=3) rfl) (Z1 (za (i:=4) rfl)<|Z1 (za (i:=10) rfl)<|Z1 (zY (za (i:=7) rfl) (za (i:=3) rfl)<|(q0D n1))<|Hv (j:=11) rfl<|Hv (j:=14) (ps:=o14) rfl rfl)
 have hfin:=FY wr<|WY rfl;rw[hD.frz,hS.frz]at hfin;have rt:=Nz hfin rfl;have nd1:(Ds.map (·.1)).Nodup:=by
  rw[dn];have:=KZ (k:=k) (a:=0) sn (by omega);simp only[zyX]at this;exact this
 have nd2:(S.map (·.1)).Nodup:=by
  rw[sm];exact JZ sn (by omega) (by omega)
 exact⟨⟨n,m,J,z%n,Ds,S⟩,⟨h.n1,h.n8,h.m1,h.m6,tJ,hz.1,hz.2,by show Ds.length<=6;omega,hD.al,nd1⟩,by show S.length<=4;omega,nd2,zN rfl<|g1 _ _<|zc e9<|zc e10<|zc e11 ⟨_,rt,rfl,rfl⟩⟩
end
theorem Ih(k:Nat):∀r s:List Int,DV (YG<|k+1) (r.map D.int) (s.map D.int)=some (r==s)
 | [],[]=>rfl
 | [],_::_=>rfl
 |_::_,[]=>rfl
 |a::r,b::s=>by
  show(some _).bind _=_;rw[Ih k r s];rfl
def Cr(r s:List Int):YG 60 (ze r) (ze s)=some (r==s):=Ih 58 r s
def HG:∀xs:List D,YG 60 (.lst xs) (.lst [])=some xs.isEmpty
 | []=>rfl
 |_::_=>rfl
def Rf(r:Option Out)(I:AS->Prop):Prop:=(∃as,r=some (.nx as)/\I as)\/r=some (.rt<|.lf true<|.bl false)
theorem Rf.loop{g:GF}{f:SF}(I:Nat->AS->Prop):∀(xs:List wG) (k:Nat) (as:AS),(∀i x as,xs[i]? = some x->I (k+i) as->∃as1,g x as=some as1/\Rf (f as1) (I<|k+i+1))->I k as->Rf (forL g f xs as) (I<|k+xs.length)
 | [],k,as,_,h=>.inl ⟨as,rfl,h⟩
 |x::xs,k,as,H,h=>by
  obtain⟨as1,h1,h2⟩:=H 0 x as rfl h
  rcases h2 with⟨as2,h2,h3⟩|h2
  . have:=Rf.loop I xs _ as2 (λi y as hy hI=>by
     have:=H _ y as hy (by rwa [show k+(i+1)=k+1+i from q0c])
     rwa [show k+_+1=k+1+i+1 by omega]at this) h3
    rw[show k+1+xs.length=k+(x::xs).length by rw[zzT];exact q0k]at this;have e:forL g f (x::xs) as=forL g f xs as2:=by
     show(g x as).bind _=_;rw[h1];show(f as1).bind _=_;rw[h2];rfl
    rwa [e]
  . right;show(g x as).bind _=_;rw[h1];show(f as1).bind _=_;rw[h2];rfl
def Rf.seq{f g:SF}{as as1:AS}{I:AS->Prop}(h:f as=some (.nx as1))(k:Rf (g as1) I):Rf (zi f g as) I:=by
 rcases k with⟨a,b,c⟩|k
 . exact .inl ⟨a,zt h b,c⟩
 . exact .inr<|zt h k
def Rf.no{c:TF}{as:AS}{I:AS->Prop}{t:Bool}(h:WT c as t)(k:t=false->I as):Rf (xl c (zx<|fC<|.bl false) xj as) I:=by
 cases t with
 |false=>exact .inl ⟨as,zp h rfl,k rfl⟩
 |true=>exact .inr (yY h rfl)
def Rf.bind{f g:SF}{as:AS}{I K:AS->Prop}(h:Rf (f as) I)(k:∀as1,I as1->Rf (g as1) K):Rf (zi f g as) K:=by
 rcases h with⟨a,b,c⟩|h
 . exact(k a c).seq b
 . exact .inr<|Zs h
def kN{a b:EF}{as:AS}{x y:Int}{s t:Bool}(ha:WD a as s (.int x))(hb:WD b as t (.int y)):WT (fT<|f2 a b<|zw .NotEq) as (!(x==y)):=xi (Dt ha hb rfl) rfl
def sS{x y:Int}(h:(!(x==y))=false):x=y:=by
 rw[Bool.not_eq_false']at h;exact beq_iff_eq.mp h
section
variable{n m:Nat}{J T:TZ}{a b:Int}
abbrev D9(m:Nat)(J T:TZ)(a b:Int)(l:AS):AS:=sI m::sT (x_ J)::sT (x_ T)::sI a::sI b::l
abbrev Ie(m:Nat)(J T:TZ)(a b i k:Int):Prop:=yZ T ((i+k)%m) (yZ J a b)=yZ J (yZ T i a) (yZ T k b)
def Ap(hJ:Tab n n J)(hT:Tab m n T)(m1:1<=m)(m6:m<=6)(ha:zT n a)(hb:zT n b):∃t,RE (Vv [(true,.int m),(true,x_ J),(true,x_ T),(true,.int a),(true,.int b)]) (.bl t)/\(t=true->∀i k,zT m i->zT m k->Ie m J T a b i k):=by
 have hr:=λl=>by
  have:=xO (as:=D9 m J T a b l) (zd (za (i:=0) (s:=true) rfl) zq) (by omega) (by omega)
  rwa [zyI]at this
 have key:=Rf.loop (g:=gN 5) (λi as=>∃x y z w,as=D9 m J T a b [x,y,z,w]/\∀i':Nat,i'<i->∀k,zT m k->Ie m J T a b i' k) (y9 0 m) 0 (D9 m J T a b [none,none,none,none]) (λi y as hy hI=>by
  obtain⟨x,y,z,w,rfl,hI⟩:=hI;obtain⟨rfl,hi⟩:=xU hy;rw[zyX]at hI ⊢;rw[Int.zero_add];refine⟨D9 m J T a b [sI i,y,z,w],rfl, ?_⟩;have inn:=Rf.loop (g:=gN 6) (f:=lH) (λk as=>∃y z w,as=D9 m J T a b [sI i,y,z,w]/\∀k':Nat,k'<k->Ie m J T a b i k') (y9 0 m) 0 (D9 m J T a b [sI i,y,z,w]) (λk y as hy hK=>by
   obtain⟨y,z,w,rfl,hK⟩:=hK;obtain⟨rfl,hk⟩:=xU hy;rw[zyX]at hK ⊢;rw[Int.zero_add];refine⟨D9 m J T a b [sI i,sI k,z,w],rfl, ?_⟩;have w1:=(WB (as:=D9 m J T a b [sI i,sI k,z,w]) hT (Wn (x:=(i:Int)+k)<|by omega) (Q3 hJ ha hb) (za (i:=2) rfl) (zY ⋯ ⋯ (by omega))<|vC hJ ha hb (za (i:=1) rfl) (za (i:=3) rfl)<|za (i:=4) rfl).1;have z1:=WB (as:=D9 m J T a b [sI i,sI k,sI<|yZ T (((i:Int)+k)%m)<|yZ J a b,w]) hT (Eg hi) ha (za (i:=2) rfl) (za (i:=5) rfl)<|za (i:=3) rfl;have z2:=WB (as:=D9 m J T a b [sI i,sI k,sI<|yZ T (((i:Int)+k)%m)<|yZ J a b,w]) hT (Eg hk) hb (za (i:=2) rfl) (za (i:=6) rfl)<|za (i:=4) rfl;refine(Rf.no ⋯ λh=>⟨_,_,_,rfl,λk' hk'=>?_⟩).seq (zF (i:=8) (vC hJ z1.2 z2.2 (za (i:=1) rfl) z1.1 z2.1)<|zh rfl) |>.seq (zF (i:=7) w1<|zh rfl)
   rcases Nat.lt_or_eq_of_le (Nat.le_of_lt_succ hk')with h1|rfl
   . exact hK k' h1
   . exact sS h) ⟨_,_,_,rfl,λk' hk'=>absurd hk'<|Nat.not_lt_zero _⟩
  rw[xg,zyX]at inn;have fin:∀{r},forL (gN 6) lH (y9 0 m) _=r->(yL (yt vN yV) (gN 6) lH) (D9 m J T a b [sI i,y,z,w])=r:=λh=>yC (hr _) h
  rcases inn with⟨as2,h1,y',z',w',rfl,h2⟩|h1
  . refine .inl ⟨_,fin h1,_,_,_,_,rfl,λi' hi' k hk=>?_⟩
    rcases Nat.lt_or_eq_of_le (Nat.le_of_lt_succ hi')with h3|rfl
    . exact hI i' h3 k hk
    . have:=h2 k.toNat<|⋯
      rwa [show((k.toNat:Nat):Int)=k by have:=hk.1;omega]at this
  . exact .inr<|fin h1) ⟨_,_,_,_,rfl,λk' hk'=>absurd hk'<|Nat.not_lt_zero _⟩
 rw[xg,zyX]at key
 rcases key with⟨as2,h1,x',y',z',w',rfl,h2⟩|h1
 . refine⟨true,zN rfl<|zc (yC (hr _) h1)<|zE<|WD.e zb,λ_ i k hi hk=>?_⟩;have:=h2 i.toNat (⋯) k hk
   rwa [show((i.toNat:Nat):Int)=i by have:=hi.1;omega]at this
 . exact⟨false,zN rfl<|yj ⟨_,yC (hr _) h1,rfl,rfl⟩,λh=>nomatch h⟩
end
def uL{a b c d e:EF}{as:AS}{x y z u v o:D}{g:List (Bool×D)->Option O}(ha:WE a as x)(hb:WE b as y)(hc:WE c as z)(hd:WE d as u)(he:WE e as v)(hg:RE (g [(true,x),(true,y),(true,z),(true,u),(true,v)]) o):WE (zg (aC a<|aC b<|aC c<|aC d<|aC e aN) g) as o:=by
 obtain⟨r,h1,h2,rfl⟩:=hg;exact⟨r,Zr (y8 ha<|y8 hb<|y8 hc<|y8 hd<|y8 he zq) (by simp;exact h1),h2,rfl⟩
def jU{a b:EF}{as:AS}{x y:Int}(ha:WD a as true (.int x))(hb:WD b as true (.int y))(h0:0<y)(h1:y<1000):WD (fP (aC a<|aC b aN) J5) as true (.tup [.int<|x/y,.int<|x%y]):=
 Mn (zd ha<|zd hb zq) (by show(if 0<y/\y<1073741824 then _ else _)=_;rw[if_pos ⟨h0,⋯⟩]) rfl
def JH{n:Nat}{r:List Int}{v:Int}{f:Int->Int}(hl:r.length=n)(hv:zT n v):Zn (r.map f) v=f (Zn r v):=by
 unfold Zn;rw[zzI,zzE ⋯];rfl
abbrev G7(c:Cx)(l:AS):AS:=sT c.g::sI c.n::sI c.m::sT (x_ c.J)::sI c.e::sT (.lst<|c.Ds.map XA)::sT (.lst<|c.S.map UF)::l
structure pFac(c:Cx)(a b:Int):Prop where
 u:yZ c.J c.e a=a
 v:yZ c.J a c.e=a
 s:∀v,zT c.n v->yZ c.J (yZ c.J a b) v=yZ c.J a (yZ c.J b v)
 d:∀q ∈ c.Ds,∀i k,zT c.m i->zT c.m k->Ie c.m c.J q.2 a b i k
section
variable{c:Cx}
def Jc(A:Alg c.n c.m c.J c.e c.Ds){p:Nat}(hp:p<c.n*c.n){x8 x9 x10 x11:Option O}:Rf (jR<|G7 c [sI p,x8,x9,x10,x11,none]) (λas=>(∃x7 x8 x9 x10 x11,as=G7 c [x7,x8,x9,x10,x11,none])/\pFac c ((p:Int)/c.n) ((p:Int)%c.n)):=by
 have n1:=A.n1;have n8:=A.n8;have hb:zT c.n ((p:Int)%c.n):=Wn n1;have ha:zT c.n ((p:Int)/c.n):=⟨Int.ediv_nonneg (q0a) (by omega),by
  have:=Nat.div_lt_of_lt_mul<|Nat.mul_comm .. ▸ hp;omega⟩
 have he:zT c.n c.e:=⟨A.e0,A.en⟩;have s1:mh (G7 c [sI p,x8,x9,x10,x11,none])=some _:=Fx (WD.e<|jU (za (i:=7) rfl) (za (i:=1) rfl) (by omega)<|by omega) rfl;generalize (p:Int)/c.n=a,(p:Int)%c.n=b at ha hb s1 ⊢;have hab:=Q3 A.j ha hb;have wJ:∀l,WD zB (G7 c l) true (x_ c.J):=λl=>za (i:=3) rfl;refine Rf.seq s1<|Rf.bind (I:=λas=>as=G7 c [sI p,sI a,sI b,x10,x11,none]/\yZ c.J c.e a=a/\yZ c.J a c.e=a) (Rf.no (t:=!(yZ c.J c.e a==a) || !(yZ c.J a c.e==a)) (Bs (kN (vC A.j he ha (wJ _) (za (i:=4) rfl)<|za (i:=8) rfl)<|za (i:=8) rfl) (λh=>by rw[h,Bool.false_or];exact kN (vC A.j ha he (wJ _) (za (i:=8) rfl)<|za (i:=4) rfl)<|za (i:=8) rfl) λh=>by rw[h];rfl) λh=>by
  rw[Bool.or_eq_false_iff]at h;exact⟨rfl,sS h.1,sS h.2⟩) ?_
 rintro _ ⟨rfl,u1,u2⟩
 obtain⟨i1,r1⟩:=Zi A.j hab;obtain⟨i2,r2⟩:=Zi A.j hb;refine Rf.bind (I:=λas=>as=G7 c [sI p,sI a,sI b,x10,x11,none]/\∀v,zT c.n v->yZ c.J (yZ c.J a b) v=yZ c.J a (yZ c.J b v)) (Rf.no (xi (Em (WD.e<|vZ (wJ _) (vC A.j ha hb (wJ _) (za (i:=8) rfl)<|za (i:=9) rfl) i1) (Uk<|Kx (gg:=gN 0) (Up c.J b) (YN<|WD.e<|vZ (wJ _) (za (i:=9) rfl) i2) (by rw[r2.1];exact q0E n1 n8) λv mv=>⟨[sI v,sT<|x_ c.J,sI a],rfl,vC A.j ha (r2.2 v mv) (za (i:=1) rfl) (za (i:=2) rfl)<|za (i:=0) rfl⟩)<|Cr _ _) rfl) λh=>⟨rfl,λv hv=>?_⟩) ?_
 . rw[Bool.not_eq_false']at h;have e:=beq_iff_eq.mp h;show Zn (Up c.J<|yZ c.J a b) v=yZ c.J a (Zn (Up c.J b) v);rw[e,JH r2.1 hv]
 rintro _ ⟨rfl,u3⟩
 have key:=Rf.loop (g:=(gT 2<|y6 (gN 10)<|y6 (gN 11) Xn)) (f:=qd) (λi as=>∃y z,as=G7 c [sI p,sI a,sI b,y,z,none]/\∀j q,j<i->c.Ds[j]? = some q->∀i k,zT c.m i->zT c.m k->Ie c.m c.J q.2 a b i k) ((c.Ds.map XA).map λd=>(true,d)) 0 (G7 c [sI p,sI a,sI b,x10,x11,none]) (λi y as hy hI=>by
  obtain⟨y,z,rfl,hI⟩:=hI;rw[zyB,zzI]at hy;obtain⟨q,hq,rfl⟩:=zzX.mp hy;rw[zyX]at hI ⊢;refine⟨G7 c _,rfl, ?_⟩;obtain⟨t,w,ht⟩:=Ap A.j (A.ds q<|zyA hq) A.m1 A.m6 ha hb;refine Rf.no (t:=!t) (X6<|tK<|uL (WD.e<|za (i:=2) rfl) (WD.e<|wJ _) (WD.e<|za (i:=11) rfl) (WD.e<|za (i:=8) rfl) (WD.e<|za (i:=9) rfl) w) λh=>⟨_,_,rfl,λj r hj hr=>?_⟩
  rcases Nat.lt_or_eq_of_le (Nat.le_of_lt_succ hj)with h1|rfl
  . exact hI j r h1 hr
  . rw[hq]at hr;cases hr;exact ht<|(Bool.not_eq_false' ..).mp h) ⟨_,_,rfl,λj _ hj=>absurd hj<|Nat.not_lt_zero _⟩
 rw[zyX,zzB,zzB]at key
 rcases key with⟨as2,h1,y,z,rfl,h2⟩|h1
 . refine .inl ⟨_,yC (F9<|za (i:=5) rfl) h1,⟨_,_,_,_,_,rfl⟩,u1,u2,u3,λq mq=>?_⟩;obtain⟨j,hj,e⟩:=List.getElem_of_mem mq;exact h2 j q hj (by rw[zzE hj,e])
 . exact .inr<|yC (F9<|za (i:=5) rfl) h1
end
section
variable{c:Cx}
def IR(A:Alg c.n c.m c.J c.e c.Ds):∃t,RE (YE [(true,c.g)]) (.bl t)/\(t=true->LawA c.n c.m c.J c.e c.Ds/\1<=c.Ds.length):=by
 have n1:=A.n1;have n8:=A.n8;have nn:=Nat.mul_le_mul n8 n8;have s1:AJ [sT c.g,none,none,none,none,none,none,none,none,none,none,none,none]=some (.nx<|G7 c [none,none,none,none,none,none]):=Fx (WD.e<|za (i:=0) rfl) rfl;have wm:=xq (za (as:=G7 c [none,none,none,none,none,none]) (i:=1) (x:=.int c.n) (s:=true) rfl) (za (i:=1) (x:=.int c.n) (s:=true) rfl) (zD (q0U n1 n8)<|(q1a n1 n8)) (zD (q0U n1 n8)<|(q1a n1 n8));rw[<-zzV]at wm;have hr:=xO (zd wm zq) (by omega) (by omega);have key:=Rf.loop (g:=gN 7) (f:=jR) (λi as=>(∃x7 x8 x9 x10 x11,as=G7 c [x7,x8,x9,x10,x11,none])/\∀p:Nat,p<i->pFac c ((p:Int)/c.n) ((p:Int)%c.n)) (y9 0<|c.n*c.n) 0 (G7 c [none,none,none,none,none,none]) (λi y as hy hI=>by
  obtain⟨⟨x7,x8,x9,x10,x11,rfl⟩,hI⟩:=hI;obtain⟨rfl,hi⟩:=xU hy;rw[zyX]at hI ⊢;rw[Int.zero_add];refine⟨_,rfl, ?_⟩
  rcases Jc A hi (x8:=x8) (x9:=x9) (x10:=x10) (x11:=x11)with⟨as,h1,h2,h3⟩|h1
  . refine .inl ⟨as,h1,h2,λp hp=>?_⟩
    rcases Nat.lt_or_eq_of_le (Nat.le_of_lt_succ hp)with h4|rfl
    . exact hI p h4
    . exact h3
  . exact .inr h1) ⟨⟨_,_,_,_,_,rfl⟩,λj hj=>absurd hj<|Nat.not_lt_zero _⟩
 rw[xg,zyX]at key
 rcases key with⟨as2,h1,⟨x7,x8,x9,x10,x11,rfl⟩,h2⟩|h1
 . have pf:∀a b,zT c.n a->zT c.n b->pFac c a b:=λa b ha hb=>by
    have:=ha.1;have:=ha.2;have:=hb.1;have:=hb.2;have e1:(b.toNat+c.n*a.toNat)/c.n=a.toNat:=by rw[Nat.add_mul_div_left _ _ n1,Nat.div_eq_of_lt (by omega),zyX]
    have e2:(b.toNat+c.n*a.toNat)%c.n=b.toNat:=by rw[Nat.add_mul_mod_self_left,Nat.mod_eq_of_lt<|by omega]
    have:=h2 (b.toNat+c.n*a.toNat) (by
     have:c.n*a.toNat+c.n<=c.n*c.n:=by rw[<-Nat.mul_succ];exact Nat.mul_le_mul_left _ (by omega)
     omega)
    rwa [<-Int.natCast_ediv,<-Int.natCast_emod,e1,e2,zyY (by omega),zyY<|by omega]at this
   have he:zT c.n c.e:=⟨A.e0,A.en⟩;have z0:zT c.m 0:=⟨by omega,by have:=A.m1;exact q0D this⟩;have wf:=HC (as:=G7 c [x7,x8,x9,x10,x11,none]) (cap:=[none,none,some 4]) (gg:=gT 2<|y6 x5<|y6 (gN 1) Xn) (fe:=fV 0) c.Ds (YN (f:=fV 5)<|WD.e<|za (i:=5) rfl) (by have:=A.dl;omega) λq mq=>⟨[sT<|.str q.1,sT<|x_ q.2,sI c.e],rfl,kN (WB (A.ds q mq) z0 he (za (i:=1) rfl) zb<|za (i:=2) rfl).1<|za (i:=2) rfl,λ_=>WD.e<|za (i:=0) rfl⟩;have s3:=yU (p:=12) wf<|zh rfl;have wn:∀{as:AS},WE (zZ dN) as (.lst []):=λ{as}=>VG Wh rfl;generalize hF:(c.Ds.filter λq:Str×TZ=>!(yZ q.2 0 c.e==c.e))=fl at s3;refine⟨(fl.map λq:Str×TZ=>D.str q.1).isEmpty&&(!(c.Ds.map XA).isEmpty && !(c.S.map UF).isEmpty),zN rfl (zc s1<|zc (yC hr h1)<|zc s3<|zE<|WD.e<|Tt (uR (WD.e<|za (i:=12) rfl) wn<|HG _) (λh=>by rw[h,Bool.true_and];exact Tt (Em (WD.e<|za (i:=5) rfl) wn<|HG _) (λh=>by rw[h,Bool.true_and];exact Em (WD.e<|za (i:=6) rfl) wn<|HG _) λh=>by rw[h];rfl) λh=>by rw[h];rfl),λht=>?_⟩;have hE:fl=[]:=by
    rw[zyC,List.isEmpty_iff,List.map_eq_nil_iff]at ht;exact ht.1
   have hE2:1<=c.Ds.length:=by
    rw[zyC,zyC]at ht;have h:=ht.2.1;cases z:c.Ds with
    |nil=>rw[z]at h;exact nomatch h
    |cons a b=>exact Nat.succ_le_succ (Nat.zero_le _)
   refine⟨?_,hE2⟩;refine⟨⟨λa b ha hb=>Q3 A.j ha hb,he,λa ha=>(pf a a ha ha).u,λa ha=>(pf a a ha ha).v,λa b v ha hb hv=>(pf a b ha hb).s v hv⟩,λq mq=>⟨λk a hk ha=>(rowAt (Zi (A.ds q mq) hk).2 ha).2, ?_,λa i b k ha hi hb hk=>(pf a b ha hb).d q mq i k hi hk⟩⟩
   by_cases hx:yZ q.2 0 c.e=c.e
   . exact hx
   . have:q ∈ fl:=hF ▸ List.mem_filter.mpr ⟨mq,by rw[beq_eq_false_iff_ne.mpr hx];rfl⟩;rw[hE]at this;exact absurd this List.not_mem_nil
 . exact⟨false,zN rfl<|zc s1<|yj ⟨_,yC hr h1,rfl,rfl⟩,λh=>nomatch h⟩
end
def rn(ns:List Int):∃c:Cx,c.Gd/\RE (WW [(true,ze ns)]) c.g:=by
 obtain⟨c0,g0,r0⟩:=Fo ns;have e0:∀l,Rt (zx _ ⋯) c0.g:=λl=>zE<|yQ ⋯ (WD.e zb) r0;obtain⟨t,ht⟩:∃t,WT nV [sT<|ze ns,none] t:=by
  have wl:WT (fT<|f2 (fP vN y4) zP<|zw .Gt) [sT<|ze ns,none] (decide _):=xi (zV (So<|WD.e<|za rfl) zb rfl rfl) rfl
  by_cases h:(0:Int)<ns.length
  . obtain⟨v,wv⟩:=Zt (as:=[sT<|ze ns,none]) ⋯ (zb (x:=.int 0)) (by omega) (by omega);exact⟨_,Ca wl (λ_=>eqT (zY wv zb<|by decide) zb rfl) (λz=>by rw[zyO h]at z;exact nomatch z)⟩
  . exact⟨false,Ca wl (λz=>by rw[zyG h]at z;exact nomatch z) λ_=>rfl⟩
 cases t with
 |false=>exact⟨c0,g0,zN rfl<|zc (zp ht rfl)<|e0 _⟩
 |true=>
  obtain⟨c,A,s4,sn,rc⟩:=Nq ns;obtain⟨t,rg,hg⟩:=IR A;have s1:zr true 1 (zg vN w6) [sT<|ze ns,none]=some _:=yU (xF (WD.e<|za rfl) rc)<|zh rfl;have w:=tK<|xF (WD.e<|za (as:=[sT<|ze ns,sT c.g]) (i:=1) rfl) rg;cases t with
  |true=>exact⟨c,⟨⟨A,(hg rfl).1⟩,s4,sn,(hg rfl).2⟩,zN rfl<|yj<|yH ht<|zc s1<|yH w<|zE<|WD.e<|za rfl⟩
  |false=>exact⟨c0,g0,zN rfl<|zc (yY ht<|zt s1<|zp w rfl)<|e0 _⟩
def u4{fr:DF}{as:AS}{xs:List D}(h:WL fr as xs)(hl:Nat.ble xs.length 1000=true):WE (yd fr) as (.tup xs):=by
 obtain⟨os,h1,h2,h3⟩:=h;have e:os.length=xs.length:=by rw[<-h3,Yq]
 exact Dq h1 (by rw[e];exact WY hl) h2<|congrArg D.tup h3
def CN{α:Type}{fi:IF}{cap:List (Option Nat)}{gg:GF}{fe:EF}{as:AS}{it:α->wG}{h:α->D}(l:List α)(h1:fi as=some (l.map it,as))(hl:l.length<=1000)(H:∀q ∈ l,∃as1,gg (it q) (ZV cap as)=some as1/\WE fe as1 (h q)):WE (yb fi cap gg yP fe) as (.lst<|l.map h):=by
 obtain⟨os,o1,o2,o3⟩:=O6 l h1 hl H;exact⟨_,o1,o2,congrArg D.lst o3⟩
def ml{as:AS}{i k n:Nat}{T:TZ}(k9:k<=900)(hT:Tab k n T)(h:as[i]? = some (sT<|x_ T)):WE (yb (wR<|fV i) [none] x5 yP<|fP vN lstP) as (x_ T):=
 CN T (YN ⋯) (by rw[hT.1];exact q0b k9) λr _=>⟨[sT _],rfl,Ed ⋯⟩
def Jx{c:Cx}(h:c.Gd):RE (Y8 [(true,c.g)]) c.g:=by
 have A:=h.ok.A;have n8:=A.n8;have m6:=A.m6;have dl:=A.dl;have s4:=h.sl;have s1:AJ [sT c.g,none,none,none,none,none,none]=some (.nx<|G7 c []):=Fx (WD.e<|za rfl) rfl;have s2:mH (G7 c [])=some (.nx<|G7 c []):=yU (CN c.Ds (YN<|WD.e<|za rfl) (q0J dl) λq mq=>⟨_,rfl,yR (WD.e<|za rfl)<|ml (q0F m6) (A.ds q mq) rfl⟩)<|zh rfl;exact zN rfl<|zc s1<|zc s2<|zE<|u4 (yg (WD.e<|za rfl)<|yg (WD.e<|za rfl)<|yg (ml (q0o n8) A.j rfl)<|yg (WD.e<|za rfl)<|yg (WD.e<|za rfl)<|yg (CN c.S (YN<|WD.e<|za rfl) (by omega) λq mq=>⟨[sT<|.str q.1,sT<|ze q.2],rfl,yR (WD.e<|za rfl)<|Ed<|za rfl⟩) Wh) rfl
def S3{v w:Int}:ZJ [(true,.int v),(true,.int w)]=sT (.bl<|v==w):=rfl
def BC{a b c:EF}{as:AS}{i j k:Int}{s t u:Bool}(ha:WD a as s (.int i))(hb:WD b as t (.int j))(hc:WD c as u (.int k))(h1:i<=j)(h2:j<=k):WD (LW a b c (zw .LtE)<|zw .LtE) as true (.bl true):=by
 unfold WD at *;unfold LW;rw[ha];simp;rw[hb];simp only[RV.frz,O.frz,RV.view,O.toD,O.str,zyL,zw,B9,Dv,BE,h1,h2,hc];rfl
def Uu{x k:Int}(h0:0<=x)(h1:x<=k):vH [(true,.int x),(true,.int 0),(true,.int k)]=sT (.bl true):=
 xX rfl (xW<|Tt (k:=true) ⋯ (λ_=>BC ⋯ ⋯ ⋯ h0 h1) ⋯)
def JQ{x:Int}{n:Nat}(n1:1<=n)(n8:n<=8):∃r:List Int,r.length<=59/\(∀v ∈ r,zT n v)/\RE (Q4 [(true,.int x),(true,.int n),(true,.int 11)]) (ze r):=by
 have q0:=zyN x (show(12:Int)≠0 by decide);have r0:=zyN (x/512) (show(40:Int)≠0 by decide);have s1:zr true 3 (f2 zm (f2 zA zz zo) zJ) [sI x,sI n,sI 11,none]=some (.nx [sI x,sI n,sI 11,sI<|x%12]):=zF (i:=3) ⋯ (zh rfl);obtain⟨k,k9,s2⟩:∃k:Nat,k<=59/\qK [sI x,sI n,sI 11,sI<|x%12]=some (.nx [sI x,sI n,sI 11,sI k]):=by
  have wt:WT o4 [sI x,sI n,sI 11,sI<|x%12] (x/64%8==1):=eqT ⋯ zb rfl;cases hc:x/64%8==1 with
  |true=>
   rw[hc]at wt;obtain⟨k,ek⟩:∃k:Nat,(k:Int)=20+x/512%40:=⟨(20+x/512%40).toNat,by omega⟩;refine⟨k,by omega,yY wt ?_⟩;rw[ek];exact zF (i:=3) ⋯ (zh rfl)
  |false=>
   rw[hc]at wt;refine⟨(x%12).toNat,by omega,zp wt ?_⟩;rw[zyY q0];rfl
 exact⟨_,by rw[PC,List.length_replicate];exact k9,Be n1 k _,zN rfl<|zc s1<|zc s2<|zE<|EH (λy my=>by rw[List.eq_of_mem_replicate my];omega) (by rw[List.length_replicate];exact q1z k9) (WD.e<|xJ (za (i:=0) rfl) zb (by decide)<|zD (by decide)<|by decide)<|HJ (za (i:=1) rfl) (za (i:=3) rfl)<|(q1z k9)⟩
noncomputable abbrev QU:List Str:=["way","trees"]
abbrev yS(c:Cx)(ts:List D):O:=.nd (.ob "Makes" QU) [.lf true c.w,.nd .ls<|ts.map<|O.lf true]
abbrev K1(c:Cx)(ts:List D):D:=.ob "Makes" QU [c.w,.lst ts]
section
variable{c:Cx}{ts:List D}{as:AS}{i:Nat}
theorem FS:∀ts:List D,(ts.map<|O.lf true).all O.isLf=true
 | []=>rfl
 |_::r=>FS r
def RY:Tg (some<|some<|yS c ts)=some (K1 c ts):=by
 show(if true=true/\(ts.map _).all O.isLf=true/\O.strs _=true then some _ else none)=_;rw[if_pos ⟨rfl,FS ts,X0 ts⟩,Qy]
def Ub:(yS c ts).str=true:=by
 show(true&&(O.strs _&&true))=_;rw[X0];rfl
def MJ{m:Str}{tbl:List (Str×Fn)}{g:Fn}{a:EF}{x:D}{o:O}(h:as[i]? = some (some<|yS c ts))(hm:m ∉ QU)(ht:Bl tbl "Makes"=some g)(ha:WE a as x)(hg:g [(true,K1 c ts),(true,x)]=some o)(ho:DQ QU o=true):xB i tbl m (aC a aN) as=some (.ow o,as):=by
 have hr:=y8 ha zq;unfold xB;rw[h,RY];show(if m ∈ QU then none else some "Makes":Option Str).bind _=_;rw[if_neg hm];show(Bl tbl "Makes").bind _=_;rw[ht];rw[hr];show(Tg as[i]?).bind _=_;rw[h,RY];show(g [_,(zC x||true,x)]).bind _=_;rw[zyD,hg];show(if DQ QU o=true then some _ else none)=_;rw[if_pos ho]
def vX{m:Str}{g:List wG->O->Option (D×O)}{fr:AF}{rs:List RV}{xs:List wG}{v:D}{ts':List D}(h:as[i]? = some (some<|yS c ts))(hm:m ∉ QU)(hr:fr as=some (rs,as))(ha:GW i as rs=some xs)(hg:g xs (yS c ts)=some (v,yS c ts')):vK i "Makes" m g fr as=some (.ow<|.lf true v,as.set i<|some<|yS c ts'):=by
 unfold vK;rw[h];show(if m ∈ QU then none else some "Makes":Option Str).bind _=_;rw[if_neg hm,zyL,hr];show(GW i as rs).bind _=_;rw[ha];rw[h];show(g xs _).bind _=_;rw[hg];show(if(yS c ts').str=true then _ else _)=_;rw[if_pos Ub]
def Xs{f:SF}{g:VF}{as1:AS}{x:Option (D×AS)}(h:f as=some (.nx as1))(k:g as1=x):Yl f g as=x:=by
 unfold Yl
 rwa [h]
def Ag:xv "Makes" [(true,c.w)]=some (yS c []):=⋯
def LF{d:D}(hl:ts.length<900):yi [(true,d)] (yS c ts)=some (.int ts.length,yS c<|ts++[d]):=by
 have s1:pM 0 1 wZ "trees" [some<|yS c ts,sT d]=some (.nx [some<|yS c<|ts++[d],sT d]):=by
  show(if("Makes":Str) ∈ wZ/\("trees":Str)="trees"/\("way":Str)≠"trees"/\(ts.map _).length<sizeLine then some (Out.nx _)else none)=_;rw[if_pos ⟨⋯,rfl,⋯,by rw[zzB];exact slt<|(q1m hl)⟩];show _=some (Out.nx [some<|.nd _ _,sT d]);rw[zyM];rfl
 have w:WD (qD 0 wZ "trees") [some<|yS c<|ts++[d],sT d] true (.int ((ts.length+1:Nat):Int)):=by
  show(if("Makes":Str) ∈ wZ/\("trees":Str)="trees"/\("way":Str)≠"trees" then some _ else none)=_;rw[zzB,zzJ];rfl
 have w2:=Zb w<|zb (x:=.int 1);rw[show(_:Int)-1=ts.length by omega]at w2;have hv:ZR _=some _:=Xs s1 (by
  unfold VY;rw[w2];rfl)
 show(ZR [some<|yS c ts,sT d]).bind _=_;rw[hv];show(if(yS c<|ts++[d]).str=true then _ else _)=_;rw[if_pos Ub]
def oY(h:WD (fV i) as true (K1 c ts)):WD (f1 (fV i)<|z_ yB "way") as true c.w:=by
 have:=L0 (n:="way") h (by decide +kernel:_ ∈ yB) rfl
 rwa [zyD]at this
def OV{v:Int}(hv:zT c.n v):RE (ZE [(true,c.w),(true,.int v)]) (.bl true):=by
 have w:WD _ [sT c.w,sI v] true (.int c.n):=⋯;exact zN rfl<|zE<|zX (WD.e ⋯) ⋯ (WD.e ⋯) (RE.of<|Uu hv.1 ⋯)
def Kc{v:Int}(hv:zT c.n v):yO [(true,K1 c ts),(true,.int v)]=sT .non:=by
 have h:wU (Zj 2 [(true,K1 c ts),(true,.int v)])=some _:=zp (X6<|tK<|Mm ⋯ ⋯ rfl (WD.e ⋯) (OV hv)) rfl;unfold yO wz;rw[h];rfl
def P3{k:Nat}{d:D}(hk:ts[k]? = some d):RE (yK [(true,K1 c ts),(true,.int k)]) d:=by
 have kl:=(zzG.mp hk).1;have wl:WD rf [sT<|K1 c ts,sI k] true _:=L5 (WD.e ⋯) rfl;have w:=tK<|zX (WD.e<|za (i:=1) rfl) (WD.e ⋯) (WD.e<|Zb wl<|zb (x:=.int 1))<|RE.of<|Uu ⋯ ⋯;refine zN rfl<|zc (zp (X6 w) rfl)<|zE<|WD.e<|BP (WD.e ⋯) (WD.e ⋯) ?_;have:=Ye (f:=λd:D=>d) hk
 rwa [List.map_id']at this
end
section
variable{c:Cx}{ts:List D}{as:AS}{i:Nat}{r:List Int}
def qh{s:Bool}(h:as[i]? = some (some<|.lf s<|ze r)):Wc (fV i) as=some (r.map λx=>(true,D.int x),as):=by
 rw[Of h];unfold kids;rw[zyB];rfl
def BX{k:Int}(h:k<=300):wK [(true,.int k)]=sT .non:=by
 have h:Xq (Zj 1 [(true,.int k)])=some _:=zp (xi ⋯ (by show some (decide _)=_;rw[zyG ⋯])) rfl;unfold wK wz;rw[h];rfl
def HZ{s:Bool}(h:c.Ok)(hl:r.length<=300)(hv:c.In r)(tl:ts.length<900):∃d,OT c d r/\vV [(s,ze r)] (yS c ts)=some (.int ts.length,yS c<|ts++[d]):=by
 obtain⟨d,⟨o,t1,t2,t3⟩,hd⟩:=HI h (by omega) hv s;have s1:xl (ZP<|fT<|QX zk "list") IE xj [some<|yS c ts,some<|.lf s<|ze r,none]=some (.nx _):=zp ⋯ rfl;obtain⟨as',h2,e,rfl⟩:=xa (g:=gN 2) (f:=zW<|xB 0 xt "check_value" Zk) (λ_ as=>∃e,as=[some<|yS c ts,some<|.lf s<|ze r,e]) (r.map λx=>(true,D.int x)) 0 [some<|yS c ts,some<|.lf s<|ze r,none] (λj x as hx hI=>by
  obtain⟨e,rfl⟩:=hI;rw[zzI]at hx;obtain⟨v,hv',rfl⟩:=zzX.mp hx;refine⟨[some<|yS c ts,some<|.lf s<|ze r,sI v],rfl,[some<|yS c ts,some<|.lf s<|ze r,sI v], ?_,_,rfl⟩;unfold zW;rw[MJ (c:=c) rfl (by decide +kernel) rfl (WD.e<|za (i:=2) rfl) (Kc<|hv v<|zyA hv') rfl];rfl) ⟨_,rfl⟩
 have s2:=yC (qh (i:=1) (r:=r) rfl) h2;have wl:WD (fP xp y4) [some<|yS c ts,some<|.lf s<|ze r,e] true (.int r.length):=by
  have:=yw (as:=[some<|yS c ts,some<|.lf s<|ze r,e]) (g:=y4) (zd (za (i:=1) (s:=s) rfl) zq) rfl rfl
  rwa [zzB]at this
 have s3:zW (zg (aC (fP xp y4) aN) wK) [some<|yS c ts,some<|.lf s<|ze r,e]=some (.nx [some<|yS c ts,some<|.lf s<|ze r,e]):=by
  unfold zW;have:=Od (WD.e wl) (BX<|by omega);rw[this];rfl
 have wy:WD (LN 0 yB "way") [some<|yS c ts,some<|.lf s<|ze r,e] true c.w:=if_pos (c:=("Makes":Str) ∈ yB/\("way":Str)="way") (e:=none) ⟨by decide +kernel,rfl⟩;have wt:=Zr (zd wy<|zd (za (i:=1) (s:=s) rfl) zq) t1;have hk:=vX (i:=0) (c:=c) (m:="keep") rfl (by decide +kernel) (y8 ⟨o,wt,t2,t3⟩ zq) (by
  show some [(zC d||true,d)]=_;rw[zyD])<|LF tl
 refine⟨d,hd, ?_⟩;have hc:ZT _=some _:=Xs s1 (Xs s2<|Xs s3<|by
  unfold VY;rw[hk];rfl)
 show(ZT [some<|yS c ts,some<|.lf s<|ze r,none]).bind _=_;rw[hc];show(if(yS c<|ts++[d]).str=true then _ else _)=_;rw[if_pos Ub]
end
section
variable{n m:Nat}{J:TZ}{e:Int}{Ds:DD}{S:SS}
def EX{p:Str×TZ}(nd:(Ds.map (·.1)).Nodup)(hp:p ∈ Ds):RE (Z7 [(true,GB n m J e Ds S),(true,.str p.1)]) (Zh p.2):=by
 have ww:WD (f1 zm<|z_ YX "waits") [sT<|GB n m J e Ds S,sT<|.str p.1] true _:=uX rfl ⋯ rfl;refine zN rfl<|zE<|N1 (WD.e ww) (WD.e ⋯) ?_;show Oj _=_;rw[Pg hp nd];rfl
def IZ{p:Str×TZ}(nd:(Ds.map (·.1)).Nodup)(hp:p ∈ Ds):RE (Yg [(true,GB n m J e Ds S),(true,.str p.1)]) (.bl true):=by
 have ww:WD (f1 zm<|z_ YX "waits") [sT<|GB n m J e Ds S,sT<|.str p.1] true _:=uX rfl ⋯ rfl;have i1:WD (QX zk "str") [sT<|GB n m J e Ds S,sT<|.str p.1] true (.bl true):=rfl;refine zN rfl<|zE<|WD.e<|Tt i1 (λ_=>zV ⋯ ww ?_ rfl) ⋯;show((some (QW _ _).isSome).bind λb=>some _)=_;rw[Pg hp nd];rfl
end
def oK{f:EF}{as:AS}{k:Int}(h:WD f as true (.int k)):oS f as=some (some k,as):=by
 unfold oS;rw[h];rfl
def gz{as:AS}{a b:D}{i j:Nat}(hi:i<as.length)(hj:j<as.length):gT 2 (y6 (gN i)<|y6 (gN j) Xn) (true,.tup [a,b]) as=some ((as.set i<|sT a).set j<|sT b):=by
 show y6 _ _ (kids true [a,b]) as=_;rw[VA];show(gN i _ as).bind _=_;unfold gN;rw[if_pos hi];show((if j<(as.set i _).length then _ else _:Option AS)).bind _=_;rw[if_pos<|by rwa [zzU]];rfl
def jt{as:AS}{f:EF}{a b:D}{i j:Nat}(h:WE f as (.tup [a,b]))(hi:i<as.length)(hj:j<as.length):X1 f (gT 2<|y6 (gN i)<|y6 (gN j) Xn) as=some (.nx<|(as.set i<|sT a).set j<|sT b):=by
 obtain⟨o,h,h1,h2⟩:=h;exact Ft h (by rw[h1,h2];exact gz hi hj)
def Oo{a b d:EF}{as:AS}{s:Bool}{r:List Int}{i k:Nat}(ha:WD a as s (ze r))(hb:WD b as true (.int i))(hd:WD d as true (.int k))(h1:i<=k)(h2:k<=r.length):WE (Yk a (oS b) (oS d) YF) as (ze<|(r.take k).drop i):=by
 refine Ut ha (oK hb) (oK hd) ?_;show some _=_;unfold PF.cutD;rw[HT.Yn,HT.Yn,zzB,Nat.min_eq_left h2,Nat.min_eq_left<|zzO h1 h2,List.drop_take,<-List.map_drop,<-List.map_take]
section
variable{c:Cx}{x y d:D}{r s R:List Int}{p q:Nat}{ts:List D}{as:AS}
def rL(h:c.Ok){T:TZ}(hT:c.W T)(k:OT c d R):∃d',RE (Zp [(true,c.w),(true,d),(true,Zh T)]) d'/\OT c d' (c.ap (some T) R):=by
 rcases k with⟨rfl,rfl⟩|⟨p,k⟩
 . exact⟨.non,zN rfl<|yj<|yH ⋯ ⋯,.n⟩
 . obtain⟨d',a,b⟩:=Np h hT k;exact⟨d',a,b.o⟩
def Cv(h:c.Ok)(k:OT c d R):∃d',RE (wQ [(true,c.w),(true,d)]) d'/\OT c d' R.reverse:=by
 rcases k with⟨rfl,rfl⟩|⟨p,k⟩
 . exact⟨.non,zN rfl<|yj<|yH ⋯ ⋯,.n⟩
 . obtain⟨d',a,b⟩:=Uj h k;exact⟨d',a,b.o⟩
def TK.one(k:TK c d R 0):R.length=1:=by
 generalize e:0=p at k;cases k with
 |lf=>rfl
 |nd=>omega
theorem K5(h:c.Ok):∀(n:Nat) {d:D}{R:List Int}{p:Nat}(i:Nat),TK c d R p->p<n->R.length<=1000->i<=R.length->∃a b,RE (xC n [(true,c.w),(true,d),(true,.int i)]) (.tup [a,b])/\OT c a (R.take i)/\OT c b (R.drop i)
 |0,_,_,_,_,_,h,_,_=>absurd h (Nat.not_lt_zero _)
 |n+1,d,R,p,i,k,hp,hl,hi=>by
  have v1:∀a b e,WD zk [sT c.w,sT d,sI i,a,b,e] true d:=λ_ _ _=>za (i:=1) rfl;have v2:∀a b e,WD zA [sT c.w,sT d,sI i,a,b,e] true (.int i):=λ_ _ _=>za (i:=2) rfl;have wy:∀a b e,WE zm [sT c.w,sT d,sI i,a,b,e] c.w:=λ_ _ _=>WD.e<|za (i:=0) rfl;have eqN:∀{f g:EF}{as:AS}{a b:Nat},WD f as true (.int a)->WD g as true (.int b)->WT (fT<|f2 f g<|zw .Eq) as (decide (a=b)):=λ{f g as a b} h1 h2=>xi (UE (c:=decide (a=b)) h1 h2 (by
   show some ((a:Int)==b)=_
   by_cases z:a=b
   . subst z;rw[zyO rfl,beq_self_eq_true]
   . rw[zyG z,beq_eq_false_iff_ne.mpr<|by omega])) rfl
  have t1:=eqN (v2 none none none)<|zb (x:=.int (0:Nat));have t2:=eqN (v2 none none none)<|k.size<|v1 none none none
  by_cases e0:i=0
  . rw[zyO e0]at t1;subst e0;exact⟨.non,d,zN rfl<|yj<|yH t1<|zE<|yR (WD.e zb)<|WD.e<|v1 _ _ _,.n,k.o⟩
  rw[zyG e0]at t1
  by_cases e1:i=R.length
  . rw[zyO e1]at t2;refine⟨d,.non,zN rfl<|zc (zp t1 rfl)<|yj<|yH t2<|zE<|yR (WD.e<|v1 _ _ _)<|WD.e zb, ?_, ?_⟩
    . rw[e1,List.take_length];exact k.o
    . rw[e1,List.drop_length];exact .n
  rw[zyG e1]at t2;have p0:p≠0:=λz=>by subst z;have:=k.one;omega
  obtain⟨x,y,r,s,u,v,k0,k1,k2,_,_,rfl,rfl⟩:=Zz h k p0;rw[zzJ]at hl hi e1;have s3:=yU (p:=3) (yQ (wy none none none) (WD.e<|v1 _ _ _) k0)<|zh rfl;have u0:∀b e,WD (f2 zB zP zv) [sT c.w,sT d,sI i,sT<|.tup [x,y],b,e] true x:=λ_ _=>y7 (j:=3) rfl rfl;have u1:∀b e,WD (f2 zB zz zv) [sT c.w,sT d,sI i,sT<|.tup [x,y],b,e] true y:=λ_ _=>y7 (j:=3) rfl rfl;have s4:=zF (i:=4) (st:=true) (k1.size<|u0 none none)<|zh rfl;have v4:∀e,WD zL [sT c.w,sT d,sI i,sT<|.tup [x,y],sI r.length,e] true (.int r.length):=λ_=>za (i:=4) rfl;have t5:=xi (Bb (v2 (sT<|.tup [x,y]) (sI r.length) none)<|v4 none) rfl
  by_cases g:i<r.length
  . rw[zyO<|(q0e g)]at t5;obtain⟨a,b,a1,a2,a3⟩:=K5 h n i k1 (by omega) (q0H hl) (q0h g);obtain⟨f,f1,f2⟩:=MW h a3 k2.o (by rw[List.length_drop];omega) (by omega);have s5:=yU (p:=5) (zX (wy _ _ _) (WD.e<|u0 (sI r.length) none) (WD.e<|v2 _ _ _) a1)<|zh rfl;refine⟨a,f,zN rfl<|zc (zp t1 rfl)<|zc (zp t2 rfl)<|zc s3<|zc s4<|yj<|yH t5<|zc s5<|zE<|yR (WD.e<|y7 (j:=5) rfl rfl)<|zX (wy _ _ _) (WD.e<|y7 (j:=5) rfl rfl) (WD.e<|u1 _ _) f1, ?_, ?_⟩
    . rw[List.take_append_of_le_length<|(q0h g)];exact a2
    . rw[List.drop_append_of_le_length<|(q0h g)];exact f2
  . rw[zyG<|by omega]at t5;obtain⟨a,b,a1,a2,a3⟩:=K5 h n (i-r.length) k2 (by omega) (q1t hl) (by omega);obtain⟨f,f1,f2⟩:=MW h k1.o a2 (q0H hl) (by rw[zzS];omega);have ws:=Zb (v2 (sT<|.tup [x,y]) (sI r.length) none)<|v4 none;rw[show(i:Int)-r.length=((i-r.length:Nat):Int) by omega]at ws;have s5:=yU (p:=5) (zX (wy _ _ _) (WD.e<|u1 _ _) (WD.e ws) a1)<|zh rfl;refine⟨f,b,zN rfl<|zc (zp t1 rfl)<|zc (zp t2 rfl)<|zc s3<|zc s4<|zc (zp t5 rfl)<|zc s5<|zE<|yR (zX (wy _ _ _) (WD.e<|u0 _ _) (WD.e<|y7 (j:=5) rfl rfl) f1)<|WD.e<|y7 (j:=5) rfl rfl, ?_, ?_⟩
    . rw[List.take_append,List.take_of_length_le<|(q0G g)];exact f2
    . rw[List.drop_append,List.drop_of_length_le (q0G g),List.nil_append];exact a3
def Et(h:c.Ok)(k:OT c d R)(i:Nat)(hl:R.length<=1000)(hi:i<=R.length):∃a b,RE (xC 20 [(true,c.w),(true,d),(true,.int i)]) (.tup [a,b])/\OT c a (R.take i)/\OT c b (R.drop i):=by
 rcases k with⟨rfl,rfl⟩|⟨p,k⟩
 . cases Nat.le_zero.mp hi;exact⟨.non,.non,zN rfl<|yj<|yH ⋯ (zE<|yR ⋯ (WD.e ⋯)),.n,.n⟩
 . exact K5 h 20 i k (k.lt hl) hl hi
theorem Hu(k:Nat):∀r:List Int,(r.map D.int).all (nc QU<|k+1)=true
 | []=>rfl
 |_::r=>Hu k r
theorem HN(k:Nat):∀T:TZ,(T.map VJ).all (nc QU<|k+2)=true
 | []=>rfl
 |r::T=>by
  show(((r.map D.int).all _)&&(T.map VJ).all _)=_;rw[Hu,HN k T];rfl
theorem TK.nc(k:TK c d R p):∀j,p+4<=j->nc QU j d=true:=by
 induction k with
 |lf v t _=>
  intro j hj;obtain⟨j,rfl⟩:∃i,j=i+2:=⟨j-2,⋯⟩;rfl
 | @nd w t x y r s p q R a b _ _ hw e i1 i2=>
  intro j hj;obtain⟨j,rfl⟩:∃i,j=i+4:=⟨j-4,⋯⟩;have h1:=i1 (j+3) ⋯;have h2:=i2 (j+3) ⋯;have h3:PF.nc QU (j+3) (JU w)=true:=by
   cases w with
   |none=>rfl
   |some T=>exact HN j T
  show(decide _&&(true&&(true&&(PF.nc QU _ _&&(true&&(PF.nc QU _ x&&(PF.nc QU _ y&&_)))))))=_;rw[h1,h2,h3];rfl
theorem OT.nc(k:OT c d R)(hl:R.length<=1000){j:Nat}(hj:24<=j):nc QU j d=true:=by
 rcases k with⟨rfl,_⟩|⟨p,k⟩
 . obtain⟨j,rfl⟩:∃i,j=i+1:=⟨j-1,⋯⟩;rfl
 . exact k.nc j (by have:=k.lt hl;omega)
def Jp{x a b:Int}(h0:a<=x)(h1:x<=b):vH [(true,.int x),(true,.int a),(true,.int b)]=sT (.bl true):=
 xX rfl (xW<|Tt (k:=true) ⋯ (λ_=>BC ⋯ ⋯ ⋯ h0 h1) ⋯)
def C4{x a b:Int}(h0:a<=x)(h1:x<=b):xo [(true,.int x),(true,.int a),(true,.int b)]=sT .non:=by
 have h:YD (Zj 3 [(true,.int x),(true,.int a),(true,.int b)])=some _:=zp (X6<|tK<|WD.e<|E4 (WD.e ⋯) (WD.e ⋯) (WD.e ⋯)<|Jp h0 h1) rfl;unfold xo wz;rw[h];rfl
def LQ{f g h:EF}{x a b:Int}(wf:WE f as (.int x))(wg:WE g as (.int a))(wh:WE h as (.int b))(h0:a<=x)(h1:x<=b):zW (zg (aC f<|aC g<|aC h aN) xo) as=some (.nx as):=by
 have:=E4 wf wg wh<|C4 h0 h1;unfold zW;rw[this];rfl
def Qc(h:c.Ok){k:Nat}(hk:ts[k]? = some d)(hd:OT c d R)(hl:R.length<=900){i j:Nat}(h1:i<=j)(h2:j<=R.length):∃x y z,yM [(true,K1 c ts),(true,.int k),(true,.int i),(true,.int j)]=sT (.tup [x,y,z])/\OT c x (R.take i)/\OT c y ((R.take j).drop i)/\OT c z (R.drop j):=by
 obtain⟨a,z,a1,a2,a3⟩:=Et h hd j (q0b hl) h2;obtain⟨x,y,b1,b2,b3⟩:=Et h a2 i (by rw[zzS];omega) (by rw[zzS];omega);have wt:WE (Yc y2 "tree_at" zm xp) [sT<|K1 c ts,sI k,sI i,sI j,none,none,none] d:=Mm (za (i:=0) rfl) (by decide +kernel) rfl (WD.e<|za (i:=1) rfl)<|P3 hk;have s4:=yU (p:=4) wt<|zh rfl;have ws:WE (zg (aC zL aN) xu) [sT<|K1 c ts,sI k,sI i,sI j,sT d,none,none] (.int R.length):=xF (WD.e<|za (i:=4) rfl)<|RX hd;have s5:=LQ (WD.e<|za (i:=2) (s:=true) (x:=.int i) rfl) (WD.e<|zb (x:=.int 0)) ws (q0a) (by omega);have s6:=LQ (WD.e<|za (i:=3) (s:=true) (x:=.int j) rfl) (WD.e<|za (i:=2) (s:=true) (x:=.int i) rfl) ws (q0Y h1) (q0Y h2);have s7:=yU (p:=5) (as:=[sT<|K1 c ts,sI k,sI i,sI j,sT d,none,none]) (zX (WD.e<|oY<|za (i:=0) rfl) (WD.e<|za (i:=4) rfl) (WD.e<|za (i:=3) rfl) a1)<|zh rfl;have s8:=yU (p:=6) (as:=[sT<|K1 c ts,sI k,sI i,sI j,sT d,sT<|.tup [a,z],none]) (zX (WD.e<|oY<|za (i:=0) rfl) (WD.e<|y7 (j:=5) (i:=0) rfl rfl) (WD.e<|za (i:=2) rfl) b1)<|zh rfl;rw[List.take_take,Nat.min_eq_left h1]at b2;exact⟨x,y,z,xX rfl<|zt s4<|zt s5<|zt s6<|zt s7<|zt s8<|xW<|Oz (zH (y7 (j:=6) rfl rfl)<|zH (y7 (j:=6) rfl rfl)<|zH (y7 (j:=5) rfl rfl) yu) (WY rfl) rfl,b2,b3,a3⟩
def FB{f:EF}{x:D}(h:WE f as x):WD (Sd f) as true x:=by
 obtain⟨o,h1,h2,h3⟩:=h;unfold WD Sd;rw[h1];show some (RV.ow<|.lf o.str o.toD,as)=_;rw[h2,h3]
def LP(h:c.Ok){u v w:D}{a b e:List Int}(ha:OT c u a)(hb:OT c v b)(he:OT c w e)(hl:a.length+b.length+e.length<=900):∃d,zG [(true,K1 c ts),(true,u),(true,v),(true,w)]=sT d/\OT c d (a++b++e):=by
 obtain⟨d1,p1,p2⟩:=MW h ha hb ⋯ ⋯;obtain⟨d,q1,q2⟩:=MW h p2 he (by rw[zzJ];omega) ⋯;exact⟨d,xX rfl<|xW<|FB<|zX (WD.e ⋯) (zX (WD.e ⋯) (WD.e ⋯) (WD.e ⋯) p1) (WD.e ⋯) q1,q2⟩
end
section
variable{c:Cx}{ts:List D}{as:AS}{i:Nat}{d:D}{R:List Int}{k:Nat}
def XM{m:Str}{tbl:List (Str×Fn)}{g:Fn}{fr:AF}{xs:List (Bool×D)}{o:O}(h:as[i]? = some (some<|yS c ts))(hm:m ∉ QU)(ht:Bl tbl "Makes"=some g)(b:WA fr as xs)(hg:g ((true,K1 c ts)::xs.map λx=>(zC x.2||x.1,x.2))=some o)(ho:DQ QU o=true):xB i tbl m fr as=some (.ow o,as):=by
 unfold xB;rw[h,RY];show(if m ∈ QU then none else some "Makes":Option Str).bind _=_;rw[if_neg hm];show(Bl tbl "Makes").bind _=_;rw[ht];rw[b];show(Tg as[i]?).bind _=_;rw[h,RY];rw[YW];show(g _).bind _=_;rw[hg];show(if DQ QU o=true then some _ else none)=_;rw[if_pos ho]
def OR(h:as[0]? = some (some<|yS c ts)):WD (LN 0 yB "way") as true c.w:=by
 unfold WD LN;rw[h];exact if_pos (c:=("Makes":Str) ∈ yB/\("way":Str)="way") (e:=none) ⟨by decide +kernel,rfl⟩
def Bc{fr:AF}{d:D}(h:as[0]? = some (some<|yS c ts))(hr:WA fr as [(true,d)])(tl:ts.length<900):VY (vK 0 "Makes" "keep" yi fr) as=some (.int ts.length,as.set 0<|some<|yS c<|ts++[d]):=by
 have hk:=vX (m:="keep") h ⋯ hr (by
  show some [(zC d||true,d)]=_;rw[zyD]) (LF tl)
 unfold VY;rw[hk];rfl
def gQ{as1:AS}{a b:EF}{x y:D}(ha:WD a as true x)(hb:b as=some (.ow<|.lf true y,as1)):dC a (dC b dN) as=some ([.lf true x,.lf true y],as1):=by
 show(a as).bind _=_;rw[ha];show((b as).bind _).bind _=_;rw[hb];rfl
def DG{fr:AF}{d:D}(h:as[0]? = some (some<|yS c ts))(hr:WA fr as [(true,d)])(tl:ts.length<900):vK 0 "Makes" "keep" yi fr as=some (.ow<|.lf true<|.int ts.length,as.set 0<|some<|yS c<|ts++[d]):=
 vX h ⋯ hr (by
  show some [(zC d||true,d)]=_;rw[zyD]) (LF tl)
def pE{n m:Nat}{f:VF}{xs:List wG}{ts':List D}{v:D}{l:AS}(hn:xs.length+1=m)(hc:f (wV n (yS c ts::xs.map Ee))=some (v,some (yS c ts')::l)):IG n m f xs (yS c ts)=some (v,yS c ts'):=by
 unfold IG;rw[if_pos hn];rw[hc];show(if(yS c ts').str=true then _ else _)=_;rw[if_pos Ub]
def Vy{k:Nat}{d:D}(hk:ts[k]? = some d):yK [(true,K1 c ts),(true,.int k)]=sT d:=by
 have kl:=(zzG.mp hk).1;have wl:WD rf [sT<|K1 c ts,sI k] true _:=L5 (WD.e ⋯) rfl;have w:=tK<|zX (WD.e<|za (i:=1) rfl) (WD.e ⋯) (WD.e<|Zb wl<|zb (x:=.int 1))<|RE.of<|Uu ⋯ ⋯;refine xX rfl<|zt (zp (X6 w) rfl)<|xW<|BP (WD.e ⋯) (WD.e ⋯) ?_;have:=Ye (f:=λd:D=>d) hk
 rwa [List.map_id']at this
def QI{x y z:D}{a b e:List Int}(ha:OT c x a)(hb:OT c y b)(he:OT c z e)(l1:a.length<=1000)(l2:b.length<=1000)(l3:e.length<=1000):DQ QU (.lf true<|.tup [x,y,z])=true:=by
 show(PF.nc QU 59 x&&(PF.nc QU 59 y&&(PF.nc QU 59 z&&true)))=_;rw[ha.nc l1 ⋯,hb.nc l2 ⋯,he.nc l3 ⋯];rfl
section
variable(h:c.Ok)(hk:ts[k]? = some d)(hd:OT c d R)(hl:R.length<=900){i j:Nat}(h1:i<=j)(h2:j<=R.length)(tl:ts.length<900)
include h hk hd hl h1 h2 tl
def Ir{p:Str×TZ}(hp:p ∈ c.Ds):∃d',OT c d' (R.take i++c.ap (some p.2) ((R.take j).drop i)++R.drop j)/\Za [(true,.int k),(true,.int i),(true,.int j),(true,.str p.1)] (yS c ts)=some (.int ts.length,yS c<|ts++[d']):=by
 obtain⟨x,y,z,t1,ox,oy,oz⟩:=Qc h hk hd hl h1 h2;obtain⟨y',r1,oy'⟩:=rL h ⟨h.A.ds p hp,h.L.ld p hp⟩ oy;have lx:(R.take i).length<=900:=by rw[zzS];exact q0r hl
 have ly:((R.take j).drop i).length<=900:=by rw[List.length_drop,zzS];exact q0q hl h2
 have lz:(R.drop j).length<=900:=by rw[List.length_drop];exact q0B hl h2
 obtain⟨d',g1,od⟩:=LP (ts:=ts) h ox oy' oz (by rw[VO,List.length_drop,zzS,zzS,List.length_drop];exact q0N hl h2 h1);have w1:WD Sj [some<|yS c ts,sI k,sI i,sI j,sT<|.str p.1,none,none] true (.tup [x,y,z]):=XM (c:=c) (ts:=ts) (g:=yM) rfl (by decide +kernel) rfl (zd (za (i:=1) rfl)<|zd (za (i:=2) rfl)<|zd (za (i:=3) rfl) zq) t1 (QI ox oy oz (q0b lx) (q0b ly)<|(q0b lz));have s1:=zF (st:=true) (i:=5) w1<|zh rfl;have wy:∀e,WD (LN 0 yB "way") [some<|yS c ts,sI k,sI i,sI j,sT<|.str p.1,sT<|.tup [x,y,z],e] true c.w:=λe=>OR rfl;have wd:WE (Yc VB "is_deed" (LN 0 yB "way")<|aC zL aN) _ (.bl true):=Mm (wy none) (by decide +kernel) rfl (WD.e<|za (i:=4) rfl)<|IZ h.A.nd hp;have ww:WE (Yc Vx "wait_of" (LN 0 yB "way")<|aC zL aN) _ (Zh p.2):=Mm (wy none) (by decide +kernel) rfl (WD.e<|za (i:=4) rfl)<|EX h.A.nd hp;have s3:=yU (p:=6) (zX (WD.e<|wy none) (WD.e<|y7 (j:=5) (i:=1) rfl rfl) ww r1)<|zh rfl;have w4:WD pe [some<|yS c ts,sI k,sI i,sI j,sT<|.str p.1,sT<|.tup [x,y,z],sT y'] true d':=XM (c:=c) (ts:=ts) (g:=zG) rfl (by decide +kernel) rfl (zd (y7 (j:=5) rfl rfl)<|zd (za (i:=6) rfl)<|zd (y7 (j:=5) rfl rfl) zq) (by
  show zG [_,(zC x||true,x),(zC y'||true,y'),(zC z||true,z)]=_;rw[zyD,zyD,zyD];exact g1) (od.nc (by rw[zzJ,zzJ,VO,List.length_drop,zzS,zzS,List.length_drop];exact q0O hl h2 h1)<|by omega)
 exact⟨d',od,pE (l:=_) rfl<|Xs s1<|Xs (zp (X6 (k:=true)<|tK wd) rfl)<|Xs s3<|Bc rfl (zd w4 zq) tl⟩
def EE:∃d',OT c d' (R.take i++((R.take j).drop i).reverse++R.drop j)/\wb [(true,.int k),(true,.int i),(true,.int j)] (yS c ts)=some (.int ts.length,yS c<|ts++[d']):=by
 obtain⟨x,y,z,t1,ox,oy,oz⟩:=Qc h hk hd hl h1 h2;obtain⟨y',r1,oy'⟩:=Cv h oy;have lx:(R.take i).length<=900:=by rw[zzS];exact q0r hl
 have ly:((R.take j).drop i).length<=900:=by rw[List.length_drop,zzS];exact q0q hl h2
 have lz:(R.drop j).length<=900:=by rw[List.length_drop];exact q0B hl h2
 obtain⟨d',g1,od⟩:=LP h ox oy' oz (by rw[List.length_reverse,List.length_drop,zzS,zzS,List.length_drop];exact q0N hl h2 h1);have w1:WD Sj [some<|yS c ts,sI k,sI i,sI j,none] true (.tup [x,y,z]):=XM (c:=c) rfl (by decide +kernel) rfl (zd (za (i:=1) rfl)<|zd (za (i:=2) rfl)<|zd (za (i:=3) rfl) zq) t1 (QI ox oy oz (q0b lx) (q0b ly)<|(q0b lz));have s1:=zF (st:=true) (i:=4) w1<|zh rfl;have wy:WD (LN 0 yB "way") [some<|yS c ts,sI k,sI i,sI j,sT<|.tup [x,y,z]] true c.w:=OR rfl;have w3:=yQ (WD.e wy) (WD.e<|y7 (j:=4) (i:=1) (z:=y) rfl rfl) r1;have w4:WD nC [some<|yS c ts,sI k,sI i,sI j,sT<|.tup [x,y,z]] true d':=by
  refine XM (c:=c) rfl (by decide +kernel) rfl (zd (y7 (j:=4) rfl rfl)<|y8 w3<|zd (y7 (j:=4) rfl rfl) zq) ?_ (od.nc (by rw[zzJ,zzJ,List.length_reverse,List.length_drop,zzS,zzS,List.length_drop];exact q0O hl h2 h1)<|by omega);show zG [_,(zC x||true,x),(zC y'||true,y'),(zC z||true,z)]=_
  rwa [zyD,zyD,zyD]
 exact⟨d',od,pE (l:=_) rfl<|Xs s1<|Bc rfl (zd w4 zq) tl⟩
def Jf(t8:ts.length<800):∃d1 d2,OT c d1 ((R.take j).drop i)/\OT c d2 (R.take i++R.drop j)/\Zy [(true,.int k),(true,.int i),(true,.int j)] (yS c ts)=some (.tup [.int ts.length,.int (ts.length+1:Nat)],yS c<|ts++[d1]++[d2]):=by
 obtain⟨x,y,z,t1,ox,oy,oz⟩:=Qc h hk hd hl h1 h2;have lx:(R.take i).length<=900:=by rw[zzS];exact q0r hl
 have ly:((R.take j).drop i).length<=900:=by rw[List.length_drop,zzS];exact q0q hl h2
 have lz:(R.drop j).length<=900:=by rw[List.length_drop];exact q0B hl h2
 obtain⟨d',g1,od⟩:=MW h ox oz (q0b lx) (q0b lz);have w1:WD Sj [some<|yS c ts,sI k,sI i,sI j,none,none] true (.tup [x,y,z]):=XM (c:=c) rfl (by decide +kernel) rfl (zd (za (i:=1) rfl)<|zd (za (i:=2) rfl)<|zd (za (i:=3) rfl) zq) t1 (QI ox oy oz (q0b lx) (q0b ly)<|(q0b lz));have s1:=zF (st:=true) (i:=4) w1<|zh rfl;have k1:=DG (c:=c) (as:=[some<|yS c ts,sI k,sI i,sI j,sT<|.tup [x,y,z],none]) rfl (zd (y7 (j:=4) (i:=1) (z:=y) rfl rfl) zq) (by omega);have s2:zr true 5 (vK 0 "Makes" "keep" yi<|aC (f2 zL zz zv) aN) [some<|yS c ts,sI k,sI i,sI j,sT<|.tup [x,y,z],none]=some (.nx [some<|yS c<|ts++[y],sI k,sI i,sI j,sT<|.tup [x,y,z],sI ts.length]):=by
  unfold zr;rw[k1];rfl
 have w3:=zX (WD.e<|OR (c:=c) (as:=[some<|yS c<|ts++[y],sI k,sI i,sI j,sT<|.tup [x,y,z],sI ts.length]) rfl) (WD.e<|y7 (j:=4) (i:=0) (z:=x) rfl rfl) (WD.e<|y7 (j:=4) (i:=2) (z:=z) rfl rfl) g1;have k2:=DG (c:=c) rfl (y8 w3 zq) (by rw[zzJ];show ts.length+1<900;omega);rw[show(ts++[y]).length=ts.length+1 from zzJ]at k2;have s3:VY (yd<|dC yN pU) [some<|yS c<|ts++[y],sI k,sI i,sI j,sT<|.tup [x,y,z],sI ts.length]=some (.tup [.int ts.length,.int (ts.length+1:Nat)],[some<|yS c<|ts++[y]++[d'],sI k,sI i,sI j,sT<|.tup [x,y,z],sI ts.length]):=by
  have e:=gQ (za (i:=5) rfl) k2;unfold VY yd;rw[e];rfl
 exact⟨y,d',oy,od,pE (l:=_) rfl<|Xs s1<|Xs s2 s3⟩
omit h1 h2 in
theorem MC{v:Int}(hi:i<R.length)(hv:zT c.n v):∃d',OT c d' (R.take i++[v]++R.drop (i+1))/\xS [(true,.int k),(true,.int i),(true,.int v)] (yS c ts)=some (.int ts.length,yS c<|ts++[d']):=by
 obtain⟨x,y,z,t1,ox,oy,oz⟩:=Qc h hk hd hl (show i<=i+1 from q0Z) (q1f hi);obtain⟨y',r1,oy'⟩:=HI h (r:=[v]) (by show 1<=_;omega) (λw mw=>by rw[zzR.mp mw];exact hv) true;have lx:(R.take i).length<=900:=by rw[zzS];omega
 have ly:((R.take<|i+1).drop i).length<=900:=by rw[List.length_drop,zzS];omega
 have lz:(R.drop<|i+1).length<=900:=by rw[List.length_drop];omega
 obtain⟨d',g1,od⟩:=LP (ts:=ts) h ox oy' oz (by rw[zzS,List.length_drop];show _+1+_<=_;omega);have w0:WD (xB 0 y2 "tree_at" xp) [some<|yS c ts,sI k,sI i,sI v,none,none] true d:=XM (c:=c) (ts:=ts) (g:=yK) rfl (by decide +kernel) rfl (zd (za (i:=1) rfl) zq) (Vy hk) (hd.nc (q0b hl)<|by omega);have s0:=zF (st:=true) (i:=4) w0<|zh rfl;have ws:WD (f2 (zg (aC zL aN) xu) zz xx) [some<|yS c ts,sI k,sI i,sI v,sT d,none] true (.int<|R.length-1):=Zb (lA rfl<|xF (WD.e<|za (i:=4) rfl)<|RX hd) zb;have s1:=LQ (WD.e<|za (i:=2) (s:=true) (x:=.int i) rfl) (WD.e<|zb (x:=.int 0)) (WD.e ws) (q0a) (by omega);have s2:zW (xB 0 xt "check_value" ZW) [some<|yS c ts,sI k,sI i,sI v,sT d,none]=some (.nx [some<|yS c ts,sI k,sI i,sI v,sT d,none]):=by
  unfold zW;rw[MJ (i:=0) (c:=c) (ts:=ts) (tbl:=xt) (g:=yO) (o:=.lf true .non) rfl (by decide +kernel) rfl (WD.e<|za (i:=3) rfl) (Kc hv) rfl];rfl
 have w1:WD q8 [some<|yS c ts,sI k,sI i,sI v,sT d,none] true (.tup [x,y,z]):=XM (c:=c) (ts:=ts) (g:=yM) rfl (by decide +kernel) rfl (zd (za (i:=1) rfl)<|zd (za (i:=2) rfl)<|zd (zM (za (i:=2) rfl)<|zb (x:=.int 1)) zq) t1 (QI ox oy oz (q0b lx) (q0b ly)<|(q0b lz));have s3:=zF (st:=true) (i:=5) w1<|zh rfl;have wy:WD (LN 0 yB "way") [some<|yS c ts,sI k,sI i,sI v,sT d,sT<|.tup [x,y,z]] true c.w:=OR rfl;have w3:=yQ (g:=vI 20) (WD.e wy) (xG (os:=[VM v]) (x:=ze [v]) (zH (za (i:=3) rfl) yu) (WY rfl) rfl rfl) r1;have w4:WD nF [some<|yS c ts,sI k,sI i,sI v,sT d,sT<|.tup [x,y,z]] true d':=by
  refine XM (c:=c) (ts:=ts) (g:=zG) rfl (by decide +kernel) rfl (zd (y7 (j:=5) rfl rfl)<|y8 w3<|zd (y7 (j:=5) rfl rfl) zq) ?_ (od.nc (by rw[zzJ,zzJ,zzS,List.length_drop];show _+1+_<=_;omega)<|by omega);show zG [_,(zC x||true,x),(zC y'||true,y'),(zC z||true,z)]=_;rw[zyD,zyD,zyD];exact g1
 exact⟨d',od,pE (l:=_) rfl<|Xs s0<|Xs s1<|Xs s2<|Xs s3<|Bc rfl (zd w4 zq) tl⟩
omit h1 h2 in
theorem IP{q:Nat}{d2:D}{Q:List Int}(hi:i<=R.length)(hq:ts[q]? = some d2)(hd2:OT c d2 Q)(lq:R.length+Q.length<=300):∃d',OT c d' (R.take i++Q++R.drop i)/\x6 [(true,.int k),(true,.int i),(true,.int q)] (yS c ts)=some (.int ts.length,yS c<|ts++[d']):=by
 obtain⟨x,z,a1,ox,oz⟩:=Et h hd i (q0b hl) hi;obtain⟨d',g1,od⟩:=LP (ts:=ts) h ox hd2 oz (by rw[zzS,List.length_drop];omega);have w0:WD (xB 0 y2 "tree_at" xp) [some<|yS c ts,sI k,sI i,sI q,none,none,none] true d:=XM (c:=c) (ts:=ts) (g:=yK) rfl (by decide +kernel) rfl (zd (za (i:=1) rfl) zq) (Vy hk) (hd.nc (q0b hl)<|by omega);have s0:=zF (st:=true) (i:=4) w0<|zh rfl;have w1:WD (xB 0 y2 "tree_at" ZW) [some<|yS c ts,sI k,sI i,sI q,sT d,none,none] true d2:=XM (c:=c) (ts:=ts) (g:=yK) rfl (by decide +kernel) rfl (zd (za (i:=3) rfl) zq) (Vy hq) (hd2.nc (by omega)<|by omega);have s1:=zF (st:=true) (i:=5) w1<|zh rfl;have z1:WE (zg (aC zL aN) xu) [some<|yS c ts,sI k,sI i,sI q,sT d,sT d2,none] (.int R.length):=xF (WD.e<|za (i:=4) rfl)<|RX hd;have z2:WE (zg O2 xu) [some<|yS c ts,sI k,sI i,sI q,sT d,sT d2,none] (.int Q.length):=xF (WD.e<|za (i:=5) rfl)<|RX hd2;have s2:=LQ (WD.e<|za (i:=2) (s:=true) (x:=.int i) rfl) (WD.e<|zb (x:=.int 0)) z1 (q0a) (q0Y hi);have s3:zW uS [some<|yS c ts,sI k,sI i,sI q,sT d,sT d2,none]=some (.nx [some<|yS c ts,sI k,sI i,sI q,sT d,sT d2,none]):=by
  unfold zW;have:=Od (WD.e<|zM (lA rfl z1)<|lA rfl z2) (BX<|by omega);unfold WD at this;unfold uS;rw[this];rfl
 have s4:=yU (p:=6) (as:=[some<|yS c ts,sI k,sI i,sI q,sT d,sT d2,none]) (zX (WD.e<|OR (c:=c) (ts:=ts) rfl) (WD.e<|za (i:=4) rfl) (WD.e<|za (i:=2) rfl) a1)<|zh rfl;have w4:WD p_ [some<|yS c ts,sI k,sI i,sI q,sT d,sT d2,sT<|.tup [x,z]] true d':=XM (c:=c) (ts:=ts) (g:=zG) rfl (by decide +kernel) rfl (zd (y7 (j:=6) rfl rfl)<|zd (za (i:=5) rfl)<|zd (y7 (j:=6) rfl rfl) zq) (by
  show zG [_,(zC x||true,x),(zC d2||true,d2),(zC z||true,z)]=_
  rwa [zyD,zyD,zyD]) (od.nc (by rw[zzJ,zzJ,zzS,List.length_drop];omega)<|by omega)
 exact⟨d',od,pE (l:=_) rfl<|Xs s0<|Xs s1<|Xs s2<|Xs s3<|Xs s4<|Bc rfl (zd w4 zq) tl⟩
end
end
def Cp{a b:EF}{as:AS}{s:Bool}{r:List Int}{k:Nat}(ha:WD a as s (ze r))(hb:WD b as true (.int k))(hk:k<=r.length):WE (Yk a oN (oS b) YF) as (ze<|r.take k):=by
 have c1:=OK (xs:=(r.take k).map D.int) (ys:=(r.drop k).map D.int);rw[<-zyM,List.take_append_drop,zzB,zzS,Nat.min_eq_left hk]at c1;exact Ut ha rfl (oK hb) c1
def Gh{a b:EF}{as:AS}{s:Bool}{r:List Int}{k:Nat}(ha:WD a as s (ze r))(hb:WD b as true (.int k))(hk:k<=r.length):WE (Yk a (oS b) oN YF) as (ze<|r.drop k):=by
 have c1:=NZ (xs:=(r.take k).map D.int) (ys:=(r.drop k).map D.int);rw[<-zyM,List.take_append_drop,zzB,zzS,Nat.min_eq_left hk]at c1;exact Ut ha (oK hb) rfl c1
def Yv{a b:EF}{as:AS}{r s:List Int}(ha:WE a as (ze r))(hb:WE b as (ze s))(hl:r.length+s.length<=1000):WE (f2 a b zo) as (ze<|r++s):=by
 have:=Fg ha hb (add_lists<|by rw[zzB,zzB];exact BR ⋯)
 rwa [<-zyM]at this
def j6{r:Option O}{d:D}(hd:zC d=true)(h:RE r d):r=sT d:=by
 obtain⟨o,h,h1,h2⟩:=h;cases o with
 |lf s x=>subst h2;rwa [show s=true from h1]at h
 |nd k os=>subst h2;cases k<;>cases hd
abbrev GO(rs:TZ):List O:=(rs.map ze).map<|O.lf true
def kY{as:AS}{i:Nat}{rs:TZ}{b:EF}{k:Nat}{r:List Int}(h:as[i]? = some (sN<|GO rs))(hb:WD b as true (.int k))(hr:rs[k]? = some r):WD (f2 (fV i) b zv) as true (ze r):=
 nP h (FS _) (X0 _) hb (by rw[Qy];exact Ye hr)
section
variable{c:Cx}{R:List Int}
def C5(h:c.Ok){p:Str×TZ}(hp:p ∈ c.Ds)(hr:c.In R)(hl:R.length<=1000):RE (Xi [(true,c.g),(true,.str p.1),(true,ze R)]) (ze<|c.ap (some p.2) R):=by
 have W:c.W p.2:=⟨h.A.ds p hp,h.L.ld p hp⟩;have m1:=h.A.m1;have w0:WE (fP (aC (f2 zm Zw zv) aN) Pn) [sT c.g,sT<|.str p.1,sT<|ze R,none] _:=ux h.A.nd<|WD.e ⋯;have s3:=yU (p:=3) (N1 (g:=zv) w0 (WD.e<|za (i:=1) rfl) (by
  show Oj _=_;rw[Pg hp h.A.nd];rfl))<|zh rfl
 have ib:=YN (as:=[sT c.g,sT<|.str p.1,sT<|ze R,sT<|x_ p.2])<|WD.e<|za (i:=2) rfl;have wm:=VI (cap:=[none,some 3,some 0]) (gg:=gN 0) R ib ⋯ (λv mv=>⟨_,rfl,WD.e<|zV (vZ (za (i:=1) rfl) (zY ⋯ (zV (g:=zv) (za (i:=2) rfl) (zb (x:=.int 1)) rfl rfl) ⋯) (Zi W.t h.m1).1) (za (i:=0) rfl) (rowAt (Zi W.t h.m1).2<|hr v mv).1 rfl⟩);refine zN rfl<|zc s3<|zE ?_;show WE _ _ (.lst<|(R.map _).map D.int)
 rwa [zyB]
end
def gi{as:AS}{a b d:D}{i j k:Nat}(hi:i<as.length)(hj:j<as.length)(hk:k<as.length):gT 3 (y6 (gN i)<|y6 (gN j)<|y6 (gN k) Xn) (true,.lst [a,b,d]) as=some (((as.set i<|sT a).set j<|sT b).set k<|sT d):=by
 show y6 _ _ (kids true [a,b,d]) as=_;rw[VA];show(gN i _ as).bind _=_;unfold gN;rw[if_pos hi];show((if j<(as.set i _).length then _ else _:Option AS)).bind _=_;rw[if_pos<|by rwa [zzU]];show((if k<((as.set i _).set j _).length then _ else _:Option AS)).bind _=_;rw[if_pos<|by rwa [zzU,zzU]];rfl
def Sb(x:Int)(n:Nat)(hn:n<=1000):∃i j:Nat,i<=j/\j<=n/\RE (Xa [(true,.int x),(true,.int n)]) (.tup [.int i,.int j]):=by
 have wd:=EH (a:=fV 0) (as:=[sI x,sI n,none,none,none]) (x:=x) (sz:=[27720,27720,5]) (by decide) (by decide) (WD.e<|za (i:=0) rfl)<|VG (yg (WD.e zb)<|yg (WD.e zb)<|yg (WD.e zb) Wh) rfl;obtain⟨o,d1,d2,d3⟩:=wd;have s1:=Ft d1 (by rw[d2,d3];exact gi (i:=2) (j:=3) (k:=4) (zh rfl) (zh rfl)<|zh rfl);generalize x%27720=a at s1;generalize x/27720%27720=b at s1;generalize x/27720/27720%5=k at s1;have hm:∀y:Int,∃q:Nat,y%(n+1)=q/\q<=n:=λy=>by
  have h0:=zyN y (show(n:Int)+1≠0 by omega);have h1:=zyH y (show(0:Int)<n+1 from q0X hn);exact⟨(y%(n+1)).toNat,by omega,by omega⟩
 obtain⟨p,ep,pn⟩:=hm a;obtain⟨q,eq,qn⟩:=hm b;have s2:=zF (st:=true) (i:=2) (zY (za (as:=[sI x,sI n,sI a,sI b,sI k]) (i:=2) (x:=.int a) (s:=true) rfl) (zM (za (i:=1) (x:=.int n) (s:=true) rfl)<|zb (x:=.int 1))<|(q0X hn))<|zh rfl;rw[ep]at s2;have s3:=zF (st:=true) (i:=3) (zY (za (as:=[sI x,sI n,sI p,sI b,sI k]) (i:=3) (x:=.int b) (s:=true) rfl) (zM (za (i:=1) (x:=.int n) (s:=true) rfl)<|zb (x:=.int 1))<|(q0X hn))<|zh rfl;rw[eq]at s3;have e4:∀z,WT (fT<|f2 zL (fC<|.int z)<|zw .Eq) [sI x,sI n,sI p,sI q,sI k] (k==z):=λz=>eqT (za (i:=4) rfl) zb rfl;have v1:WD zk [sI x,sI n,sI p,sI q,sI k] true (.int n):=za (i:=1) rfl;have v2:WD zA [sI x,sI n,sI p,sI q,sI k] true (.int p):=za (i:=2) rfl;have v3:WD zB [sI x,sI n,sI p,sI q,sI k] true (.int q):=za (i:=3) rfl;have t0:=e4 0;cases z0:k==0 with
 |true=>
  rw[z0]at t0;exact⟨0,n,by omega,by omega,zN rfl<|zc s1<|zc s2<|zc s3<|yj<|yH t0<|zE<|yR (WD.e zb)<|WD.e v1⟩
 |false=>
  rw[z0]at t0;have t1:=e4 1;cases z1:k==1 with
  |true=>
   rw[z1]at t1;have w:=yw (g:=Gq) (x:=.int (min (p+1) n:Nat)) (zd (zM v2<|zb (x:=.int 1))<|zd v1 zq) (by
    show some (R0.im<|.int<|if(n:Int)<(p:Int)+1 then(n:Int)else(p:Int)+1)=_;rw[show(if(n:Int)<(p:Int)+1 then(n:Int)else(p:Int)+1)=((min (p+1) n:Nat):Int) by split<;>omega]) rfl
   exact⟨p,min (p+1) n,by omega,by omega,zN rfl<|zc s1<|zc s2<|zc s3<|zc (zp t0 rfl)<|yj<|yH t1<|zE<|yR (WD.e v2)<|WD.e w⟩
  |false=>
   rw[z1]at t1;have w:=yw (g:=Gq) (x:=.int (min p q:Nat)) (zd v2<|zd v3 zq) (by
    show some (R0.im<|.int<|if(q:Int)<p then(q:Int)else p)=_;rw[show(if(q:Int)<p then(q:Int)else p)=((min p q:Nat):Int) by split<;>omega]) rfl
   have w':=yw (g:=Rc) (x:=.int (max p q:Nat)) (zd v2<|zd v3 zq) (by
    show some (R0.im<|.int<|if(q:Int) > p then(q:Int)else p)=_;rw[show(if(q:Int) > p then(q:Int)else p)=((max p q:Nat):Int) by split<;>omega]) rfl
   exact⟨min p q,max p q,by omega,by omega,zN rfl<|zc s1<|zc s2<|zc s3<|zc (zp t0 rfl)<|zc (zp t1 rfl)<|zE<|yR (WD.e w)<|WD.e w'⟩
section
variable{c:Cx}{d:D}{R:List Int}
inductive WK(c:Cx):D->List Int->Nat->Prop
 |lf (v:Int):zT c.n v->WK c (.tup [.int v]) [v] 0
 |nd {x y:D}{r s:List Int}{p q:Nat}:WK c x r p->WK c y s q->p<=q+1->q<=p+1->WK c (.tup [.int (c.h (r++s)),x,y]) (r++s) (1+max p q)
theorem K9(h:c.Ok):∀(k:Nat) {d:D}{R:List Int}{p:Nat},TK c d R p->p<k->∃w,ZX k [(true,c.w),(true,d)]=sT w/\WK c w R p
 |0,_,_,_,_,h=>absurd h (Nat.not_lt_zero _)
 |n+1,d,R,p,k,hp=>by
  have v1:∀a,WD zk [sT c.w,sT d,a] true d:=λ_=>za rfl;have t0:=k.zero<|v1 none
  by_cases h0:p=0
  . rw[zyO h0]at t0;cases k with
    |lf v t hv=>exact⟨_,xX rfl ⋯,.lf v hv⟩
    |nd=>exact absurd h0 (by omega)
  . rw[zyG h0]at t0;obtain⟨x,y,r,s,u,v,q1,q2,q3,q4,q5,rfl,rfl⟩:=Zz h k h0;obtain⟨a,a1,a2⟩:=K9 h n q2 (by omega);obtain⟨b,b1,b2⟩:=K9 h n q3 (by omega);exact⟨_,xX rfl<|zt (zp (k.isN<|v1 _) rfl)<|zt (zp t0 rfl)<|zt (yU (yQ (WD.e<|za rfl) (WD.e<|v1 _) q1)<|zh rfl)<|xW<|Oz (zH (k.whole<|v1 _)<|zH (VN (WD.e<|za rfl) (WD.e<|y7 (j:=2) rfl rfl) a1)<|zH (VN (WD.e<|za (i:=0) rfl) (WD.e<|y7 (j:=2) rfl rfl) b1) yu) (WY rfl) rfl,.nd a2 b2 q4 q5⟩
def WK.in{w:D}{R:List Int}{p:Nat}(k:WK c w R p):c.In R:=by
 induction k with
 |lf v hv=>exact λx mx=>by rcases zzC.mp mx with rfl|mx;exact hv;exact nomatch mx
 |nd _ _ _ _ i j=>exact ET i j
theorem WK.nc{w:D}{R:List Int}{p:Nat}(k:WK c w R p):∀j,p+2<=j->PF.nc QU j w=true:=by
 induction k with
 |lf v hv=>
  intro j hj;obtain⟨j,rfl⟩:∃i,j=i+2:=⟨j-2,⋯⟩;rfl
 |nd _ _ _ _ i1 i2=>
  intro j hj;obtain⟨j,rfl⟩:∃i,j=i+2:=⟨j-2,⋯⟩;show(true&&(PF.nc QU _ _&&(PF.nc QU _ _&&true)))=_;rw[i1 _ ⋯,i2 _ ⋯];rfl
abbrev Mz(c:Cx)(p:Nat)(r:List Int):D:=.tup [ze r,.int<|c.h r,.int p]
theorem Q2(h:c.Ok):∀(n:Nat) {w:D}{R:List Int}{p:Nat},WK c w R p->p<n->R.length<=1000->RE (vO n [(true,c.g),(true,w)]) (Mz c p R)
 |0,_,_,_,_,h,_=>absurd h (Nat.not_lt_zero _)
 |n+1,w,R,p,k,hp,hl=>by
  cases k with
  |lf v hv=>
   have w0:WD (f2 zk zP zv) [sT c.g,sT<|.tup [.int v],none,none,none] true (.int v):=zV (za (i:=1) rfl) zb rfl rfl;have t1:WT uF [sT c.g,sT<|.tup [.int v],none,none,none] false:=rfl;have t2:WT (fT<|f2 (fP xp y4) zz<|zw .Eq) [sT c.g,sT<|.tup [.int v],none,none,none] true:=rfl;have t3:WT qL [sT c.g,sT<|.tup [.int v],none,none,none] false:=rfl;exact zN rfl<|zc (zp t1 rfl)<|yj<|yH t2<|zc (zp t3 rfl)<|zE<|Bn (xG (os:=[VM v]) (zH w0 yu) (WY rfl) rfl rfl) (WD.e w0)<|WD.e zb
  | @nd x y r s p q k l b1 b2=>
   have hR:=WK.nd k l b1 b2;rw[zzJ]at hl;have i1:=Q2 h n k (by omega) (q0H hl);have i2:=Q2 h n l (by omega) (q1t hl);generalize hw:D.tup [.int<|c.h<|r++s,x,y]=w;have w0:∀a b e,WD (f2 zk zP zv) [sT c.g,sT w,a,b,e] true (.int<|c.h<|r++s):=λa b e=>by subst hw;exact zV (za (i:=1) rfl) zb rfl rfl
   have t1:WT uF [sT c.g,sT w,none,none,none] false:=by subst hw;rfl
   have t2:WT (fT<|f2 (fP xp y4) zz<|zw .Eq) [sT c.g,sT w,none,none,none] false:=by subst hw;rfl
   have s2:=yU (p:=2) (as:=[sT c.g,sT w,none,none,none]) (yQ (WD.e<|za (i:=0) rfl) (by subst hw;exact WD.e<|y7 (j:=1) (i:=1) rfl rfl) i1)<|zh rfl;have s3:=yU (p:=3) (as:=[sT c.g,sT w,sT<|Mz c p r,none,none]) (yQ (WD.e<|za (i:=0) rfl) (by subst hw;exact WD.e<|y7 (j:=1) (i:=2) rfl rfl) i2)<|zh rfl;have w22:∀z,WD (f2 zA yx zv) [sT c.g,sT w,sT<|Mz c p r,sT<|Mz c q s,z] true (.int p):=λz=>y7 (j:=2) rfl rfl;have w32:∀z,WD (f2 zB yx zv) [sT c.g,sT w,sT<|Mz c p r,sT<|Mz c q s,z] true (.int q):=λz=>y7 (j:=3) rfl rfl;have t4:WT pQ [sT c.g,sT w,sT<|Mz c p r,sT<|Mz c q s,none] false:=
    Bs (k:=false) (xi (zV (z:=.bl false) (za (i:=2) rfl) zb rfl rfl) rfl) (λ_=>Bs (k:=false) (xi (zV (z:=.bl false) (za (i:=3) rfl) zb rfl rfl) rfl) (λ_=>by
     have:=DX (yw (g:=Jr) (zd (Zb (w22 none)<|w32 none) zq) rfl rfl)<|zb (x:=.int 1);rw[zyG<|by split<;>omega]at this;exact xi this rfl) (λq=>nomatch q)) (λq=>nomatch q)
   have wj:=vC h.A.j (ZK h.L.lj k.in) (ZK h.L.lj l.in) (vZ (g:=zv) (z:=x_ c.J) (za (as:=[sT c.g,sT w,sT<|Mz c p r,sT<|Mz c q s,none]) (i:=0) (x:=c.g) rfl) (zb (x:=.int 2)) rfl) (y7 (j:=2) (i:=1) (z:=.int<|c.h r) rfl rfl)<|y7 (j:=3) (i:=1) (z:=.int<|c.h s) rfl rfl;rw[<-EG h.L.lj k.in l.in]at wj;have s5:=zF (st:=true) (i:=4) wj<|zh rfl;have t6:WT nh [sT c.g,sT w,sT<|Mz c p r,sT<|Mz c q s,sI<|c.h<|r++s] false:=X6 (k:=true)<|xi (VN (WD.e<|w0 _ _ _) (WD.e<|za (i:=4) rfl)<|by rw[S3,beq_self_eq_true]) rfl;have w5:WE (f2 (f2 zA zP zv) (f2 zB zP zv) zo) [sT c.g,sT w,sT<|Mz c p r,sT<|Mz c q s,sI<|c.h<|r++s] (ze<|r++s):=Yv (WD.e<|y7 (j:=2) rfl rfl) (WD.e<|y7 (j:=3) rfl rfl) (by omega);have w7:=zM (as:=[sT c.g,sT w,sT<|Mz c p r,sT<|Mz c q s,sI<|c.h<|r++s]) (zb (x:=.int 1))<|yw (g:=Rc) (zd (w22 _)<|zd (w32 _) zq) rfl rfl;rw[show 1+(if(q:Int) > p then(q:Int)else p)=((1+max p q:Nat):Int) by split<;>omega]at w7;exact zN rfl<|zc (zp t1 rfl)<|zc (zp t2 rfl)<|zc s2<|zc s3<|zc (zp t4 rfl)<|zc s5<|zc (zp t6 rfl)<|zE<|Bn w5 (WD.e<|za (i:=4) rfl)<|WD.e w7
def S9(h:c.Ok){w:D}{p:Nat}(k:WK c w R p)(hp:p<20)(hl:R.length<=1000):wo [(true,c.g),(true,w),(true,ze R)]=sT (.bl true):=by
 have hne:R≠[]:=by
  clear hl hp
  induction k with
  |lf v hv=>exact List.cons_ne_nil _ _
  |nd _ _ _ _ i j=>exact λz=>i (List.append_eq_nil_iff.mp z).1
 have t1:WT (fT<|f2 zA _<|zw .Eq) [sT c.g,sT w,sT _,none] false:=xi (BP (WD.e ⋯) (xG yu ⋯ rfl rfl)<|by
  show(YG 60 _<|ze []).bind _=_;rw[Cr,show(R==[])=false by cases R with|nil=>exact absurd rfl hne|cons a b=>rfl];rfl) rfl
 have s2:=yU (p:=3) (as:=[sT c.g,sT w,sT<|ze R,none]) (yQ (WD.e ⋯) (WD.e ⋯)<|Q2 h 20 k hp hl)<|zh rfl;have e2:WD (f2 (f2 zB zP zv) zA _) [sT c.g,sT w,sT _,sT<|Mz c p R] true _:=UE ⋯ ⋯ (by rw[Cr,beq_self_eq_true]);exact j6 rfl<|zN rfl<|zc (zp t1 rfl)<|zc s2<|zE<|WD.e ⋯
def SD:wo [(true,c.g),(true,.tup []),(true,ze [])]=sT (.bl true):=⋯
def Cg(h:c.Ok){ts:List D}{k:Nat}(hk:ts[k]? = some d)(hd:OT c d R)(hl:R.length<=900):∃w,vS [(true,K1 c ts),(true,.int k)]=sT w/\DQ QU (.lf true w)=true/\wo [(true,c.g),(true,w),(true,ze R)]=sT (.bl true):=by
 have wt:WE (Yc y2 "tree_at" zm xp) [sT<|K1 c ts,sI k] d:=Mm ⋯ ⋯ rfl (WD.e ⋯) (P3 hk);have run:∀w,ZX 20 _=sT w->vS [(true,K1 c ts),(true,.int k)]=sT w:=λw hw=>xX rfl<|xW<|VN (WD.e ⋯) wt hw
 rcases hd with⟨rfl,rfl⟩|⟨p,kd⟩
 . exact⟨.tup [],run _ ⋯,rfl,SD⟩
 . have p2:=kd.lt ⋯;obtain⟨w,a,b⟩:=K9 h 20 kd p2;exact⟨w,run w a,b.nc 60 ⋯,S9 h b p2 ⋯⟩
end
def nk(x:Int)(k:Nat)(hk:0<k):∃w:Nat,x%(k:Int)=w/\w<k:=by
 have h0:=zyN x (show(k:Int)≠0 by omega);have h1:=zyH x (show(0:Int)<k from q0V hk);exact⟨(x%k).toNat,⋯,⋯⟩
def AX{xs:List D}{x:D}:zv (.lst<|xs++[x]) (.int (-1))=some (.im x):=by
 have:L2.atI (xs++[x]) (-1)=some x:=by
  unfold L2.atI L2.ixN;rw[if_neg (by decide),zzJ,if_pos (by show -(((xs.length+1:Nat)):Int) <= -1;omega)];show _[(-1+((xs.length+1:Nat):Int)).toNat]? = _;rw[show(-1+(_:Int)).toNat=xs.length by omega,zyR<|zzN _,Nat.sub_self];rfl
 show Oj _=_;rw[this];rfl
def pP{as:AS}{i:Nat}{rs:TZ}{r:List Int}(h:as[i]? = some (sN<|GO<|rs++[r])):WD (f2 (fV i) (f1 zz GJ) zv) as true (ze r):=
 nP h (FS _) (X0 _) ⋯ (by rw[Qy,zyM];exact AX)
def D0{as:AS}{i:Nat}{rs:TZ}(h:as[i]? = some (sN<|GO rs)):WD (fP (aC (fV i) aN) y4) as true (.int rs.length):=by
 have:=jJ h
 rwa [zzB,zzB]at this
def Nr{as:AS}{i:Nat}{rs:TZ}{f:EF}{r:List Int}(h:as[i]? = some (sN<|GO rs))(hl:rs.length<900)(hf:WD f as true (ze r)):zW (vL i (dC f dN) ZG) as=some (.nx<|as.set i<|sN<|GO<|rs++[r]):=by
 refine(uD h (by rw[zzB,zzB];exact slt ⋯) hf).trans ?_;show _=some (Out.nx<|as.set i<|sN<|((rs++_).map ze).map _);rw[zyM,zyM];rfl
def Dd{as:AS}{i k:Nat}{rs:TZ}(h:as[i]? = some (sN<|GO rs))(e:rs.length=k+1):WD (f2 (fP (aC (fV i) aN) y4) zz xx) as true (.int k):=by
 have w:=Zb (D0 h)<|zb (x:=.int 1)
 rwa [show(rs.length:Int)-1=k by omega]at w
def qj{f:EF}{as:AS}{r:List Int}(h:WE f as (ze r)):WE (Yk f oN (oS<|f1 zz GJ) rW) as (ze r.reverse):=by
 refine LV h rfl ⋯ ?_;show(if(none:Option Int)=none/\some (-1:Int)=some (-1)then some _ else none)=_;rw[if_pos ⋯,List.map_reverse]
structure Lt(c:Cx)(ts:List D)(rs:TZ):Prop where
 ln:ts.length=rs.length
 ot:∀(i:Nat) d r,ts[i]? = some d->rs[i]? = some r->OT c d r
 sz:∀r ∈ rs,r.length<=300
section
variable{c:Cx}{rs:TZ}{ts:List D}
def Lt.snoc{d:D}{r:List Int}(h:Lt c ts rs)(hd:OT c d r)(h1:r.length<=300):Lt c (ts++[d]) (rs++[r]):=by
 refine⟨by rw[zzJ,zzJ,h.ln];rfl,λi e q he hq=>?_,λq mq=>?_⟩
 . rcases Nat.lt_or_ge i ts.length with hi|hi
   . rw[zyP hi]at he;rw[zyP<|by have:=h.ln;omega]at hq;exact h.ot i e q he hq
   . rw[zyR hi]at he;rw[zyR (by have:=h.ln;exact q0f this hi),<-h.ln]at hq;cases hk:i-ts.length with
     |zero=>
      rw[hk]at he hq;cases he;cases hq;exact hd
     |succ k=>
      rw[hk]at he;cases he
 . rcases zzM.mp mq with m|m
   . exact h.sz q m
   . rwa [zzR.mp m]
def Lt.get(h:Lt c ts rs){k:Nat}(hk:k<rs.length):∃d r,ts[k]? = some d/\rs[k]? = some r/\OT c d r/\r.length<=300:=by
 have h1:=zzE hk;have h2:=zzE (show k<ts.length by have:=h.ln;omega);exact⟨_,_,h2,h1,h.ot _ _ _ h2 h1,h.sz _<|zyA h1⟩
def hU{α:Type}{l:List α}{a:α}{k:Nat}{b:α}(h:l[k]? = some a):(l++[b])[k]? = some a:=by
 rwa [zyP (zzG.mp h).1]
def lN{α:Type}{l:List α}{b:α}:(l++[b])[l.length]? = some b:=by
 rw[zyR<|zzN _,Nat.sub_self];rfl
def qO{a b:EF}{as:AS}{k:Nat}{p:Str×TZ}(ha:WD a as true c.g)(hb:WD b as true (.int k))(hp:c.Ds[k]? = some p):WD (f2 (f2 a Zw zv) b zv) as true (XA p):=vZ (vZ ha zb rfl) hb<|Ye hp
def mB{a:EF}{as:AS}(ha:WD a as true c.g):WD (fP (aC (f2 a Zw zv) aN) y4) as true (.int (c.Ds.length:Nat)):=by
 have:=yw (g:=y4) (zd (vZ (g:=zv) ha (zb (x:=.int 4)) rfl) zq) rfl rfl
 rwa [zzB]at this
def oO{as:AS}{i k x y z:Nat}{a b:Nat}{R:List Int}{p:Str×TZ}(h:c.Ok)(hp:p ∈ c.Ds)(hr:c.In R)(hl:R.length<=300)(h1:a<=b)(h2:b<=R.length)(e1:as[i]? = some (sT c.g))(e2:as[k]? = some (sT<|ze R))(e3:as[x]? = some (sI a))(e4:as[y]? = some (sI b))(e5:as[z]? = some (sT<|.str p.1)):WD (Sd<|f2 (f2 (Yk (fV k) oN (oS<|fV x) YF) (zg (aC (fV i)<|aC (fV z)<|aC (Yk (fV k) (oS<|fV x) (oS<|fV y) YF) aN) Xi) zo) (Yk (fV k) (oS<|fV y) oN YF) zo) as true (ze<|R.take a++c.ap (some p.2) ((R.take b).drop a)++R.drop b):=by
 have v3:=za e2;refine FB<|Yv (Yv (Cp v3 ⋯ ⋯) (zX ⋯ ⋯ (Oo v3 ⋯ ⋯ h1 h2) (C5 h hp (λv mv=>hr v<|List.mem_of_mem_take<|List.mem_of_mem_drop mv) ?_)) ?_) (Gh v3 ⋯ h2) ?_
 . rw[List.length_drop,zzS];omega
 . rw[VO,List.length_drop,zzS,zzS];exact q0R hl h2 h1
 . rw[zzJ,VO,List.length_drop,zzS,zzS,List.length_drop];exact q0M hl h2 h1
def nv{a b:Nat}{R:List Int}{T:TZ}(h1:a<=b)(h2:b<=R.length):(R.take a++c.ap (some T) ((R.take b).drop a)++R.drop b).length=R.length:=by
 rw[zzJ,zzJ,VO,List.length_drop,zzS,zzS,List.length_drop];omega
def Tn{g:EF}{as as1:AS}{o:O}(h:g as=some (.ow o,as1)):zW g as=some (.nx as1):=by
 unfold zW;rw[h];rfl
def A4{as:AS}{i:Nat}{a b e:EF}{r s t:List Int}(h:as[i]? = some (sN<|GO rs))(hl:rs.length<900)(ha:WD a as true (ze r))(hb:WD b as true (ze s))(he:WD e as true (ze t)):zW (vL i (dC (zZ<|dC a<|dC b<|dC e dN) dN) S4) as=some (.nx<|as.set i<|sN<|GO<|rs++[r]++[s]++[t]):=by
 have w:=Ys (zH ha<|zH hb<|zH he yu)<|WY rfl;have d1:dC (zZ<|dC a<|dC b<|dC e dN) dN as=some ([.nd .ls [.lf true<|ze r,.lf true<|ze s,.lf true<|ze t]],as):=by
  show(zZ _ as).bind _=_;rw[w];rfl
 unfold zW vL;rw[h];rw[d1];show(Option.bind (match as[i]? with|some (some<|.nd .ls os)=>_|_=>none) _)=_;rw[h];show((S4 _ _).bind _).bind _=_;have e2:S4 (GO rs) [.nd .ls [.lf true<|ze r,.lf true<|ze s,.lf true<|ze t]]=some _:=if_pos (by rw[zzB,zzB];exact BR (by show rs.length+3<=_;omega));rw[e2];show some _=_;rw[show GO (rs++[r]++[s]++[t])=GO rs++[.lf true _,.lf true _,.lf true _] by unfold GO;rw[zyM,zyM,zyM,zyM,zyM,zyM,zxA,zxA];rfl]
abbrev V0(c:Cx)(ts:List D)(rs:TZ)(x:Int)(e4 e5 e6 e7 e8 e9 e10:Option O):AS:=[sT c.g,some<|yS c ts,sN<|GO rs,sI x,e4,e5,e6,e7,e8,e9,e10]
abbrev VZ(c:Cx)(ts:List D)(rs:TZ)(x:Int)(R:List Int)(k i j:Nat)(n:Str)(e9 e10:Option O):AS:=V0 c ts rs x (sT<|ze R) (sI k) (sI i) (sI j) (sT<|.str n) e9 e10
def JG(g:c.Gd){x:Int}(h:Lt c ts rs)(h1:1<=rs.length)(h2:rs.length<=200):∃ts' rs',Lt c ts' rs'/\rs.length<=rs'.length/\rs'.length<=rs.length+3/\wB [(true,c.g),(true,.int x)] (yS c ts) (.nd .ls<|GO rs)=some (.non,yS c ts',.nd .ls<|GO rs'):=by
 obtain⟨rs0,R,rfl⟩:∃l r,rs=l++[r]:=⟨rs.dropLast,rs.getLast (by intro z;rw[z]at h1;simp at h1),(List.dropLast_concat_getLast _).symm⟩;have ln:=h.ln;rw[zzJ]at ln h1 h2;have ln:ts.length=rs0.length+1:=ln;have h2:rs0.length+1<=200:=h2;obtain⟨d,R',g1,g2,g3,g4⟩:=h.get (k:=rs0.length) (by rw[zzJ];show _<_+1;omega);rw[lN]at g2;cases g2;have g5:c.In R:=g3.in g.ok;have n1:=g.ok.A.n1;have tl:ts.length<800:=by omega
 have rl:(rs0++[R]).length<900:=by rw[zzJ];show rs0.length+1<900;omega
 have s4:=zF (st:=true) (i:=4) (pP (as:=V0 c ts (rs0++[R]) x none none none none none none none) (i:=2) (rs:=rs0) rfl)<|zh rfl;have s5:=zF (st:=true) (i:=5) (Dd (as:=V0 c ts (rs0++[R]) x (sT<|ze R) none none none none none none) (i:=2) (k:=rs0.length) (rs:=rs0++[R]) rfl<|by rw[zzJ];rfl)<|zh rfl;obtain⟨i,j,b1,b2,pl⟩:=Sb (x/1000) R.length (by omega);have wl:WD (fP (aC zL aN) y4) (V0 c ts (rs0++[R]) x (sT<|ze R) (sI rs0.length) none none none none none) true (.int R.length):=So<|WD.e<|za (i:=4) (x:=ze R) rfl;have s6:=jt (i:=6) (j:=7) (yQ (WD.e<|xJ (za (as:=V0 c ts (rs0++[R]) x (sT<|ze R) (sI rs0.length) none none none none none) (i:=3) (x:=.int x) (s:=true) rfl) (zb (x:=.int 1000)) (by decide)<|zD (by decide)<|by decide) (WD.e wl) pl) (zh rfl)<|zh rfl;obtain⟨w,ew,hw⟩:=nk (x/7) c.Ds.length g.dd;obtain⟨p,hp⟩:∃p,c.Ds[w]? = some p:=⟨_,zzE hw⟩;have hp':=zyA hp;have v0:WD zm (V0 c ts (rs0++[R]) x (sT<|ze R) (sI rs0.length) (sI i) (sI j) none none none) true c.g:=za (i:=0) rfl;have w8:=zY (xJ (za (as:=V0 c ts (rs0++[R]) x (sT<|ze R) (sI rs0.length) (sI i) (sI j) none none none) (i:=3) (x:=.int x) (s:=true) rfl) (zb (x:=.int 7)) (by decide)<|zD (by decide)<|by decide) (mB v0) (by have:=g.dd;exact q0D this);rw[ew]at w8;have s8:=zF (st:=true) (i:=8) (vZ (g:=zv) (z:=.str p.1) (qO v0 w8 hp) (zb (x:=.int 0)) rfl)<|zh rfl;have v3:∀ts rs e9 e10,WD zB (VZ c ts rs x R rs0.length i j p.1 e9 e10) true (.int x):=λ_ _ _ _=>za (i:=3) rfl;have v4:∀ts rs e9 e10,WD zL (VZ c ts rs x R rs0.length i j p.1 e9 e10) true (ze R):=λ_ _ _ _=>za (i:=4) rfl;have v5:∀ts rs e9 e10,WD yN (VZ c ts rs x R rs0.length i j p.1 e9 e10) true (.int rs0.length):=λ_ _ _ _=>za (i:=5) rfl;have v6:∀ts rs e9 e10,WD xm (VZ c ts rs x R rs0.length i j p.1 e9 e10) true (.int i):=λ_ _ _ _=>za (i:=6) rfl;have v7:∀ts rs e9 e10,WD YO (VZ c ts rs x R rs0.length i j p.1 e9 e10) true (.int j):=λ_ _ _ _=>za (i:=7) rfl;have v8:∀ts rs e9 e10,WD (fV 8) (VZ c ts rs x R rs0.length i j p.1 e9 e10) true (.str p.1):=λ_ _ _ _=>za (i:=8) rfl;have t0:∀z:Int,WT (fT<|f2 (f2 zB Zw zJ) (fC<|.int z)<|zw .Eq) (VZ c ts (rs0++[R]) x R rs0.length i j p.1 none none) (x%4==z):=λz=>eqT (zY (v3 _ _ _ _) (zb (x:=.int 4))<|by decide) zb rfl;have fin:∀{ts':List D}{rs':TZ}{rest:SF}{e9 e10:Option O},rest (VZ c ts (rs0++[R]) x R rs0.length i j p.1 none none)=some (.nx<|VZ c ts' rs' x R rs0.length i j p.1 e9 e10)->Z9=(zi (zr true 4<|f2 zA (f1 zz GJ) zv)<|zi (zr true 5<|f2 (fP Zk y4) zz xx)<|zi qA<|zi qX rest)->wB [(true,c.g),(true,.int x)] (yS c ts) (.nd .ls<|GO<|rs0++[R])=some (.non,yS c ts',.nd .ls<|GO rs'):=λ{ts' rs' rest e9 e10} hr he=>by
  have hv:Sz Z9 (V0 c ts (rs0++[R]) x none none none none none none none)=some (.non,VZ c ts' rs' x R rs0.length i j p.1 e9 e10):=by
   unfold Sz;rw[he,zt s4<|zt s5<|zt s6<|zt s8 hr];rfl
  unfold wB jO;rw[if_pos<|by exact⟨rfl,by show 1<=2;omega⟩];show(Sz Z9<|V0 c ts (rs0++[R]) x none none none none none none none).bind _=_;rw[hv];show(if(yS c ts').str=true/\(O.nd .ls<|GO rs').str=true then _ else _)=_;rw[if_pos ⟨Ub,X0 _⟩]
 have l1:∀r:List Int,(rs0++[R]).length<=(rs0++[R]++[r]).length/\(rs0++[R]++[r]).length<=(rs0++[R]).length+3:=λr=>by
  rw[zzJ (bs:=[r])];exact⟨zyW _,by show _+1<=_;omega⟩
 have t1:=t0 0;cases z0:x%4==0 with
 |true=>
  rw[z0]at t1;obtain⟨d',od,md⟩:=Ir g.ok g1 g3 (q0j g4) b1 (q1j b2) (by omega) hp';have sa:=Nr (i:=2) (rs:=rs0++[R]) rfl rl<|oO (as:=VZ c ts (rs0++[R]) x R rs0.length i j p.1 none none) (i:=0) (k:=4) (x:=6) (y:=7) (z:=8) g.ok hp' g5 (q0I g4) b1 b2 rfl rfl rfl rfl rfl;exact⟨_,_,h.snoc od (by rw[nv b1 b2];exact q0I g4),(l1 _).1,(l1 _).2,fin (yY t1<|zt sa<|Tn<|vX (i:=1) (c:=c) (ts:=ts) (m:="done") (g:=Za) rfl (by decide +kernel) (zd (v5 _ _ _ _)<|zd (v6 _ _ _ _)<|zd (v7 _ _ _ _)<|zd (v8 _ _ _ _) zq) rfl md) rfl⟩
 |false=>
  rw[z0]at t1;have t2:=t0 1;cases z1:x%4==1 with
  |true=>
   rw[z1]at t2;obtain⟨d',od,md⟩:=EE g.ok g1 g3 (q0j g4) b1 (q1j b2) (by omega);have sa:=Nr (i:=2) (rs:=rs0++[R]) (f:=Sd nB) (r:=R.take i++((R.take j).drop i).reverse++R.drop j) rfl rl (FB<|Yv (Yv (Cp (v4 _ _ _ _) (v6 _ _ _ _)<|by omega) (qj<|Oo (v4 ts (rs0++[R]) none none) (v6 _ _ _ _) (v7 _ _ _ _) b1 b2)<|by rw[List.length_reverse,List.length_drop,zzS,zzS];exact q0R g4 b2 b1) (Gh (v4 _ _ _ _) (v7 _ _ _ _) b2)<|by rw[zzJ,List.length_reverse,List.length_drop,zzS,zzS,List.length_drop];exact q0M g4 b2 b1);exact⟨_,_,h.snoc od (by rw[zzJ,zzJ,List.length_reverse,List.length_drop,zzS,zzS,List.length_drop];omega),(l1 _).1,(l1 _).2,fin (zp t1<|yY t2<|zt sa<|Tn<|vX (i:=1) (c:=c) (ts:=ts) (m:="turned") (g:=wb) rfl (by decide +kernel) (zd (v5 _ _ _ _)<|zd (v6 _ _ _ _)<|zd (v7 _ _ _ _) zq) rfl md) rfl⟩
  |false=>
   rw[z1]at t2;have t3:=t0 2;cases z2:x%4==2 with
   |true=>
    rw[z2]at t3;have la:((R.take j).drop i).length=j-i:=by rw[List.length_drop,zzS];omega
    have lb:(R.take i++R.drop j).length=i+(R.length-j):=by rw[zzJ,zzS,List.length_drop];omega
    have wL:∀e9 e10,WE q_ (VZ c ts (rs0++[R]) x R rs0.length i j p.1 e9 e10) (ze<|R.take i++R.drop j):=λ_ _=>Yv (Cp (v4 _ _ _ _) (v6 _ _ _ _)<|by omega) (Gh (v4 _ _ _ _) (v7 _ _ _ _) b2) (by rw[zzS,List.length_drop];omega);have s9:=yU (p:=9) (wL none none)<|zh rfl;obtain⟨a,ea,ha⟩:=nk (x/77) ((R.take i++R.drop j).length+1) (by omega);have wa:=zY (xJ (v3 ts (rs0++[R]) (sT<|ze<|R.take i++R.drop j) none) (zb (x:=.int 77)) (by decide)<|zD (by decide)<|by decide) (zM (So<|WD.e<|za (as:=VZ c ts (rs0++[R]) x R rs0.length i j p.1 (sT<|ze<|R.take i++R.drop j) none) (i:=9) (x:=ze<|R.take i++R.drop j) rfl)<|zb (x:=.int 1)) (by omega);rw[show x/77%(((R.take i++R.drop j).length:Int)+1)=a from ea]at wa;have s10:=zF (st:=true) (i:=10) wa<|zh rfl;generalize hQ:R.take i++R.drop j=Q at *;have v9:∀ts rs,WD (fV 9) (VZ c ts rs x R rs0.length i j p.1 (sT<|ze Q)<|sI a) true (ze Q):=λ_ _=>za (i:=9) rfl;have v10:∀ts rs,WD (fV 10) (VZ c ts rs x R rs0.length i j p.1 (sT<|ze Q)<|sI a) true (.int a):=λ_ _=>za (i:=10) rfl;have wM:∀ts rs,WE (Yk zL (oS xm) (oS YO) YF) (VZ c ts rs x R rs0.length i j p.1 (sT<|ze Q)<|sI a) (ze<|(R.take j).drop i):=λ_ _=>Oo (v4 _ _ _ _) (v6 _ _ _ _) (v7 _ _ _ _) b1 b2;have wN:WE o5 (VZ c ts (rs0++[R]) x R rs0.length i j p.1 (sT<|ze Q)<|sI a) (ze<|Q.take a++(R.take j).drop i++Q.drop a):=Yv (Yv (Cp (v9 _ _) (v10 _ _)<|(q0l ha)) (wM _ _)<|by rw[zzS];omega) (Gh (v9 _ _) (v10 _ _)<|(q0l ha)) (by rw[zzJ,zzS,la,List.length_drop];omega);have s11:=A4 (as:=VZ c ts (rs0++[R]) x R rs0.length i j p.1 (sT<|ze Q)<|sI a) (i:=2) (rs:=rs0++[R]) rfl rl (FB<|wM _ _) (v9 _ _)<|FB wN;obtain⟨d1,d2,o1,o2,mc⟩:=Jf g.ok g1 g3 (q0j g4) b1 b2 (by omega) tl;rw[hQ]at o2;have e1:(ts++[d1]++[d2])[ts.length+1]? = some d2:=by
     have:=lN (l:=ts++[d1]) (b:=d2)
     rwa [zzJ]at this
    have e2:(ts++[d1]++[d2])[ts.length]? = some d1:=hU lN;obtain⟨d3,o3,mp⟩:=IP (k:=ts.length+1) (q:=ts.length) (ts:=ts++[d1]++[d2]) (i:=a) g.ok e1 o2 (by omega) (by rw[zzJ,zzJ];show ts.length+1+1<900;omega) (q0l ha) e2 o1 (by omega);have L3:=((h.snoc o1<|by omega).snoc o2<|by omega).snoc o3 (by rw[zzJ,zzJ,zzS,la,List.length_drop];omega);have wk:∀ts rs (z:Nat),WD (f2 yN (fC<|.int z) zo) (VZ c ts rs x R rs0.length i j p.1 (sT<|ze Q)<|sI a) true (.int (rs0.length+z:Nat)):=λ_ _ z=>zM (v5 _ _ _ _)<|zb (x:=.int z);have c1:=Tn<|vX (as:=VZ c ts (rs0++[R]++[(R.take j).drop i]++[Q]++[Q.take a++(R.take j).drop i++Q.drop a]) x R rs0.length i j p.1 (sT<|ze Q)<|sI a) (i:=1) (c:=c) (ts:=ts) (m:="cut") (g:=Zy) rfl (by decide +kernel) (zd (v5 _ _ _ _)<|zd (v6 _ _ _ _)<|zd (v7 _ _ _ _) zq) rfl mc;have c2:=Tn<|vX (as:=VZ c (ts++[d1]++[d2]) (rs0++[R]++[(R.take j).drop i]++[Q]++[Q.take a++(R.take j).drop i++Q.drop a]) x R rs0.length i j p.1 (sT<|ze Q)<|sI a) (i:=1) (c:=c) (ts:=ts++[d1]++[d2]) (m:="put_in") (g:=x6) (xs:=[(true,.int (ts.length+1:Nat)),(true,.int a),(true,.int ts.length)]) rfl (by decide +kernel) (zd (wk _ _ 2)<|zd (v10 _ _)<|zd (wk _ _ 1) zq) (by rw[ln];rfl) mp;refine⟨_,_,L3, ?_, ?_,fin (zp t1<|zp t2<|yY t3<|zt s9<|zt s10<|zt s11<|zt c1 c2) rfl⟩
    . simp only[zzJ,List.length_singleton];omega
    . simp only[zzJ,List.length_singleton];omega
   |false=>
    rw[z2]at t3;have t4:WT (fT<|f2 xm (fP (aC zL aN) y4)<|zw .Lt) (VZ c ts (rs0++[R]) x R rs0.length i j p.1 none none) (decide ((i:Int)<R.length)):=xi (Bb (v6 _ _ _ _)<|So<|WD.e<|v4 _ _ _ _) rfl
    by_cases hi:i<R.length
    . rw[zyO<|(q0e hi)]at t4;have n8:=g.ok.A.n8;have wv:∀ts rs,WD Dj (VZ c ts rs x R rs0.length i j p.1 none none) true (.int<|x/5%c.n):=λts rs=>zY (xJ (v3 ts rs _ _) (zb (x:=.int 5)) (by decide)<|zD (by decide)<|by decide) (zV (g:=zv) (z:=.int c.n) (za (i:=0) (x:=c.g) (s:=true) rfl) (zb (x:=.int 0)) rfl rfl) (by omega);obtain⟨d',od,md⟩:=MC (v:=x/5%c.n) g.ok g1 g3 (q0j g4) (by omega) hi (Wn<|by omega);have wi:WD (f2 xm zz zo) (VZ c ts (rs0++[R]) x R rs0.length i j p.1 none none) true (.int (i+1:Nat)):=zM (v6 _ _ _ _)<|zb (x:=.int 1);have wL:WE (zZ<|dC (Sd Dj) dN) (VZ c ts (rs0++[R]) x R rs0.length i j p.1 none none) (ze [x/5%c.n]):=xG (os:=[VM<|x/5%c.n]) (zH (FB<|WD.e<|wv _ _) yu) (WY rfl) rfl rfl;have sa:=Nr (i:=2) (rs:=rs0++[R]) (r:=R.take i++[x/5%c.n]++R.drop (i+1)) rfl rl<|FB<|Yv (Yv (Cp (v4 ts (rs0++[R]) none none) (v6 _ _ _ _)<|(q0h hi)) wL (by rw[zzS];show _+1<=_;omega)) (Gh (v4 _ _ _ _) wi<|(q1f hi)) (by rw[zzJ,zzS,List.length_drop];show _+1+_<=_;omega);exact⟨_,_,h.snoc od (by rw[zzJ,zzJ,zzS,List.length_drop];show _+1+_<=_;omega),(l1 _).1,(l1 _).2,fin (zp t1<|zp t2<|zp t3<|yY t4<|zt sa<|Tn<|vX (i:=1) (c:=c) (ts:=ts) (m:="changed") (g:=xS) rfl (by decide +kernel) (zd (v5 _ _ _ _)<|zd (v6 _ _ _ _)<|zd (wv _ _) zq) rfl md) rfl⟩
    . rw[zyG<|by omega]at t4;exact⟨ts,rs0++[R],h,zzN _,by omega,fin (zp t1<|zp t2<|zp t3<|zp t4 rfl) rfl⟩
end
def F6{a b:EF}{as:AS}{r s:List Int}(ha:WE a as (ze r))(hb:WE b as (ze s))(hl:r.length+s.length<=100000):WE (f2 a b zo) as (ze<|r++s):=by
 have:=Fg ha hb (add_lists<|by rw[zzB,zzB];exact BR ⋯)
 rwa [<-zyM]at this
def gG{a:EF}{as:AS}{n:Nat}(hn:n<=1000)(h:WE a as (.int n)):WE (fP (aC a aN) qc) as (ze<|YQ n):=by
 have k:=ui (g:=qc) (zs:=(YQ n).map D.int) h (by
  show(if(0:Int)<=n/\_<=100000 then _ else _)=_;rw[if_pos ⋯,zyB];rfl)
 exact⟨_,k,X0 _,congrArg D.lst<|Qy _⟩
def HF{α β:Type}(f:α->β)(k:Nat)(l:List α):(List.replicate k<|l.map f).flatten=(List.replicate k l).flatten.map f:=by
 rw[List.map_flatten,List.map_replicate]
def A2{as:AS}{a b:EF}{r:List Int}{n:Nat}(n1:1<=n)(n8:n<=8)(ha:WE a as (ze r))(hb:WE b as (.int n))(hl:r.length<=59)(hr:∀v ∈ r,zT n v):∃s:List Int,s.length<=300/\(∀v ∈ s,zT n v)/\WE (Yk (f2 (f2 a (zZ<|dC zP dN) zo) (f2 (fP (aC b aN) qc) (fC<|.int 150) zR) zo) oN (oS<|fC<|.int 300) YF) as (ze s):=by
 have w1:WE _ as (ze<|r++[0]):=F6 ha (xG (zH zb yu) (WY rfl) rfl rfl) (by show _+1<=_;omega);have ln:(YQ n).length=n:=by rw[zzB,zyU]
 have w2:WE (f2 (fP (aC b aN) qc) (fC<|.int 150) zR) as (ze (List.replicate 150<|YQ n).flatten):=by
  have:=Fg (gG (by omega) hb) (WD.e<|zb)<|Bw (k:=150) ⟨by decide,by decide,by rw[zzB,ln];exact BR (by show n*150<=_;omega)⟩
  rwa [HF]at this
 have lf:(List.replicate 150<|YQ n).flatten.length<=1200:=by
  rw[List.length_flatten,List.map_replicate,ln,List.sum_replicate_nat];omega
 have w3:=F6 w1 w2 (by rw[zzJ];show _+1+_<=_;omega);refine⟨(r++[0]++(List.replicate 150<|YQ n).flatten).take 300,by rw[zzS];omega,λv mv=>?_, ?_⟩
 . rcases zzM.mp (List.mem_of_mem_take mv)with m|m
   . rcases zzM.mp m with m|m
     . exact hr v m
     . rw[zzR.mp m];exact⟨by decide,by omega⟩
   . obtain⟨l,hl,hv⟩:=List.mem_flatten.mp m;rw[(List.mem_replicate.mp hl).2]at hv;obtain⟨i,hi,rfl⟩:=zxB.mp hv;have:=List.mem_range.mp hi;exact⟨q0a,by omega⟩
 . have:=LV (g:=YF) (zs:=((r++[0]++(List.replicate 150<|YQ n).flatten).take 300).map D.int) w3 (fl:=oN) rfl (oK<|zb) (by
    show some _=_;unfold PF.cutD;rw[HT.Yn,HT.Qr,List.drop_zero,zzB,List.map_take]
    congr 2
    rcases Nat.le_total 300 (r++[0]++(List.replicate 150<|YQ n).flatten).length with h|h
    . rw[Nat.min_eq_left h]
    . rw[Nat.min_eq_right h,List.take_of_length_le (by rw[zzB];exact zzN _),List.take_of_length_le<|by rwa [zzB]])
   exact this
section
variable{c:Cx}{rs:TZ}{ts:List D}{ns:List Int}
abbrev L7(ns:List Int)(c:Cx)(ts:List D)(rs:TZ)(e3 e5 e6:Option O):AS:=[sT<|ze ns,sT c.g,some<|yS c ts,e3,sN<|GO rs,e5,e6]
abbrev ip:SF:=(zi oh
 qz)
abbrev iV:SF:=m3
def Hk{x:Int}{e3 e5 e6:Option O}{f:EF}{v:D}{ts':List D}{rs':TZ}(wx:WD f (L7 ns c ts rs e3 e5 e6) true (.int x))(hs:wB [(true,c.g),(true,.int x)] (yS c ts) (.nd .ls<|GO rs)=some (v,yS c ts',.nd .ls<|GO rs')):T_ 1 2 4 (aC zk<|aC zA<|aC zL<|aC f aN) wB (L7 ns c ts rs e3 e5 e6)=some (.ow<|.lf true v,L7 ns c ts' rs' e3 e5 e6):=by
 have hw:=zd wx zq;have hr:aC zk (aC zA<|aC zL<|aC f aN) (L7 ns c ts rs e3 e5 e6)=some ([.ow<|.lf true c.g,.bo 2,.bo 4,.ow<|.lf true<|.int x],L7 ns c ts rs e3 e5 e6):=by
  show(((aC f aN _).bind _).bind _).bind _=_;rw[hw];rfl
 unfold T_;rw[hr];show((wB [(true,c.g),(true,.int x)] _ _).bind _)=_;rw[hs];show(if(yS c ts').str=true/\(O.nd .ls _).str=true/\2≠4 then _ else _)=_;rw[if_pos ⟨Ub,X0 _,by decide⟩];rfl
def CO(g:c.Gd){as:AS}{k:Nat}{d:D}{R:List Int}{f b:EF}(e1:as[1]? = some (sT c.g))(e2:as[2]? = some (some<|yS c ts))(hf:WD f as true (.int k))(hb:WD b as true (ze R))(hk:ts[k]? = some d)(hd:OT c d R)(hl:R.length<=900):WT (ZP<|fT<|zg (aC zk<|aC (xB 2 Qe "walk" (aC f aN))<|aC b aN) wo) as false:=by
 obtain⟨w,w1,w2,w3⟩:=Cg g.ok hk hd hl;have ww:WD (xB 2 Qe "walk" _) as true w:=XM (g:=vS) e2 ⋯ rfl (zd hf zq) w1 w2;exact X6<|xi (E4 ⋯ ⋯ ⋯ w3) rfl
def A_(g:c.Gd)(h:Lt c ts rs)(h1:1<=rs.length)(h2:rs.length<=200){k:Nat}(hk:k<=100){e3 e6:Option O}:∃ts' rs',Lt c ts' rs'/\rs.length<=rs'.length/\rs'.length<=rs.length+3/\ip (L7 ns c ts rs e3 (sI k) e6)=some (.nx<|L7 ns c ts' rs' e3 (sI k) e6):=by
 obtain⟨x,_,wx⟩:=Vs ns hk;obtain⟨ts',rs',hL,l1,l2,hs⟩:=JG g h h1 h2;refine⟨ts',rs',hL,l1,l2, ?_⟩;have s1:=Tn<|Hk (wx (L7 ns c ts rs e3 (sI k) e6) _ rfl<|za (i:=5) rfl) hs;obtain⟨l,r,rfl⟩:∃l r,rs'=l++[r]:=⟨rs'.dropLast,rs'.getLast (by intro z;rw[z]at l1;have:rs.length<=0:=l1;omega),(List.dropLast_concat_getLast _).symm⟩;obtain⟨d,r',g1,g2,g3,g4⟩:=hL.get (by rw[zzJ];exact Nat.lt_succ_self _);rw[lN]at g2;cases g2;exact zt s1<|zp (CO g rfl rfl (Dd rfl<|by rw[zzJ];rfl) (pP rfl) g1 g3 ⋯) rfl
def Ji(g:c.Gd)(h:Lt c ts rs){k:Nat}(hk:k<rs.length){e3 e5:Option O}:iV (L7 ns c ts rs e3 e5<|sI k)=some (.nx<|L7 ns c ts rs e3 e5<|sI k):=by
 obtain⟨d,r,g1,g2,g3,g4⟩:=h.get hk;exact zp (CO g rfl rfl ⋯ (kY rfl ⋯ g2) g1 g3 ⋯) rfl
end
def JJ{L c:Int}(h0:0<=L)(h1:L<1000000)(h2:1<=c)(h3:c<1000000):OS [.int 0,.int L,.int c]=some (Rn c (Builtin.Range.rangeSize 0 L c).toNat):=if_pos ⟨rfl,h0,h1,h2,h3⟩
def Cd{as:AS}{a b:EF}{L c:Nat}(ha:WD a as true (.int L))(hb:WD b as true (.int c))(h1:L<1000000)(h2:1<=c)(h3:c<1000000):yt (aC zP<|aC a<|aC b aN) OS as=some (Rn (c:Int) (Builtin.Range.rangeSize 0 (L:Int) (c:Int)).toNat,as):=by
 have hw:=zd (zb (x:=.int 0))<|zd ha<|zd hb zq;have e:=JJ (L:=L) (c:=c) ⋯ ⋯ ⋯ ⋯;unfold yt;rw[hw,zyL,YH,zyL];show(OS [.int 0,.int L,.int c]).bind _=_;rw[e,zyL]
def Cc{c:Int}{n i:Nat}{x}(h:(Rn c n)[i]? = some x):x=(true,.int<|i*c)/\i<n:=by
 have l:(Rn c n).length=n:=by unfold Rn;simp
 have a:i<n:=by rw[<-l];exact(zzG.mp h).1
 unfold Rn at h;rw[zzI,List.getElem?_range a]at h;cases h;exact⟨rfl,a⟩
def J2{L c:Nat}(h:1<=c){i:Nat}(hi:i<(Builtin.Range.rangeSize 0 (L:Int) (c:Int)).toNat):i*c<L:=by
 unfold Builtin.Range.rangeSize at hi;rw[if_pos ⋯]at hi
 by_cases z:(0:Int)<L
 . rw[if_pos z]at hi;have h2:i<=((L:Int)-0-1)/c:=⋯;have h3:=(Int.le_ediv_iff_mul_le ⋯).mp h2;omega
 . rw[if_neg z]at hi;exact absurd hi (by simp)
def H9(ns:List Int)(hns:ns.length<=63):KB [(true,.lst<|ns.map .int)]=sT (.bl true):=by
 obtain⟨c,g,ra⟩:=rn ns;have wm:∀(as:AS) (i:Nat),as[i]? = some (sT c.g)->zg (aC (zg (aC (zg (aC (fV i) aN) Y8) aN)<|xR "Ways") aN) (xv "Makes") as=some (.ow<|yS c [],as):=λas i h=>Zr (y8 (xF (xF (WD.e<|za h)<|Jx g)<|A0 (S:=c.S) g.ok.A g.ok.L g.sl g.sn) zq) (by
  show xv "Makes" [(zC c.w||true,c.w)]=_;rw[zyD];exact Ag)
 have s1:(zr true 1<|zg vN WW) [sT<|ze ns,none,none,none,none,none,none]=some (.nx [sT<|ze ns,sT c.g,none,none,none,none,none]):=yU (p:=1) (xF (WD.e<|za (i:=0) rfl) ra)<|zh rfl;have s2:=vR (i:=2) (wm [sT<|ze ns,sT c.g,none,none,none,none,none] 1 rfl)<|zh rfl;obtain⟨x3,x30,w3⟩:=Vs ns (k:=13) (by decide);obtain⟨r0,r1,r2,rr⟩:=JQ (x:=x3) g.ok.A.n1 g.ok.A.n8;have wn:∀e3,WD (f2 zk zP zv) [sT<|ze ns,sT c.g,some<|yS c [],e3,none,none,none] true (.int c.n):=λ_=>zV (g:=zv) (z:=.int c.n) (za (i:=1) (x:=c.g) (s:=true) rfl) (zb (x:=.int 0)) rfl rfl;have s3:=yU (p:=3) (zX (WD.e<|w3 [sT<|ze ns,sT c.g,some<|yS c [],none,none,none,none] _ rfl<|zb (x:=.int 13)) (WD.e<|wn none) (WD.e<|zb (x:=.int 11)) rr)<|zh rfl;have t4:=eqT (zY (xJ (w3 [sT<|ze ns,sT c.g,some<|yS c [],sT<|ze r0,none,none,none] _ rfl<|zb (x:=.int 13)) (zb (x:=.int 11)) (by decide)<|zD (by decide)<|by decide) (zb (x:=.int 16))<|by decide) (zb (x:=.int 1)) rfl;obtain⟨r,rl,ri,s4⟩:∃r:List Int,r.length<=300/\(∀v ∈ r,zT c.n v)/\xl pK mC xj [sT<|ze ns,sT c.g,some<|yS c [],sT<|ze r0,none,none,none]=some (.nx [sT<|ze ns,sT c.g,some<|yS c [],sT<|ze r,none,none,none]):=by
  cases z:(x3/11%16==1)with
  |true=>
   rw[z]at t4;obtain⟨s,l1,l2,l3⟩:=A2 g.ok.A.n1 g.ok.A.n8 (WD.e<|za (i:=3) rfl) (WD.e<|wn _) r1 r2;exact⟨s,l1,l2,yY t4<|yU (p:=3) l3<|zh rfl⟩
  |false=>
   rw[z]at t4;exact⟨r0,by omega,r2,zp t4 rfl⟩
 have s5:=vR (i:=4) (Ys (zH (za (as:=[sT<|ze ns,sT c.g,some<|yS c [],sT<|ze r,none,none,none]) (i:=3) (x:=ze r) (s:=true) rfl) yu)<|WY rfl)<|zh rfl;obtain⟨d,o1,m1⟩:=HZ (s:=true) (ts:=[]) (r:=r) g.ok rl ri (by decide);have h0:Lt c [d] [r]:=⟨rfl,(λi e q he hq=>by
  cases i with
  |zero=>cases he;cases hq;exact o1
  |succ i=>cases he),(λq mq=>by rw[zzR.mp mq];exact q0I rl)⟩
 have s6:=Tn<|vX (as:=L7 ns c [] [r] (sT<|ze r) none none) (i:=2) (c:=c) (ts:=[]) (m:="made") (g:=vV) rfl (by decide +kernel) (y8 (Ed<|za (i:=3) (x:=ze r) (s:=true) rfl) zq) rfl m1;obtain⟨k,k9,hr⟩:∃k:Nat,k<=26/\yt pA J8 (L7 ns c [d] [r] (sT<|ze r) none none)=some (y9 14 k,L7 ns c [d] [r] (sT<|ze r) none none):=by
  have w1:=So<|WD.e<|za (as:=L7 ns c [d] [r] (sT<|ze r) none none) (i:=0) (x:=ze ns) rfl;have w2:=yw (g:=Gq) (zd w1<|zd (zb (x:=.int 40)) zq) rfl rfl;have w3:=yw (g:=Rc) (zd (zb (x:=.int 22))<|zd w2 zq) rfl rfl;generalize hm:(if(if(40:Int)<ns.length then(40:Int)else ns.length) > 22 then(if(40:Int)<ns.length then(40:Int)else ns.length)else 22)=M at w3;have m0:22<=M/\M<=40:=by
   rw[<-hm]
   split<;>split<;>omega
  have:=OB (zd (zb (x:=.int 14))<|zd w3 zq) (by omega) (by omega) (by omega) (by omega);exact⟨(M-14).toNat,by omega,this⟩
 obtain⟨as',hA,ts,rs,y5,rfl,hL,hK,hM⟩:=xa (g:=gN 5) (f:=ip) (λi as=>∃(ts:List D) (rs:TZ) (y5:Option O),as=L7 ns c ts rs (sT<|ze r) y5 none/\Lt c ts rs/\1<=rs.length/\rs.length<=3*i+1) (y9 14 k) 0 (L7 ns c [d] [r] (sT<|ze r) none none) (λi y as hy hI=>by
  obtain⟨ts,rs,y5,rfl,hL,hK,hM⟩:=hI;obtain⟨rfl,hi⟩:=xU hy;obtain⟨ts',rs',hL',l1,l2,hb⟩:=A_ (ns:=ns) (e3:=sT<|ze r) (e6:=none) g hL hK (by omega) (k:=14+i) (by omega);exact⟨_,rfl,_,hb,_,_,_,rfl,hL',by omega,by omega⟩) ⟨_,_,none,rfl,h0,zzN 1,zzN 1⟩
 have s7:=yC hr hA;have hl:(y9 14 k).length=k:=xg _ _;rw[hl]at hM;have wl:WD (fP (aC zL aN) y4) (L7 ns c ts rs (sT<|ze r) y5 none) true (.int rs.length):=D0 (i:=4) rfl;have wc:=zM (zb (x:=.int 1)) (xJ wl (zb (x:=.int 8)) (by decide)<|zD (by decide)<|by decide);rw[show(1:Int)+(rs.length:Int)/8=((1+rs.length/8:Nat):Int) by omega]at wc;have hr3:=Cd wl wc (by omega) (q0K hK) (by omega);obtain⟨as',hB,z6,rfl⟩:=xa (g:=gN 6) (f:=iV) (λi as=>∃z6:Option O,as=L7 ns c ts rs (sT<|ze r) y5 z6) (Rn ((1+rs.length/8:Nat):Int) (Builtin.Range.rangeSize 0 (rs.length:Int) ((1+rs.length/8:Nat):Int)).toNat) 0 (L7 ns c ts rs (sT<|ze r) y5 none) (λi y as hy hI=>by
  obtain⟨z6,rfl⟩:=hI;obtain⟨rfl,hi⟩:=Cc hy;refine⟨L7 ns c ts rs (sT<|ze r) y5<|sI (i*(1+rs.length/8):Nat), ?_,_,Ji g hL (k:=i*(1+rs.length/8))<|J2 (q0K hK) hi,_,rfl⟩;show some (L7 ns c ts rs (sT<|ze r) y5<|sI<|(i:Int)*((1+rs.length/8:Nat):Int))=_;rw[zzV]) ⟨_,rfl⟩
 have s8:=yC hr3 hB;exact j6 rfl<|zN rfl<|zc s1<|zc s2<|zc s3<|zc s4<|zc s5<|zc s6<|zc s7<|zc s8<|zE<|WD.e zb
end G46
end
end
open PySem PySem.W PyProof.Rows
set_option maxRecDepth 100000 in
set_option maxHeartbeats 0 in
theorem PySem.Challenge.cw_stretchdeeds_k46_walks_of_makes_holds : PySem.Challenge.rw_stretchdeeds_k46_walks_of_makes.Holds := by
 w_on;refine holds_law G46.ws λsaid=>?_
 refine holds_open (q:=G46.qv) (loose:=[]) (Xt:=G46.Xt) (XP:=XL G46.qv []) (Yf:=Hook.obs<|kHook G46.K G46.kA G46.kAe) (Ya:=Hook.val<|kHook G46.K G46.kA G46.kAe) (YP:=Hook.says<|kHook G46.K G46.kA G46.kAe) (N:=6000) G46.hl (Hook.of<|kHook G46.K G46.kA G46.kAe) (Hook.keeps<|kHook G46.K G46.kA G46.kAe) (λs e=>xl_of s (Bool.and_eq_true_iff.mp e).1) XL.keeps (by rfl) (by rfl) (by rfl) (λs e=>recFacts_of (Bool.and_eq_true_iff.mp e).2) (by rfl) (by first|assumption|decide +kernel) (by decide +kernel) G46.hbz ?hw ?hc
 (case hw=>w_witness2)
 k_fill
 refine G46.walk (l:=PySem.Challenge.rw_stretchdeeds_k46_walks_of_makes) rfl rfl (λw h Y=>W.kIn_of Y) G46.H9 ?F
 case F=>
  intro w mg fa h KX G hmg;refine G46.sZ (kd:=PF.kdL []<|PF.GA mg) h hmg λbase=>?_;constructor
  all_goals first|exact W.mg_none_of KX G (by k_is)|exact PF.qo KX G (by k_is) ⟨_,⟨_,_,_,_,_,_,_,_,_,rfl,by k_is,by k_is⟩,by k_is⟩|exact PF.pZ KX G (by k_is) (by k_is)|exact PF.n3 KX G (by k_is) (by k_is) (by k_is) (by k_is) ⟨_,⟨_,_,_,_,_,_,_,_,_,rfl,by k_is,by k_is⟩,by k_is⟩|exact PF.mK KX G (by k_is) (by k_is) (by k_is) (by k_is) (by k_is) (by k_is) (by k_is)|exact PF.kdN|exact PF.GC.int (W.mg_of KX G<|by k_is)
#print axioms PySem.Challenge.cw_stretchdeeds_k46_walks_of_makes_holds
