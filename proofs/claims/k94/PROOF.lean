import PyProof.Rows.All
import Wide.All
import OpenK.AllK
import PySem.Challenge.RW_stretchdeeds_k94_whole_one_row_by_two_ro
set_option Elab.async false
set_option linter.all false
set_option maxRecDepth 100000
set_option genSizeOf false
set_option compiler.extract_closed false
set_option bootstrap.genMatcherCode false
local macro_rules |`(⋯)=>`(by first|with_reducible rfl|assumption|omega|rfl|simp)
def zqa(x:String):Lean.MacroM (Lean.TSyntax `term):=match x with|"?"=>`(?_)|"_"=>`(_)|"a"=>`(by assumption)|"d"=>`(by decide)|"="=>`(rfl)|x=>return Lean.mkIdent x.toName
def zqb(s:String):Lean.MacroM (Lean.TSyntax `tactic):=do
 (s.splitOn ";").foldrM (fun z b=>do let w:=z.splitOn " ";let a<-(w.drop 1).toArray.mapM zqa;`(tactic| first|exact $(Lean.mkIdent (w.headD "").toName) $a*|$b:tactic)) (<-`(tactic| fail))
def zqc(s:String):Lean.MacroM (Lean.TSyntax `tactic):=do
 (s.splitOn ";").foldrM (fun z b=>do let w:=z.splitOn " ";let a<-(w.drop 1).toArray.mapM zqa;`(tactic| first|(with_reducible refine $(Lean.mkIdent (w.headD "").toName) $a*<;>exact ⋯)|$b:tactic)) (<-`(tactic| fail))
noncomputable section
def q0a{a:Nat}(h:a<=900):a<=1000:=by omega
def q0b{a:Nat}:(0:Int)<=(a:Int):=by omega
def q0c{a:Nat}(h:a<=40):a<=900:=by omega
def q0d{a:Nat}(h:a<700):a<900:=by omega
def q0e{a:Nat}(h:1<=a):(0:Int)<(a:Int):=by omega
def q0f{a b c:Nat}(h:a=b)(k:a<=c):b<=c:=by omega
def q0g{a:Nat}(h:1<=a):0<a:=by omega
def q0h{a b:Nat}(h:a<b):(a:Int)<(b:Int):=by omega
def q0i{a:Nat}:a<=a+1:=by omega
def q0j{a b:Nat}:a+(b+1)=a+1+b:=by omega
def q0k{a b c:Nat}:min (a-b) (c-b)<=c:=by omega
def q0l{a b c:Nat}(h:a<=900)(k:b<=a):min b a-c<=900:=by omega
def q0m{a:Int}(h:¬((0:Int)<=a)):a<(0:Int):=by omega
def q0n{a b:Nat}(h:a<=900):min b a<=900:=by omega
def q0o{a b:Nat}(h:a<b):a<=b:=by omega
def q0p{a b:Nat}(h:a<=900)(k:b<=a):a-b<=900:=by omega
def q0q{a b:Nat}(h:a<=b):(a:Int)<=(b:Int):=by omega
def q0r{a b:Nat}(h:¬(a<b)):b<=a:=by omega
def q0s{a b:Nat}(h:a+b<=1000):a<=1000:=by omega
def q0t{a b c:Nat}(h:1+max a b<c+1)(k:a<=b+1)(h1:b<=a+1):b<c:=by omega
def q0u{a:Int}(h:(0:Int)<=a):(Int.toNat a:Int)=a:=by omega
def q0v{a b c:Nat}(h:1+max a b<c+1)(k:a<=b+1)(h1:b<=a+1):a<c:=by omega
def q0w{a b:Nat}(h:(a:Int)=(b:Int)):a=b:=by omega
def q0x{a b c:Nat}(h:a=16777216)(k:b=c)(h1:b<=a):(c:Int)<2^63:=by omega
def q0y{a b c:Nat}(h:a<=900)(k:b<=a)(h1:c<=b):min c a+(min b a-c)+(a-b)<=900:=by omega
def q0z{a:Nat}(h:2<=a):0<a:=by omega
def q0A{a b c:Nat}(h:a<=900)(k:b<=a)(h1:c<=b):min c a+(min b a-c)+(a-b)<=1000:=by omega
def q0B{a b c:Nat}(h:a=b)(k:¬(c<b)):b<=c:=by omega
def q0C{a b c:Nat}(h:a<=b)(k:b<=c):a<=c:=by omega
def q0D{a b:Nat}:a+1+b=a+(b+1):=by omega
def q0E{a b c:Nat}(h:a+b=c)(k:b<c):a-1+(b+1)=c:=by omega
def q0F{a b:Nat}(h:a<b):(a:Int)<=(b:Int)-(1:Int):=by omega
def q0G{a b:Nat}(h:0<a)(k:b<=a-1):b<a:=by omega
def q0H{a b c:Nat}(h:a+b=c)(k:b<c):a-1<a:=by omega
def q0I{a b:Nat}(h:a<=1):b+a+1<=b+2:=by omega
def q0J{a b c d:Nat}(h:a=b)(k:b<=c)(h1:c<=d)(h2:d<=40):b+(c-b)+(d-c)<=40:=by omega
def q0K{a b c d:Nat}(h:a=b)(k:b<=c)(h1:c<=d)(h2:d<=40):b+(c-b)+(d-c)<=1000:=by omega
def q0L{a b:Nat}(h:a<=b):a+(b-a)<=b:=by omega
def q0M{a b c:Nat}(h:a+3*(b+1)+5<c):a+1+3*b+5<c:=by omega
def q0N{a:Nat}(h:1<=a)(k:a<=8):(0:Int)<=(a:Int):=by omega
def q0O{a b:Nat}(h:a<=b+1)(k:b<=a+1):¬(1+max a b=0):=by omega
def q0P{a b c d e:Nat}(h:a<=40)(k:b<=c)(h1:c<=a)(h2:d=b)(h3:e=a-c):b+(c-b)<=1000:=by omega
def q0Q{a:Nat}(h:a=3):1<a:=by omega
def q0R{a:Nat}(h:a=3):2<a:=by omega
def q0S{a b:Nat}(h:a+100<b):a+1+50<b:=by omega
def q0T{a b:Nat}(h:a<b):a+1<=b:=by omega
def q0U{a:Nat}(h:a<=40):a<=300:=by omega
def q0V{a b:Nat}(h:a+100<b):a+60<b:=by omega
def q0W{a b c:Nat}(h:a<b)(k:c<=a+1):c<=b:=by omega
def q0X{a b:Nat}(h:a+1<b):b≠0:=by omega
def q0Y{a:Nat}(h:1<=a)(k:a<=8):(a:Int)<(1000000:Int):=by omega
def q0Z{a b:Nat}(h:a<=b):a<=b+1:=by omega
def q1a{a b:Nat}(h:a+b<=1000):b<=1000:=by omega
def q1b{a:Nat}{b:Int}:(1:Int)+((a:Int)+b/(3:Int))%(8:Int)<=(8:Int):=by omega
def q1c{a:Nat}(h:a<900):a<1000:=by omega
def q1d{a b:Int}(h:a<=b)(k:b<=a):a=b:=by omega
def q1e{a b:Nat}:max a b<=1+max a b:=by omega
def q1f{a b:Nat}(h:a=b+2):a≠0:=by omega
def q1g{a b c:Nat}(h:a<b)(k:a=c):c<=b:=by omega
def q1h{a b c:Nat}(h:a+1=b)(k:b<=c):a+1<=c:=by omega
def q1i{a b:Nat}:1+max a b<=1+max a b:=by omega
def q1j{a b c:Nat}(h:a+b=c)(k:¬(b<c)):c<=b:=by omega
def q1k{a:Nat}{b:Int}:(1:Int)<=(1:Int)+((a:Int)+b/(3:Int))%(8:Int):=by omega
def q1l{a b c d:Nat}(h:a=b)(k:b<=c)(h1:c<=d):b<=d:=by omega
def q1m{a b:Nat}(h:a<=b+1)(k:b<=a+1)(h1:¬(a<=b)):a=b+1:=by omega
def q1n{a:Int}{b:Nat}(h:(0:Int)<=a%(3:Int))(k:(b:Int)=(1:Int)+a%(3:Int)):1<=b:=by omega
def q1o{a:Nat}(h:1<=a)(k:a<=100):a<900:=by omega
def q1p{a b:Nat}(h:a+b<=1000):a+b<=1000000:=by omega
def q1q{a b c:Nat}(h:a=b)(k:b<=c):a<=c:=by omega
def q1r{a:Int}{b:Nat}(h:(0:Int)<=a%(3:Int))(k:(b:Int)=(1:Int)+a%(3:Int)):b<=6:=by omega
def q1s{a b:Nat}(h:¬(a+1<b))(k:¬(b+1<a)):a<=b+1:=by omega
def q1t{a:Int}{b c d:Nat}(h:(0:Int)<=a%(3:Int))(k:(b:Int)=(1:Int)+a%(3:Int))(h1:c<b)(h2:d=3):c<d:=by omega
def q1u{a c d:Nat}{b:Int}(h:-(a:Int)<=b)(k:a=c)(h1:a<=d)(h2:d<2^63):-2^63<=b:=by omega
def q1v{a b c d e:Nat}(h:a+1<b)(k:a<c+1)(h1:b<c+1)(h2:b=1+max d e):a<c:=by omega
def q1w{a:Nat}(h:a<=8):(0:Int)<=(a:Int):=by omega
def q1x{a:Int}{b c d:Nat}(h:a<(b:Int))(k:b=c)(h1:b<=d)(h2:d<2^63):a<2^63:=by omega
def q1y{a:Nat}(h:a<=1000):a<=1000000:=by omega
def q1z{a b:Nat}(h:a<=b+1)(k:b<=a+1)(h1:¬(a<=b)):a≠0:=by omega
def q1A{a:Int}(h:(0:Int)<=a)(k:a<(2147483629:Int)):-10^200<a:=by omega
def q1B{a b:Nat}(h:a<=b+2)(k:b<=a+2)(h1:¬(a+1<b))(h2:¬(b+1<a)):a<=b+1:=by omega
def q1C{a:Nat}(h:2<=a):(0:Int)<(a:Int):=by omega
def q1D{a b:Int}(h:(1:Int)+a/(3:Int)%(8:Int)=b)(k:(0:Int)<=a/(3:Int)%(8:Int)):(0:Int)<b:=by omega
def q1E{a:Int}(h:(0:Int)<=a)(k:a<(2147483647:Int)):-10^200<a:=by omega
def q1F{a:Int}(h:(0:Int)<=a)(k:a<(2147483629:Int)):a<10^200:=by omega
def q1G{a:Int}(h:(0:Int)<=a)(k:a<(2147483647:Int)):a<10^200:=by omega
def q1H{a b:Nat}(h:a=16777216)(k:b<=a):¬(2^63<=(b:Int)):=by omega
def q1I{a b:Nat}(h:a=16777216)(k:b<=a):b<=1099511627776:=by omega
abbrev zzA:=PySem.W.Frag
abbrev zzB:=@List.length_map
abbrev zzC:=@List.mem_cons
abbrev zzD:=@List.mem_cons_of_mem
abbrev zzE:=@List.getElem?_eq_getElem
abbrev zzF:=@List.mem_cons_self
abbrev zzG:=@List.getElem?_eq_some_iff
abbrev zzH:=@List.size_toArray
abbrev zzI:=@List.getElem?_map
abbrev zzJ:=@List.length_append
abbrev zzK:=@Nat.lt_of_lt_of_le
abbrev zzL:=@List.mem_append_right
abbrev zzM:=@List.mem_append
abbrev zzN:=@Nat.le_refl
abbrev zzO:=@Nat.le_trans
abbrev zzP:=@List.mem_append_left
abbrev zzQ:=@Nat.ne_of_lt
abbrev zzR:=@List.mem_singleton
abbrev zzS:=@List.length_take
abbrev zzT:=@List.length_cons
abbrev zzU:=@List.length_set
abbrev zzV:=@List.nodup_cons
abbrev zzW:=@Option.map_eq_some_iff
abbrev zzX:=@List.getElem?_set_ne
abbrev zzY:=@Option.some.inj
abbrev zzZ:=@List.mem_of_getElem?
abbrev zyA:=@List.map_map
abbrev zyB:=@Bool.and_eq_true
abbrev zyC:=@Bool.or_true
abbrev zyD:=@List.append_nil
abbrev zyE:=@List.getD_eq_getElem?_getD
abbrev zyF:=@decide_eq_false
abbrev zyG:=@Int.emod_lt_of_pos
abbrev zyH:=@Int.toNat_natCast
abbrev zyI:=@List.nodup_nil
abbrev zyJ:=@List.getElem?_set_self
abbrev zyK:=@Option.bind_some
abbrev zyL:=@List.map_append
abbrev zyM:=@Int.emod_nonneg
abbrev zyN:=@decide_eq_true
abbrev zyO:=@List.getElem?_append_left
abbrev zyP:=@List.drop_eq_getElem_cons
abbrev zyQ:=@List.getElem?_append_right
abbrev zyR:=@List.map_cons
abbrev zyS:=@Array.length_toList
abbrev zyT:=@List.length_range
abbrev zyU:=@Bool.false_ne_true
abbrev zyV:=@Nat.le_succ
abbrev zyW:=@Nat.zero_add
abbrev zyX:=@Int.toNat_of_nonneg
abbrev zyY:=@List.getElem_mem
abbrev zyZ:=@Nat.lt_succ_of_lt
abbrev zxA:=@List.not_mem_nil
abbrev zxB:=@List.append_assoc
abbrev zxC:=@List.mem_map
abbrev zxD:=@List.nodup_append
abbrev zxE:=@PySem.wpAny_bind
abbrev zxF:=@PySem.wpAny_pure
abbrev zxG:=@PySem.Heap.get?_push_of_some
abbrev zxH:=@PySem.Heap.lt_size
abbrev zxI:=@PySem.Heap.get?_push_size
abbrev zxJ:=@PySem.wpAny_holding
abbrev zxK:=@PySem.Heap.size_push
abbrev zxL:=@PySem.wpAny_mono
abbrev zxM:=@PySem.wpAny_call_entry
section
namespace L2
open PySem PySem.Spec PyProof.Rows
abbrev Key:=Sum Int Str
def Km:Key->Value->Bool
 | .inl k,v=>Value.isInt k v
 | .inr x,v=>Value.isStrOf x v
def jn(w:World):Key->Int
 | .inl k=>hashInt k
 | .inr x=>hashStr w x
def yS:∀{k:Key}{v:Value},Km k v=true->(∃i t,k=Sum.inl i/\v=Value.int i t)\/(∃x t,k=Sum.inr x/\v=Value.str x t)
 | .inl i,v,h=>by
  obtain⟨t,e⟩:=Value.isInt_shape h;exact .inl ⟨i,t,rfl,e⟩
 | .inr x,v,h=>by
  obtain⟨t,e⟩:=Value.isStrOf_shape h;exact .inr ⟨x,t,rfl,e⟩
def Hj(i)(t):Km (.inl i) (.int i t)=true:=by simp[Km,Value.isInt]
def SR(x)(t):Km (.inr x) (.str x t)=true:=by simp[Km,Value.isStrOf]
def tQ(a b):decide ((Sum.inl a:Key)=Sum.inl b)=(a==b):=by
 by_cases e:a=b
 . subst e;simp
 . have h:¬(Sum.inl a:Key)=Sum.inl b:=λq=>e<|Sum.inl.inj q;rw[zyF h];exact(beq_eq_false_iff_ne.mpr e).symm
def qN(a b):decide ((Sum.inr a:Key)=Sum.inr b)=decide (a=b):=⋯
def qX(a)(b):decide ((Sum.inl a:Key)=Sum.inr b)=false:=⋯
def tI(a)(b):decide ((Sum.inr a:Key)=Sum.inl b)=false:=⋯
def yB(prog:Program)(w:World):PySem.KeyKind prog w Key where
 is:=Km
 hash:=jn w
 inj:=λv a b ha hb=>by
  rcases yS ha with⟨i,t,rfl,rfl⟩|⟨x,t,rfl,rfl⟩
  . rcases yS hb with⟨j,u,rfl,e⟩|⟨y,u,rfl,e⟩
    . injection e with e1 _;rw[e1]
    . exact nomatch e
  . rcases yS hb with⟨j,u,rfl,e⟩|⟨y,u,rfl,e⟩
    . exact nomatch e
    . injection e with e1 _;rw[e1]
 byValue:=λk v h=>by
  rcases yS h with⟨i,t,rfl,rfl⟩|⟨x,t,rfl,rfl⟩<;>rfl
 pyHash:=λhv h=>by
  rcases yS hv with⟨i,t,rfl,rfl⟩|⟨x,t,rfl,rfl⟩
  . exact wpAny_pyHash_int h
  . exact wpAny_pyHash_str h
 eqBool:=λhu hv h=>by
  rcases yS hu with⟨i,t,rfl,rfl⟩|⟨x,t,rfl,rfl⟩
  . rcases yS hv with⟨j,u,rfl,rfl⟩|⟨y,u,rfl,rfl⟩
    . rw[tQ]at h;exact wpAny_eqBool_int h
    . rw[qX]at h;exact SeqAt.EqAt.int_str i t y u _ _ _ _ h
  . rcases yS hv with⟨j,u,rfl,rfl⟩|⟨y,u,rfl,rfl⟩
    . rw[tI]at h;exact SeqAt.EqAt.str_int x t j u _ _ _ _ h
    . rw[qN]at h;exact wpAny_eqBool_str h
 «strs» := λk x t v h=>by
  rcases yS h with⟨i,u,rfl,e⟩|⟨y,u,rfl,e⟩
  . exact nomatch e
  . injection e with e1 _
    subst e1;cases v<;>rfl
def MW(prog)(w)(i)(t):(yB prog w).is (.inl i) (.int i t)=true:=Hj i t
def Wk(prog)(w)(x)(t):(yB prog w).is (.inr x) (.str x t)=true:=SR x t
end L2
namespace L2
open PySem PySem.Spec PyProof.Rows
inductive V where
 |non|bl (b:Bool)|int (i:Int)|str (x:Str)|byt (b:Array UInt8)|flt (b:UInt64)|ref (a:Addr)|ty (n:String)
 deriving DecidableEq
def RelV:V->Value->Prop
 | .non,u=>u=Value.none
 | .bl b,u=>u=Value.bool b
 | .int i,u=>∃t,u=Value.int i t
 | .str x,u=>∃t,u=Value.str x t
 | .byt b,u=>∃t,u=Value.bytes b t
 | .flt b,u=>∃t,u=Value.float b t
 | .ref a,u=>u=Value.ref a
 | .ty n,u=>u=Value.type n
abbrev zQ:List V->List Value->Prop:=Paired RelV
theorem zQ.length(r:zQ xs us):xs.length=us.length:=Paired.length r
theorem zQ.get:∀{xs:List V}{us:List Value}{i:Nat}{x:V},zQ xs us->xs[i]? = some x->∃u,us[i]? = some u/\RelV x u
 |_,_,_,_,.nil,e=>by simp at e
 |_,_,0,_,.cons r _,e=>by simp at e;subst e;exact⟨_,rfl,r⟩
 |_,_,i+1,x,.cons _ t,e=>by
  obtain⟨u,h1,h2⟩:=zQ.get t (by simpa using e);exact⟨u,by simpa using h1,h2⟩
theorem zQ.set(r:RelV x u):∀{xs:List V}{us:List Value}(i:Nat),zQ xs us->zQ (xs.set i x) (us.set i u)
 |_,_,_,.nil=>.nil
 |_,_,0,.cons _ t=>.cons r t
 |_,_,i+1,.cons q t=>.cons q<|zQ.set r i t
theorem zQ.append:∀{xs ys:List V}{us ws:List Value},zQ xs us->zQ ys ws->zQ (xs++ys) (us++ws)
 |_,_,_,_,.nil,s=>s
 |_,_,_,_,.cons r t,s=>.cons r<|zQ.append t s
theorem zQ.take:∀{xs:List V}{us:List Value}(n:Nat),zQ xs us->zQ (xs.take n) (us.take n)
 |_,_,0,_=>.nil
 |_,_,_+1,.nil=>.nil
 |_,_,n+1,.cons r t=>.cons r<|zQ.take n t
theorem zQ.drop:∀{xs:List V}{us:List Value}(n:Nat),zQ xs us->zQ (xs.drop n) (us.drop n)
 |_,_,0,r=>r
 |_,_,_+1,.nil=>.nil
 |_,_,n+1,.cons _ t=>zQ.drop n t
def VW:Option V->Option Value->Prop
 |some v,some u=>RelV v u
 |none,none=>True
 |_,_=>False
def KV{κ:Type}:List (κ×V)->List (κ×Value)->Prop:=Paired λ(p:κ×V) (q:κ×Value)=>p.1=q.1/\RelV p.2 q.2
def kV:Key->V
 | .inl i=>.int i
 | .inr x=>.str x
inductive HO where
 |lst (xs:List V)
 |tup (xs:List V)
 |dK (kvs:List (Key×V))|dT (kvs:List (List Key×V))
 |set (S:Int->Bool) (n:Nat)
 |ins (C dx:Addr) (fs:List (Str×V))
 |own (x:Addr)
 |xd (fs:List (Str×V))
 |met (f x:Addr)
 |rng (lo hi:Int)
 |frz (o:Obj) (u:HO)
 |tbl (ps:Array Value)
 |ext (φ:Heap->Prop)
abbrev Hp:=Addr->Option HO
def upd(H:Hp)(a:Addr)(o:HO):Hp:=λb=>if b=a then some o else H b
def z8:upd H a o a=some o:=by unfold upd;rw[if_pos rfl]
def zF(h:b≠a):upd H a o b=H b:=by unfold upd;rw[if_neg h]
def oI{H:Hp}{a b o u}(h:H a=some o)(h':H b=some u)(d:o≠u):a≠b:=by
 intro e;subst e;rw[h]at h';exact d<|zzY h'
def zY{H:Hp}{a b o}(h:H a=some o)(h':H b=none):a≠b:=by
 intro e;subst e;rw[h]at h';cases h'
section
variable(P:Program)(w:World)
def xY(H:Hp)(h:Heap)(a:Addr):HO->Prop
 | .lst xs=>xs.length<=sizeLine/\∃(its:List Value) (n:Nat),zQ xs its/\h.get? a=some {cls:=.type "list",data:=.seq its.toArray n}
 | .tup xs=>xs.length<=sizeLine/\∃its:List Value,zQ xs its/\IsTup h a its.toArray
 | .dK kvs=>kvs.length<=sizeLine/\(a==sysModules)=false/\∃vs,KV kvs vs/\h.DictOf (yB P w) a vs
 | .dT kvs=>kvs.length<=sizeLine/\(a==sysModules)=false/\∃xs:List (List Key×Addr×Value),
  Paired (λ(p:List Key×V) (q:List Key×Addr×Value)=>p.1=q.1/\H q.2.1=some (.tup<|p.1.map kV)/\RelV p.2 q.2.2) kvs xs/\
  ∃o es ep,h.get? a=some o/\o.ExactDict/\o.data = .dict es ep/\es.toList=xs.map (entryOfKey<|tupleKind<|yB P w)/\(xs.map (·.1)).Nodup
 | .set S n=>h.SetOf (intKind P w) a S n
 | .ins C dx fs=>H dx=some (.own a)/\fs.length<=1000/\dx≠a/\h.get? a=some (W.instObj C dx)/\
  ∃mA,h.Ns1 dx mA/\(∀f,VW (fs.lookup f)<|mA f)/\PySem.Within mA (fs.map (·.1))
 | .own _=>∃o,h.get? a=some o
 | .xd fs=>∃mA,h.Ns1 a mA/\∀f,VW (fs.lookup f)<|mA f
 | .rng lo hi=>∃t u v,h.get? a=some {cls:=.type "range",data:=.fields #[.int lo t,.int hi u,.int 1 v]}
 | .frz o u=>h.get? a=some o/\xY H h a u
 | .tbl ps=>h.get? a=some {cls:=.none,data:=.fields ps}
 | .met f x=>h.get? a=some (W.methodObj (.ref f)<|.ref x)
 | .ext φ=>φ h/\(∃o,h.get? a=some o)/\∀h1 h2:Heap,φ h1->(∀o,h1.get? a=some o->h2.get? a=some o)->φ h2
def Qa(H:Hp)(h:Heap):Prop:=∀a o,H a=some o->xY P w H h a o
end
section
variable{P:Program}{w:World}{H H':Hp}{h h':Heap}{a:Addr}{o:HO}
theorem xY.lt(x:xY P w H h a o):a<h.objs.size:=by
 cases o with
 |lst xs=>obtain⟨_,_,_,_,e⟩:=x;exact zxH e
 |tup xs=>obtain⟨_,_,_,p⟩:=x;exact p.lt
 |dK kvs=>obtain⟨_,_,_,_,o,_,_,e,_⟩:=x;exact zxH e
 |dT kvs=>obtain⟨_,_,_,_,o,_,_,e,_⟩:=x;exact zxH e
 |set S n=>obtain⟨o,_,_,_,e,_⟩:=x;exact zxH e
 |ins C dx fs=>obtain⟨_,_,_,e,_⟩:=x;exact zxH e
 |own y=>obtain⟨_,e⟩:=x;exact zxH e
 |xd fs=>obtain⟨_,⟨_,_,_,e,_⟩,_⟩:=x;exact zxH e
 |rng lo hi=>obtain⟨_,_,_,e⟩:=x;exact zxH e
 |frz ob u=>obtain⟨e,_⟩:=x;exact zxH e
 |tbl ps=>exact zxH (x)
 |met f y=>exact zxH (x)
 |ext φ=>obtain⟨_,⟨_,e⟩,_⟩:=x;exact zxH e
theorem Paired.mapP:∀{l₁:List α}{l₂:List β},Paired F l₁ l₂->(∀a b,F a b->G a b)->Paired G l₁ l₂
 |_,_,.nil,_=>.nil
 |_,_,.cons r t,f=>.cons (f _ _ r)<|Paired.mapP t f
def xY.stay(x:xY P w H h a o)(k:∀b u,(b=a\/H b=some (.own a))->h.get? b=some u->h'.get? b=some u)
 (ho:∀b,H b=some (.own a)->H' b=some (.own a)) (ht:∀b xs,H b=some (.tup xs)->H' b=some (.tup xs)):xY P w H' h' a o:=by
 induction o with
 |lst xs=>obtain⟨z,its,n,r,e⟩:=x;exact⟨z,its,n,r,k _ _ (.inl rfl) e⟩
 |tup xs=>obtain⟨z,its,r,ob,e,c⟩:=x;exact⟨z,its,r,ob,k _ _ (.inl rfl) e,c⟩
 |dK kvs=>obtain⟨z,y,vs,r,ob,es,ep,e,c⟩:=x;exact⟨z,y,vs,r,ob,es,ep,k _ _ (.inl rfl) e,c⟩
 |dT kvs=>
  obtain⟨z,y,xs,r,ob,es,ep,e,c⟩:=x;exact⟨z,y,xs,Paired.mapP r λp q z=>⟨z.1,ht _ _ z.2.1,z.2.2⟩,ob,es,ep,k _ _ (.inl rfl) e,c⟩
 |set S n=>obtain⟨ob,es,ep,t,e,c⟩:=x;exact⟨ob,es,ep,t,k _ _ (.inl rfl) e,c⟩
 |ins C dx fs=>
  obtain⟨d,z,ne,e,mA,⟨od,es,ep,e2,c⟩,r⟩:=x;exact⟨ho _ d,z,ne,k _ _ (.inl rfl) e,mA,⟨od,es,ep,k _ _ (.inr d) e2,c⟩,r⟩
 |own y=>obtain⟨ob,e⟩:=x;exact⟨ob,k _ _ (.inl rfl) e⟩
 |xd fs=>obtain⟨mA,⟨od,es,ep,e,c⟩,r⟩:=x;exact⟨mA,⟨od,es,ep,k _ _ (.inl rfl) e,c⟩,r⟩
 |rng lo hi=>obtain⟨t,u,v,e⟩:=x;exact⟨t,u,v,k _ _ (.inl rfl) e⟩
 |frz ob u ih=>obtain⟨e,q⟩:=x;exact⟨k _ _ (.inl rfl) e,ih q⟩
 |tbl ps=>
  have e:=x;exact k a _ (.inl rfl) e
 |met f y=>
  have e:=x;exact k a _ (.inl rfl) e
 |ext φ=>obtain⟨p,⟨o,e⟩,st⟩:=x;exact⟨st _ _ p λo q=>k _ _ (.inl rfl) q,⟨o,k _ _ (.inl rfl) e⟩,st⟩
theorem Qa.lt(x:Qa P w H h)(e:H a=some o):a<h.objs.size:=(x a o e).lt
def Qa.fresh(x:Qa P w H h)(e:h.objs.size<=a):H a=none:=by
 cases q:H a with
 |none=>rfl
 |some u=>exact absurd (zzK (x.lt q) e) (Nat.lt_irrefl _)
def Qa.kept(x:Qa P w H h)(k:∀b u,h.get? b=some u->h'.get? b=some u):Qa P w H h':=λa o e=>
 (x a o e).stay (λb u _ q=>k b u q) (λ_ q=>q) λ_ _ q=>q
def Qa.laid(x:Qa P w H h)(k:∀b u,h.get? b=some u->h'.get? b=some u)(hp:h.objs.size<=a)(new:xY P w (upd H a o) h' a o):Qa P w (upd H a o) h':=λb u e=>by
 have hn:=x.fresh hp
 by_cases hb:b=a
 . subst hb;rw[z8]at e;cases e;exact new
 . rw[zF hb]at e;exact(x b u e).stay (λc v _ q=>k c v q) (λc q=>by rwa [zF<|zY q hn]) λc xs q=>by rwa [zF<|zY q hn]
end
def Rd(H:Hp)(a:Addr)(u:HO):Prop:=H a=some u\/∃o,H a=some (.frz o u)
def Rd.ok(r:Rd H a u)(x:Qa P w H h):xY P w H h a u:=by
 rcases r with r|⟨o,r⟩
 . exact x a u r
 . obtain⟨_,q⟩:=x a _ r;exact q
def nJ:Option HO->Prop
 |some (.lst _)=>True
 |some (.dK _)=>True
 |some (.dT _)=>True
 |some (.set _ _)=>True
 |some (.ins _ _ _)=>True
 |some (.ext _)=>True
 |_=>False
section
variable{P:Program}{w:World}{H:Hp}{h h':Heap}{x e:Addr}{o':HO}
def Qa.write(ok:Qa P w H h)(mu:nJ (H x))(he:e=x\/H e=some (.own x))(k:∀b u,b≠e->h.get? b=some u->h'.get? b=some u)(heo:∃u,h'.get? e=some u)
 (new:xY P w (upd H x o') h' x o'):Qa P w (upd H x o') h':=λb u q=>by
 have nown:∀c y,H c=some (.own y)->c≠x:=λc y r z=>by subst z;rwa [r]at mu
 have ntup:∀c xs,H c=some (.tup xs)->c≠x:=λc xs r z=>by subst z;rwa [r]at mu
 by_cases hb:b=x
 . subst hb;rw[z8]at q;cases q;exact new
 . rw[zF hb]at q
   by_cases hbe:b=e
   . have q':H b=some (.own x):=by
      rcases he with z|z
      . exact absurd (hbe.trans z) hb
      . rwa [hbe]
     rw[q]at q';cases q';obtain⟨v,hv⟩:=heo;exact⟨v,by rwa [hbe]⟩
   . refine(ok b u q).stay (λc v hc r=>k c v ?_ r) (λc r=>by rwa [zF<|nown c b r]) λc xs r=>by rwa [zF<|ntup c xs r]
     rcases hc with rfl|hc
     . exact hbe
     . rintro rfl
       rcases he with z|z
       . exact nown c b hc z
       . rw[hc]at z;cases z;exact hb rfl
end
structure Un(fs ex:List Addr)(H H':Hp)(h h':Heap):Prop where
 keep:∀b o,h.get? b=some o->H b=none->b ∉ fs->b ∉ ex->h'.get? b=some o
 slot:∀b o,h.get? b=some o->H b=none->b ∈ fs->b ∉ ex->∃sl,h'.get? b=some {o with slots:=sl}
 free:∀b o,h.get? b=some o->H b=none->b ∉ ex->H' b=none
 there:∀b o,h.get? b=some o->b ∉ ex->∃o',h'.get? b=some o'
 tups:∀b xs,H b=some (.tup xs)->H' b=some (.tup xs)
 frzs:∀b o u,H b=some (.frz o u)->H' b=some (.frz o u)
 tbls:∀b ps,H b=some (.tbl ps)->∃more,H' b=some (.tbl<|ps++more)
section
variable{fs fs' ex ex':List Addr}{H H1 H2:Hp}{h h1 h2 h':Heap}{a x e:Addr}{o:HO}
def Un.any(u:Un fs ex H H1 h h1)(q:h.get? b=some ob)(n:H b=none)(hx:b ∉ ex):∃sl,h1.get? b=some {ob with slots:=sl}:=by
 by_cases hb:b ∈ fs
 . exact u.slot b ob q n hb hx
 . exact⟨ob.slots,u.keep b ob q n hb hx⟩
def Un.kept(k:∀b u,h.get? b=some u->h'.get? b=some u):Un fs ex H H h h':=
 ⟨λb ob q _ _ _=>k b ob q,λb ob q _ _ _=>⟨ob.slots,k b ob q⟩,λ_ _ _ n _=>n,λb ob q _=>⟨ob,k b ob q⟩,λ_ _ q=>q,λ_ _ _ q=>q,λ_ ps q=>⟨#[],by rw[q];simp⟩⟩
def Un.refl:Un fs ex H H h h:=Un.kept λ_ _ q=>q
def Un.laid(k:∀b u,h.get? b=some u->h'.get? b=some u)(hp:h.objs.size<=a)(hn:H a=none):Un fs ex H (upd H a o) h h' where
 keep:=λb u q _ _ _=>k b u q
 slot:=λb u q _ _ _=>⟨u.slots,k b u q⟩
 free:=λb u q n _=>by rwa [zF<|zzQ<|zzK (zxH q) hp]
 there:=λb u q _=>⟨u,k b u q⟩
 tups:=λb xs q=>by rwa [zF<|zY q hn]
 frzs:=λb u xs q=>by rwa [zF<|zY q hn]
 tbls:=λb ps q=>⟨#[],by rw[zF<|zY q hn,q];simp⟩
def Un.write(mu:nJ (H x))(he:e=x\/H e=some (.own x))(k:∀b u,b≠e->h.get? b=some u->h'.get? b=some u)(heo:∃u,h'.get? e=some u):Un fs ex H (upd H x o) h h':=by
 have hx:∀b,H b=none->b≠x:=λb n z=>by subst z;rwa [n]at mu
 have hb:∀b,H b=none->b≠e:=λb n z=>by
  subst z
  rcases he with r|r
  . exact hx b n r
  . rw[n]at r;cases r
 have hm:∀b u,H b=some u->¬nJ (some u)->b≠x:=λb u q nm z=>by subst z;rw[q]at mu;exact nm mu
 refine⟨λb u q n _ _=>k b u (hb b n) q,λb u q n _ _=>⟨u.slots,k b u (hb b n) q⟩,λb u q n _=>by rw[zF<|hx b n];exact n,λb u q _=>?_,
  λb xs q=>by rw[zF<|hm b _ q λz=>z];exact q,λb u xs q=>by rw[zF<|hm b _ q λz=>z];exact q,λb ps q=>⟨#[],by rw[zF<|hm b _ q λz=>z,q];simp⟩⟩
 by_cases hbe:b=e
 . subst hbe;exact heo
 . exact⟨u,k b u hbe q⟩
end
def trk(h:Heap)(H:Hp):List Addr:=(List.range h.objs.size).filter λa=>(H a).isSome
def Hg(h:Heap)(H:Hp):Heap:=W.hideAll h<|trk h H
def HE(h)(H):(Hg h H).objs.size=h.objs.size:=W.hideAll_size _ _
def IK(e:h.get? b=some o)(n:H b=none):(Hg h H).get? b=some o:=
 W.hideAll_get _ e λhm=>by
  have q:=(List.mem_filter.mp hm).2;rw[n]at q;simp at q
def JA(e:(Hg h H).get? b=some o):h.get? b=some o/\H b=none:=by
 have e':h.get? b=some o:=W.of_hideAll _ e;refine⟨e', ?_⟩;cases q:H b with
 |none=>rfl
 |some x=>
  have hm:b ∈ trk h H:=List.mem_filter.mpr ⟨List.mem_range.mpr<|zxH e',by simp[q]⟩;have z:(Hg h H).get? b=none:=W.hideAll_none _ hm;rw[z]at e;cases e
end L2
namespace L2
open PySem PySem.Spec PyProof.Rows
structure Mod(K:zzA)(mg:Str->Option Value)(base:Heap):Prop where
 kin:K.In base
 glob:base.Ns mainGlobals mg
 blt:∃mb,base.Ns builtinsNs mb/\∀x:Str,x≠"__name__"->mb x=bootBuiltins x
 nolimit:base.NoLimit
structure Cx where
 prog:Program
 w:World
 K:zzA
 mg:Str->Option Value
 base:Heap
 A:Around
 N:List Str
 s₀:Shared
 H₀:Hp
 env:Env
 outer:List Env
 stack:List Env
 ex:List Addr
 fn:Str->Bool
 calm:Bool
 pn:List (Addr×Obj)
 xe:Value->Shared->Prop
def HX(l:List Env):List Addr:=l.filterMap (·.frame)
abbrev Cx.fs(X:Cx):List Addr:=HX X.outer
def kj(sc:Scope)(x:Str):Prop:=sc.names.lookup x=some .local\/sc.names.lookup x=some .cell\/sc.names.lookup x=some .free
def Loc(sc:Scope)(x:Str):Prop:=sc.names.lookup x=some .local\/sc.names.lookup x=some .cell
def Look(env:Env)(h:Heap)(m:Str->Option Value)(x:Str)(u:Value):Prop:=
 (env.kindOf x=some .local/\m x=some u)\/((env.kindOf x=some .cell\/env.kindOf x=some .free)/\∃c,env.cells.lookup x=some c/\h.IsCell c (some u))
structure Cx.Ok(X:Cx):Prop where
 mod:Mod X.K X.mg X.base
 kind:X.env.scope.kind = .function
 glob:X.env.globals=mainGlobals
 blt:X.env.builtins=builtinsNs
 above:X.s₀.heap.objs.size<=X.env.locals
 inj:∀x y c,X.env.cells.lookup x=some c->X.env.cells.lookup y=some c->x=y
 has:∀x,(X.env.kindOf x=some .cell\/X.env.kindOf x=some .free)->∃c,X.env.cells.lookup x=some c
 cab:∀x c,X.fn x=true->X.env.cells.lookup x=some c->X.s₀.heap.objs.size<=c
 hd:X.calm=true->X.A.handled=none
 frames:X.A.frames=some X.stack
 stk:X.stack=X.outer\/(X.stack=X.env::X.outer/\X.env.frame=some X.env.locals)
 exf:∀b ∈ X.ex,b≠X.env.locals/\∀x c,X.env.cells.lookup x=some c->c≠b
 bs:∀b o,X.base.get? b=some o->X.s₀.heap.get? b=some o/\X.H₀ b=none
 bsz:X.base.objs.size<=X.s₀.heap.objs.size
 noex:∀b o,X.base.get? b=some o->b ∉ X.ex
 exfs:∀b ∈ X.ex,b ∉ X.fs
 funs:X.s₀.heap.FunFrames X.base X.outer
 frf:∀b ∈ X.fs,X.H₀ b=none
structure Inv(X:Cx)(pins:List (Addr×Obj))(σ:List (Option V))(H:Hp)(s:Shared):Prop where
 ok:X.Ok
 os:s.os=X.s₀.os
 bare:AllBare s.gens
 base:Un X.fs X.ex X.H₀ H X.s₀.heap s.heap
 loc:∃m,s.heap.Ns X.env.locals m/\∀(i:Nat) (x:Str) (v:V),X.N[i]? = some x->σ[i]? = some (some v)->kj X.env.scope x->∃u,RelV v u/\Look X.env s.heap m x u
 cell:∀x c,X.env.cells.lookup x=some c->∃v,s.heap.IsCell c v
 free:H X.env.locals=none
 freeC:∀x c,X.env.cells.lookup x=some c->H c=none
 pin:∀p ∈ X.pn++pins,s.heap.get? p.1=some p.2/\H p.1=none/\p.1≠X.env.locals/\p.1 ∉ X.fs/\∀v,p.2.data ≠ .cell v
 hok:Qa X.prog X.w H s.heap
 len:σ.length=X.N.length
section
variable{X:Cx}{pins:List (Addr×Obj)}{σ:List (Option V)}{H H':Hp}{s:Shared}{h':Heap}
def Cx.Ok.nofr(ok:X.Ok)(e:X.base.get? b=some o):b ∉ X.fs:=λhb=>by
 have:=(ok.funs.mem hb).1;rw[e]at this;cases this
theorem Inv.bs(I:Inv X pins σ H s):∀b o,X.base.get? b=some o->s.heap.get? b=some o/\H b=none:=λb o e=>
 ⟨I.base.keep b o (I.ok.bs b o e).1 (I.ok.bs b o e).2 (I.ok.nofr e)<|I.ok.noex b o e,I.base.free b o (I.ok.bs b o e).1 (I.ok.bs b o e).2<|I.ok.noex b o e⟩
def Inv.bk(I:Inv X pins σ H s):∀b o,X.base.get? b=some o->s.heap.get? b=some o:=λb o e=>(I.bs b o e).1
theorem Inv.mod(I:Inv X pins σ H s):Mod X.K X.mg X.base:=I.ok.mod
def Inv.kIn(I:Inv X pins σ H s):X.K.In s.heap:=I.ok.mod.kin.keeps I.bk
theorem Inv.lt(I:Inv X pins σ H s):X.env.locals<s.heap.objs.size:=let⟨_,hn,_⟩:=I.loc;hn.lt
def Inv.sz(I:Inv X pins σ H s):X.s₀.heap.objs.size<=s.heap.objs.size:=zzO I.ok.above<|Nat.le_of_lt I.lt
def Inv.nofs(I:Inv X pins σ H s)(h:s.heap.objs.size<=a):a ∉ X.fs:=λhb=>by
 obtain⟨_,o,ho,_⟩:=I.ok.funs.mem hb;exact absurd (zzK (zxH ho)<|zzO I.sz h)<|Nat.lt_irrefl _
def Inv.cne(I:Inv X pins σ H s):∀x c,X.env.cells.lookup x=some c->c≠X.env.locals:=λx c e z=>by
 obtain⟨v,o,ho,hd⟩:=I.cell x c e;obtain⟨m,⟨o',es,ep,ho',hd',_⟩,_⟩:=I.loc;rw[z,ho']at ho;cases ho;rw[hd']at hd;cases hd
theorem Inv.funs(I:Inv X pins σ H s):s.heap.FunFrames X.base X.outer:=by
 have all:∀l,(∀b ∈ HX l,b ∈ X.fs)->X.s₀.heap.FunFrames X.base l->s.heap.FunFrames X.base l:=by
  intro l
  induction l with
  |nil=>intro _ _;trivial
  |cons env r ih=>
   intro hs hl;obtain⟨hk,⟨L,o,hf,hn,ho,hd⟩,hr⟩:=hl;have hL:=hs L (by unfold HX;rw[List.filterMap_cons,hf];exact zzF);obtain⟨sl,e⟩:=I.base.slot L o ho (I.ok.frf L hL) hL λz=>I.ok.exfs L z hL;exact⟨hk,⟨L,_,hf,hn,e,hd⟩,ih (λb hb=>hs b<|by unfold HX;rw[List.filterMap_cons,hf];exact zzD _ hb) hr⟩
 exact all X.outer (λ_ hb=>hb) I.ok.funs
theorem Inv.stack(I:Inv X pins σ H s):s.heap.FunFrames X.base X.stack:=by
 rcases I.ok.stk with e|⟨e,hf⟩
 . rw[e];exact I.funs
 . rw[e];obtain⟨m,hn,_⟩:=I.loc;refine .cons (by rw[I.ok.kind];decide) hf hn ?_ I.funs;exact Heap.get?_none_of_le<|zzO I.ok.bsz I.ok.above
def Inv.stkSub(I:Inv X pins σ H s):∀b ∈ HX X.stack,b ∈ X.env.locals::X.fs:=λb hb=>by
 rcases I.ok.stk with e|⟨e,hf⟩
 . rw[e]at hb;exact zzD _ hb
 . rw[e]at hb;unfold HX at hb
   rwa [List.filterMap_cons,hf]at hb
def Inv.stkFree(I:Inv X pins σ H s):∀b ∈ HX X.stack,H b=none:=λb hb=>by
 rcases zzC.mp (I.stkSub b hb)with e|hb
 . rw[e];exact I.free
 . obtain⟨_,o,ho,_⟩:=I.ok.funs.mem hb;exact I.base.free b o ho (I.ok.frf b hb) λz=>I.ok.exfs b z hb
def Inv.step{g'}{t':Nat}{d'}{ch:List Addr}(I:Inv X pins σ H s)
 (hch:∀b ∈ ch,(b ∈ X.ex\/X.s₀.heap.objs.size<=b)/\b≠X.env.locals/\(∀x c,X.env.cells.lookup x=some c->c≠b)/\∀p ∈ X.pn++pins,p.1≠b)
 (keep:∀b o,b≠X.env.locals->b ∉ X.fs->b ∉ ch->s.heap.get? b=some o->H b=none->h'.get? b=some o)
 (slot:∀b o,b≠X.env.locals->b ∈ X.fs->b ∉ ch->s.heap.get? b=some o->H b=none->∃sl,h'.get? b=some {o with slots:=sl}) (free:∀b o,b ∉ ch->s.heap.get? b=some o->H b=none->H' b=none)
 (there:∀b o,b ∉ ch->s.heap.get? b=some o->∃o',h'.get? b=some o')
 (tups:∀b xs,H b=some (.tup xs)->H' b=some (.tup xs)) (frzs:∀b o u,H b=some (.frz o u)->H' b=some (.frz o u)) (tbls:∀b ps,H b=some (.tbl ps)->∃more,H' b=some (.tbl<|ps++more))
 (ns:∀m,s.heap.Ns X.env.locals m->h'.Ns X.env.locals m) (hok:Qa X.prog X.w H' h') (hg:AllBare g'):
 Inv X pins σ H' {s with heap:=h',gens:=g',drawn:=d',toks:=t'}:=by
 have neL:∀b o,X.s₀.heap.get? b=some o->b≠X.env.locals:=λb o e=>zzQ<|zzK (zxH e) I.ok.above;have neC:∀b o,X.s₀.heap.get? b=some o->b ∉ X.ex->b ∉ ch:=λb o e hx hb=>by
  rcases(hch b hb).1 with z|z
  . exact hx z
  . exact absurd (zzK (zxH e) z)<|Nat.lt_irrefl _
 have cellK:∀x c,X.env.cells.lookup x=some c->∀v,s.heap.IsCell c v->h'.IsCell c v:=λx c e v ⟨o,ho,hd⟩=>by
  have nch:=λz=>(hch c z).2.2.1 x c e rfl
  by_cases hc:c ∈ X.fs
  . obtain⟨sl,q⟩:=slot c o (I.cne x c e) hc nch ho<|I.freeC x c e;exact⟨_,q,hd⟩
  . exact⟨o,keep c o (I.cne x c e) hc nch ho<|I.freeC x c e,hd⟩
 refine⟨I.ok,I.os,hg,⟨λb o e n hb hx=>?_,λb o e n hb hx=>?_,λb o e n hx=>?_,λb o e hx=>?_,λb xs e=>tups b xs<|I.base.tups b xs e,λb o xs e=>frzs b o xs<|I.base.frzs b o xs e,λb ps e=>?_⟩, ?_,λx c e=>?_, ?_,λx c e=>?_,λp hp=>?_,hok,I.len⟩
 . exact keep b o (neL b o e) hb (neC b o e hx) (I.base.keep b o e n hb hx)<|I.base.free b o e n hx
 . obtain⟨sl,e1⟩:=I.base.slot b o e n hb hx;obtain⟨sl',e2⟩:=slot b _ (neL b o e) hb (neC b o e hx) e1<|I.base.free b o e n hx;exact⟨sl',e2⟩
 . obtain⟨o',e1⟩:=I.base.there b o e hx;exact free b o' (neC b o e hx) e1<|I.base.free b o e n hx
 . obtain⟨o',e1⟩:=I.base.there b o e hx;exact there b o' (neC b o e hx) e1
 . obtain⟨m1,e1⟩:=I.base.tbls b ps e;obtain⟨m2,e2⟩:=tbls b _ e1;exact⟨m1++m2,by rw[e2,Array.append_assoc]⟩
 . obtain⟨m,hn,hl⟩:=I.loc;refine⟨m,ns m hn,λi x v e1 e2 e3=>?_⟩;obtain⟨u,r,l⟩:=hl i x v e1 e2 e3;refine⟨u,r, ?_⟩
   rcases l with l|⟨k,c,e,z⟩
   . exact .inl l
   . exact .inr ⟨k,c,e,cellK x c e _ z⟩
 . obtain⟨v,z⟩:=I.cell x c e;exact⟨v,cellK x c e v z⟩
 . obtain⟨m,⟨o,_,_,ho,_⟩,_⟩:=I.loc;exact free _ o (λz=>(hch _ z).2.1 rfl) ho I.free
 . obtain⟨v,o,ho,hd⟩:=I.cell x c e;exact free c o (λz=>(hch c z).2.2.1 x c e rfl) ho<|I.freeC x c e
 . obtain⟨e,n,ne,nf,d⟩:=I.pin p hp;have nch:=λz=>(hch p.1 z).2.2.2 p hp rfl;exact⟨keep p.1 p.2 ne nf nch e n,free p.1 p.2 nch e n,ne,nf,d⟩
def Inv.un{t':Nat}(I:Inv X pins σ H s)(u:Un X.fs [] H H' s.heap h')(hok:Qa X.prog X.w H' h'):Inv X pins σ H' {s with heap:=h',toks:=t'}:=by
 obtain⟨m,⟨o,es,ep,ho,r⟩,_⟩:=id I.loc;obtain⟨sl,hL⟩:=u.any ho I.free (by simp);exact I.step (g':=s.gens) (d':=s.drawn) (ch:=[]) (λ_ z=>nomatch z) (λb o _ hb _ e n=>u.keep b o e n hb<|by simp) (λb o _ hb _ e n=>u.slot b o e n hb<|by simp) (λb o _ e n=>u.free b o e n<|by simp) (λb o _ e=>u.there b o e<|by simp) u.tups u.frzs u.tbls (λm' hm=>by
  obtain⟨o',es',ep',ho',r'⟩:=hm;rw[ho]at ho';cases ho';exact⟨_,es',ep',hL,r'⟩) hok I.bare
def Inv.call{g'}{t':Nat}{d'}{ch:List Addr}(I:Inv X pins σ H s)(u:Un (HX X.stack) ch H H' s.heap h')(hok:Qa X.prog X.w H' h')(hg:AllBare g')
 (hch:∀b ∈ ch,(b ∈ X.ex\/X.s₀.heap.objs.size<=b)/\b≠X.env.locals/\(∀x c,X.env.cells.lookup x=some c->c≠b)/\∀p ∈ X.pn++pins,p.1≠b):
 Inv X pins σ H' {s with heap:=h',gens:=g',drawn:=d',toks:=t'}:=by
 obtain⟨m,⟨o,es,ep,ho,r⟩,_⟩:=id I.loc;obtain⟨sl,hL⟩:=u.any ho I.free λz=>(hch _ z).2.1 rfl;exact I.step hch (λb o hL hb hc e n=>u.keep b o e n (λz=>(zzC.mp<|I.stkSub b z).elim hL hb) hc) (λb o _ _ hc e n=>u.any e n hc) (λb o hc e n=>u.free b o e n hc) (λb o hc e=>u.there b o e hc) u.tups u.frzs u.tbls (λm' hm=>by
  obtain⟨o',es',ep',ho',r'⟩:=hm;rw[ho]at ho';cases ho';exact⟨_,es',ep',hL,r'⟩) hok hg
def Inv.turned{t':Nat}{it:Addr}(I:Inv X pins σ H s)(k:∀b o,b≠it->s.heap.get? b=some o->h'.get? b=some o)(hn:H it=none)(hL:it≠X.env.locals)
 (h1:it ∈ X.ex\/X.s₀.heap.objs.size<=it) (h2:∀x c,X.env.cells.lookup x=some c->c≠it) (h3:∀p ∈ X.pn++pins,p.1≠it):Inv X pins σ H {s with heap:=h',toks:=t'}:=by
 have nit:∀b u,H b=some u->b≠it:=λb u e z=>by rw[z,hn]at e;cases e
 refine I.step (g':=s.gens) (d':=s.drawn) (ch:=[it]) (λb hb=>?_) (λb o _ _ hc e _=>k b o (λz=>hc<|by simp[z]) e) (λb o _ _ hc e _=>⟨o.slots,k b o (λz=>hc<|by simp[z]) e⟩) (λ_ _ _ _ n=>n)
  (λb o hc e=>⟨o,k b o (λz=>hc<|by simp[z]) e⟩) (λ_ _ e=>e) (λ_ _ _ e=>e) (λb ps e=>⟨#[],by rw[e];simp⟩) (λm hm=>?_) (λb u e=>?_) I.bare
 . have e:b=it:=by simpa using hb
   subst e;exact⟨h1,hL,h2,h3⟩
 . obtain⟨o,es,ep,ho,r⟩:=hm;exact⟨o,es,ep,k _ o (Ne.symm hL) ho,r⟩
 . refine(I.hok b u e).stay (λc v hc q=>k c v ?_ q) (λ_ q=>q) λ_ _ q=>q
   rcases hc with z|z
   . rw[z];exact nit b u e
   . exact nit c _ z
def Inv.tok(I:Inv X pins σ H s)(t:Nat):Inv X pins σ H {s with toks:=t}:=I.un (h':=s.heap) (t':=t) Un.refl I.hok
theorem Inv.kept(I:Inv X pins σ H s)(k:∀b u,s.heap.get? b=some u->h'.get? b=some u):Inv X pins σ H {s with heap:=h',toks:=t'}:=I.un (Un.kept k)<|I.hok.kept k
theorem Inv.laid(I:Inv X pins σ H s)(k:∀b u,s.heap.get? b=some u->h'.get? b=some u)(hp:s.heap.objs.size<=a)(new:xY X.prog X.w (upd H a o) h' a o):
 Inv X pins σ (upd H a o) {s with heap:=h',toks:=t'}:=I.un (Un.laid k hp<|I.hok.fresh hp)<|I.hok.laid k hp new
theorem Inv.write(I:Inv X pins σ H s)(mu:nJ (H x))(he:e=x\/H e=some (.own x))(k:∀b u,b≠e->s.heap.get? b=some u->h'.get? b=some u)(heo:∃u,h'.get? e=some u)
 (new:xY X.prog X.w (upd H x o) h' x o):Inv X pins σ (upd H x o) {s with heap:=h',toks:=t'}:=I.un (Un.write mu he k heo)<|I.hok.write mu he k heo new
def Inv.weak(I:Inv X pins σ H s)(hl:σ'.length=σ.length)(w:∀(i:Nat) v,σ'[i]? = some (some v)->σ[i]? = some (some v)):Inv X pins σ' H s:=
 ⟨I.ok,I.os,I.bare,I.base,let⟨m,hn,hl'⟩:=I.loc;⟨m,hn,λi x v e1 e2 e3=>hl' i x v e1 (w i v e2) e3⟩,I.cell,I.free,I.freeC,I.pin,I.hok,hl.trans I.len⟩
def Inv.pins_of(I:Inv X pins σ H s)(h:∀p ∈ pins',s.heap.get? p.1=some p.2/\H p.1=none/\p.1≠X.env.locals/\p.1 ∉ X.fs/\∀v,p.2.data ≠ .cell v):Inv X pins' σ H s:=
 ⟨I.ok,I.os,I.bare,I.base,I.loc,I.cell,I.free,I.freeC,λp hp=>(zzM.mp hp).elim (λz=>I.pin p<|zzP _ z)<|h p,I.hok,I.len⟩
def Mr{N:List Str}(hN:N.Nodup){i j:Nat}{x}(a:N[i]? = some x)(b:N[j]? = some x):i=j:=by
 obtain⟨h1,e1⟩:=zzG.mp a;obtain⟨h2,e2⟩:=zzG.mp b;exact(List.getElem_inj hN).mp<|e1.trans e2.symm
def KO{M A E}{i:Nat}{x v u Q}(I:Inv X pins σ H s)(hN:X.N.Nodup)(hi:X.N[i]? = some x)(hx:Loc X.env.scope x)(r:RelV v u)
 (h:∀s',Inv X pins (σ.set i<|some v) H s'->(∃a,Heap.SameBut a s.heap s'.heap/\(a=X.env.locals\/X.env.cells.lookup x=some a))->Q () s') (hf:X.fn x=true\/X.env.scope.names.lookup x=some .local:=by first|exact .inl rfl|exact .inr rfl|assumption):wpAny M A (storeName X.env x u) Q E s:=by
 obtain⟨m,hn,hl⟩:=id I.loc;have hcls:(X.env.scope.kind == .class||(X.env.scope.kind == .module&&X.env.locals != X.env.globals))=false:=by rw[I.ok.kind];rfl
 have hiσ:i<σ.length:=by rw[I.len];exact(zzG.mp hi).1
 have cne:=I.cne;have tracked:∀{a:Addr}{h':Heap},(∃o,s.heap.get? a=some o/\H a=none)->Heap.SameBut a s.heap h'->Qa X.prog X.w H h':=λ{a h'} ha hs b ob e=>by
  obtain⟨_,_,hfree⟩:=ha;refine(I.hok b ob e).stay (λc w' hc q=>(hs.2 c ?_).trans q) (λ_ q=>q) λ_ _ q=>q
  rintro rfl
  rcases hc with rfl|hc
  . rw[hfree]at e;cases e
  . rw[hfree]at hc;cases hc
 rcases hx with hk|hk
 . refine wpAny_storeName_local hk hn (λh' hn' hs=>?_) hcls;obtain⟨oL,_,_,hoL,_⟩:=id hn;refine h _ ⟨I.ok,I.os,I.bare,⟨λb o e n hb hx=>?_,λb o e n hb hx=>?_,I.base.free,λb o e hx=>?_,I.base.tups,I.base.frzs,I.base.tbls⟩,⟨_,hn',λj y v' e1 e2 e3=>?_⟩,λy c e=>?_,I.free,I.freeC,λp hp=>?_,tracked ⟨oL,hoL,I.free⟩ hs,by simpa using I.len⟩ ⟨_,hs,.inl rfl⟩
   . exact(hs.2 b<|zzQ<|zzK (zxH e) I.ok.above).trans<|I.base.keep b o e n hb hx
   . obtain⟨sl,e1⟩:=I.base.slot b o e n hb hx;exact⟨sl,(hs.2 b<|zzQ<|zzK (zxH e) I.ok.above).trans e1⟩
   . obtain⟨o',e1⟩:=I.base.there b o e hx;exact⟨o',(hs.2 b<|zzQ<|zzK (zxH e) I.ok.above).trans e1⟩
   . by_cases hj:j=i
     . subst hj;rw[hi]at e1;cases e1;rw[zyJ hiσ]at e2;cases e2;exact⟨u,r,.inl ⟨hk,by simp⟩⟩
     . rw[zzX<|Ne.symm hj]at e2;obtain⟨u',r',q⟩:=hl j y v' e1 e2 e3;refine⟨u',r', ?_⟩
       rcases q with⟨k,e⟩|⟨k,c,e,z⟩
       . refine .inl ⟨k, ?_⟩;have:y≠x:=λe=>hj<|Mr hN e1<|e ▸ hi;simp[this,e]
       . exact .inr ⟨k,c,e,z.sameBut hs<|cne y c e⟩
   . obtain⟨w',z⟩:=I.cell y c e;exact⟨w',z.sameBut hs<|cne y c e⟩
   . obtain⟨e,n,ne,nf,d⟩:=I.pin p hp;exact⟨(hs.2 p.1 ne).trans e,n,ne,nf,d⟩
 . have hfn:X.fn x=true:=by
    rcases hf with z|z
    . exact z
    . rw[z]at hk;cases hk
   obtain⟨c,hc⟩:=I.ok.has x<|.inl hk;obtain⟨w',z⟩:=I.cell x c hc;refine wpAny_storeName_cell I.ok.kind hk hc z λh' hc' hs=>?_;obtain⟨oc,hoc,hocd⟩:=id z;refine h {s with heap:=h'} ⟨I.ok,I.os,I.bare,⟨λb o e n hb hx=>?_,λb o e n hb hx=>?_,I.base.free,λb o e hx=>?_,I.base.tups,I.base.frzs,I.base.tbls⟩,⟨m,hn.sameBut hs<|Ne.symm<|cne x c hc,λj y v' e1 e2 e3=>?_⟩,λy c' e=>?_,I.free,I.freeC,λp hp=>?_,tracked ⟨oc,hoc,I.freeC x c hc⟩ hs,by simpa using I.len⟩ ⟨c,hs,.inr hc⟩
   . exact(hs.2 b<|zzQ<|zzK (zxH e)<|I.ok.cab x c hfn hc).trans<|I.base.keep b o e n hb hx
   . obtain⟨sl,e1⟩:=I.base.slot b o e n hb hx;exact⟨sl,(hs.2 b<|zzQ<|zzK (zxH e)<|I.ok.cab x c hfn hc).trans e1⟩
   . obtain⟨o',e1⟩:=I.base.there b o e hx;exact⟨o',(hs.2 b<|zzQ<|zzK (zxH e)<|I.ok.cab x c hfn hc).trans e1⟩
   . by_cases hj:j=i
     . subst hj;rw[hi]at e1;cases e1;rw[zyJ hiσ]at e2;cases e2;exact⟨u,r,.inr ⟨.inl hk,c,hc,hc'⟩⟩
     . rw[zzX<|Ne.symm hj]at e2;obtain⟨u',r',q⟩:=hl j y v' e1 e2 e3;refine⟨u',r', ?_⟩
       rcases q with q|⟨k,c',e,z'⟩
       . exact .inl q
       . refine .inr ⟨k,c',e,z'.sameBut hs ?_⟩
         rintro rfl
         exact hj<|Mr hN e1<|I.ok.inj _ _ _ e hc ▸ hi
   . by_cases hcc:c'=c
     . subst hcc;exact⟨_,hc'⟩
     . obtain⟨w2,z2⟩:=I.cell y c' e;exact⟨w2,z2.sameBut hs hcc⟩
   . obtain⟨e,n,ne,nf,d⟩:=I.pin p hp;refine⟨(hs.2 p.1 ?_).trans e,n,ne,nf,d⟩;intro q;rw[q,hoc]at e;have q':oc=p.2:=zzY e;exact d w' (by rwa [<-q'])
def Eh(I:Inv X pins σ H s)(hN:X.N.Nodup)(hi:X.N[i]? = some x)(hx:Loc X.env.scope x)(r:RelV v u)
 (h:∀s',Inv X pins (σ.set i<|some v) H s'->Q () s') (hf:X.fn x=true\/X.env.scope.names.lookup x=some .local:=by first|exact .inl rfl|exact .inr rfl|assumption):wpAny M A (storeName X.env x u) Q E s:=
 KO I hN hi hx r (λs' I' _=>h s' I') hf
def Inv.call'(I:Inv X pins σ H s)(ho:s'.os=s.os)(u:Un (HX X.stack) ch H H' s.heap s'.heap)(hok:Qa X.prog X.w H' s'.heap)(hg:AllBare s'.gens)
 (hch:∀b ∈ ch,(b ∈ X.ex\/X.s₀.heap.objs.size<=b)/\b≠X.env.locals/\(∀x c,X.env.cells.lookup x=some c->c≠b)/\∀p ∈ X.pn++pins,p.1≠b):Inv X pins σ H' s':=by
 obtain⟨h',g',d',t',o'⟩:=s';have e:=ho;subst e;exact I.call (g':=g') (t':=t') (d':=d') u hok hg hch
end
abbrev XK:=Value->Option Addr->Hp->Prop
abbrev St:=List<|Option V
abbrev VK:=V->Hp->Prop
abbrev TE:=St->Hp->VK->Prop
abbrev TT:=St->Hp->(Bool->Hp->Prop)->Prop
abbrev TA:=St->Hp->(List V->Hp->Prop)->Prop
structure Ends where
 nx:St->Hp->Prop
 rt:VK
 bk:St->Hp->Prop:=λ_ _=>False
 ct:St->Hp->Prop:=λ_ _=>False
abbrev TS:=Ends->St->Hp->Prop
def EP(X:Cx)(pins:List (Addr×Obj))(σ:St)(Q:VK)(u:Value)(s':Shared):Prop:=∃v H',Inv X pins σ H' s'/\RelV v u/\Q v H'
def TP(X:Cx)(pins:List (Addr×Obj))(σ:St)(Q:Bool->Hp->Prop)(b:Bool)(s':Shared):Prop:=∃H',Inv X pins σ H' s'/\Q b H'
def AP(X:Cx)(pins:List (Addr×Obj))(σ:St)(Q:List V->Hp->Prop)(us:List Value)(s':Shared):Prop:=∃vs H',Inv X pins σ H' s'/\zQ vs us/\Q vs H'
def SP(X:Cx)(pins:List (Addr×Obj))(D:Ends)(f:Flow)(s':Shared):Prop:=
 match f with
 | .next=>∃σ' H',Inv X pins σ' H' s'/\D.nx σ' H'
 | .brk=>∃σ' H',Inv X pins σ' H' s'/\D.bk σ' H'
 | .cont=>∃σ' H',Inv X pins σ' H' s'/\D.ct σ' H'
 | .ret u=>∃v σ' H',Inv X pins σ' H' s'/\RelV v u/\D.rt v H'
def PE(X:Cx)(e:Expr)(t:TE):Prop:=
 ∀(pins:List (Addr×Obj)) (s:Shared) (σ:St) (H:Hp) (Q:VK),Inv X pins σ H s->t σ H Q->wpAny (model X.prog X.w) X.A (eval e X.env) (EP X pins σ Q) X.xe s
def PT(X:Cx)(e:Expr)(t:TT):Prop:=
 ∀(pins:List (Addr×Obj)) (s:Shared) (σ:St) (H:Hp) (Q:Bool->Hp->Prop),Inv X pins σ H s->t σ H Q->wpAny (model X.prog X.w) X.A (isTrue e X.env<|eval e X.env) (TP X pins σ Q) X.xe s
def PW(X:Cx)(e:Expr)(t:TT):Prop:=
 ∀(whole:Sem Value) (pins:List (Addr×Obj)) (s:Shared) (σ:St) (H:Hp) (Q:Bool->Hp->Prop),Inv X pins σ H s->t σ H Q->wpAny (model X.prog X.w) X.A (isTrue e X.env whole) (TP X pins σ Q) X.xe s
def PW.pt(h:PW X e t):PT X e t:=h _
def PA(X:Cx)(es:List Expr)(t:TA):Prop:=
 ∀(pos:Pos) (pins:List (Addr×Obj)) (s:Shared) (σ:St) (H:Hp) (Q:List V->Hp->Prop),Inv X pins σ H s->t σ H Q->wpAny (model X.prog X.w) X.A (spliced<|backTo pos<|starEach es X.env) (AP X pins σ Q) X.xe s
def PS(X:Cx)(st:Stmt)(t:TS):Prop:=
 ∀(pins:List (Addr×Obj)) (s:Shared) (σ:St) (H:Hp) (D:Ends),Inv X pins σ H s->t D σ H->wpAny (model X.prog X.w) X.A (exec st X.env) (SP X pins D) X.xe s
def Nv(X:Cx)(st:List Stmt)(t:TS):Prop:=
 ∀(pins:List (Addr×Obj)) (s:Shared) (σ:St) (H:Hp) (D:Ends),Inv X pins σ H s->t D σ H->wpAny (model X.prog X.w) X.A (execs st X.env) (SP X pins D) X.xe s
def xU(h:wpAny M A t Q E s)(hQ:∀a s,Q a s->Q' a s):wpAny M A t Q' E s:=zxL h hQ λ_ _ x=>x
end L2
namespace L2
open PySem PySem.Spec PyProof.Rows
section
variable{X:Cx}
def Y1(i:Nat):TE:=λσ H Q=>∃v,σ[i]? = some (some v)/\Q v H
def tC(v:V):TE:=λ_ H Q=>Q v H
def Ov(hN:X.N[i]? = some x)(hv:kj X.env.scope x)(hd:(x==("__debug__":Str))=false:=by decide)(hcd:(x==("__classdict__":Str))=false:=by decide):PE X (.Name x pos) (Y1 i):=by
 intro pins s σ H Q I h;obtain⟨v,e,h⟩:=h;obtain⟨m,hn,hl⟩:=I.loc;obtain⟨u,r,l⟩:=hl i x v hN e hv;have fin:EP X pins σ Q u s:=⟨v,H,I,r,h⟩
 rcases l with⟨hk,hm⟩|⟨hk,c,hc,hcell⟩
 . exact wpAny_Name (wpAny_loadName_local I.ok.kind hk hn hm fin) hd
 . rcases hk with hk|hk
   . exact wpAny_Name (wpAny_loadName_cell I.ok.kind hk hc hcell fin) hd
   . exact wpAny_Name (wpAny_loadName_free I.ok.kind hk hc hcell fin hcd) hd
def uU:PE X (.Constant (.int i) j pos) (tC<|.int i):=λ_ _ _ H _ I h=>wpAny_Constant_int ⟨.int i,H,I.tok _,⟨_,rfl⟩,h⟩
def p9:PE X (.Constant (.bool b) j pos) (tC<|.bl b):=λ_ _ _ H _ I h=>Constant_bool ⟨.bl b,H,I,rfl,h⟩
def qu:PE X (.Constant .none j pos) (tC .non):=λ_ _ _ H _ I h=>Constant_none ⟨.non,H,I,rfl,h⟩
def rE:PE X (.Constant (.str x) j pos) (tC<|.str x):=λ_ _ _ H _ I h=>Calls.Constant_str ⟨.str x,H,I.tok _,⟨_,rfl⟩,h⟩
def Gl(X:Cx)(x:Str):Prop:=X.env.kindOf x=some .globalImplicit
def Nw(I:Inv X pins σ H s)(hg:Gl X x)(hm:X.mg x=some u)(h:Q u s)
 (hd:(x==("__debug__":Str))=false:=by decide):wpAny (model X.prog X.w) X.A (eval (.Name x pos) X.env) Q E s:=
 Calls.Name_function_global I.ok.kind hg (Calls.loadGlobal_global (by rw[I.ok.glob];exact I.mod.glob.keeps I.bk) hm h) hd
def WI(I:Inv X pins σ H s)(hg:Gl X x)(hm:X.mg x=none)(hv:bootBuiltins x=some u)(h:Q u s)
 (hn:x≠"__name__":=by decide) (hd:(x==("__debug__":Str))=false:=by decide):wpAny (model X.prog X.w) X.A (eval (.Name x pos) X.env) Q E s:=by
 obtain⟨mb,h1,h2⟩:=I.mod.blt;exact Calls.Name_function_global I.ok.kind hg (Calls.loadGlobal_builtin (by rw[I.ok.glob];exact I.mod.glob.keeps I.bk) hm (by rw[I.ok.blt];exact h1.keeps I.bk) ((h2 x hn).trans hv) h) hd
def Dz(hg:Gl X x)(hm:X.mg x=some u)(r:RelV v u)(hd:(x==("__debug__":Str))=false:=by decide):PE X (.Name x pos) (tC v):=
 λ_ _ _ H _ I h=>Nw I hg hm ⟨v,H,I,r,h⟩ hd
def A7(hg:Gl X x)(hm:X.mg x=none)(hv:bootBuiltins x=some u)(r:RelV v u)(hn:x≠"__name__":=by decide)(hd:(x==("__debug__":Str))=false:=by decide):PE X (.Name x pos) (tC v):=
 λ_ _ _ H _ I h=>WI I hg hm hv ⟨v,H,I,r,h⟩ hn hd
variable{a b:Expr}{ta tb:TE}{pos:Pos}
variable{tA tB':TT}{rest:List Expr}
def jE(t u:TT):TT:=λσ H Q=>t σ H λc H1=>if c=true then u σ H1 Q else Q false H1
def gK(t u:TT):TT:=λσ H Q=>t σ H λc H1=>if c=true then Q true H1 else u σ H1 Q
def kS(t:TT):TT:=λσ H Q=>t σ H λc H1=>Q (!c) H1
def Al(ha:PT X a tA):PW X (.BoolOp .And [a] pos) tA:=by
 intro wh pins s σ H Q I h;refine isTrue_and<|xU (ha pins s σ H Q I h) λc s1 e=>?_;cases c with
 |true=>exact isTrue_and_nil e
 |false=>exact e
def sR(ha:PT X a tA):PW X (.BoolOp .Or [a] pos) tA:=by
 intro wh pins s σ H Q I h;refine isTrue_or<|xU (ha pins s σ H Q I h) λc s1 e=>?_;cases c with
 |false=>exact isTrue_or_nil e
 |true=>exact e
def rY(ha:PT X a tA)(hb:PW X (.BoolOp .And (b::rest) pos) tB'):PW X (.BoolOp .And (a::b::rest) pos) (jE tA tB'):=by
 intro wh pins s σ H Q I h;refine isTrue_and<|xU (ha pins s σ H _ I h) λc s1 ⟨H1,I1,q1⟩=>?_;cases c with
 |true=>exact hb wh pins s1 σ H1 Q I1 q1
 |false=>exact⟨H1,I1,q1⟩
def nG(ha:PT X a tA)(hb:PW X (.BoolOp .Or (b::rest) pos) tB'):PW X (.BoolOp .Or (a::b::rest) pos) (gK tA tB'):=by
 intro wh pins s σ H Q I h;refine isTrue_or<|xU (ha pins s σ H _ I h) λc s1 ⟨H1,I1,q1⟩=>?_;cases c with
 |true=>exact⟨H1,I1,q1⟩
 |false=>exact hb wh pins s1 σ H1 Q I1 q1
def qY(ha:PT X a tA):PT X (.UnaryOp .Not a pos) (kS tA):=by
 intro pins s σ H Q I h;exact isTrue_not<|ha pins s σ H _ I h
def og(ta tb:TE):TE:=λσ H Q=>ta σ H λx H1=>∃c,x = .bl c/\if c=true then tb σ H1 Q else Q (.bl false) H1
def mD(ta:TE):TE:=λσ H Q=>ta σ H λx H1=>∃c,x = .bl c/\Q (.bl<|!c) H1
def tX(ha:PE X a ta)(hb:PE X (.BoolOp .And (b::rest) pos) tb):PE X (.BoolOp .And (a::b::rest) pos) (og ta tb):=by
 intro pins s σ H Q I h;refine BoolOp_and<|xU (ha pins s σ H _ I h) λv s1 ⟨x,H1,I1,r1,q1⟩=>?_;obtain⟨c,rfl,q1⟩:=q1;cases r1;refine wpAny_truthy_bool ?_;cases c with
 |true=>exact hb pins s1 σ H1 Q I1 q1
 |false=>exact⟨.bl false,H1,I1,rfl,q1⟩
def t7(ha:PE X a ta):PE X (.UnaryOp .Not a pos) (mD ta):=by
 intro pins s σ H Q I h;refine UnaryOp_<|xU (ha pins s σ H _ I h) λv s1 ⟨x,H1,I1,r1,q1⟩=>?_;obtain⟨c,rfl,q1⟩:=q1;cases r1;exact not_of<|wpAny_truthy_bool ⟨.bl _,H1,I1,rfl,q1⟩
def hW(t:TT)(ta tb:TE):TE:=λσ H Q=>t σ H λc H1=>if c=true then ta σ H1 Q else tb σ H1 Q
def Js(hc:PT X c tA)(ha:PE X a ta)(hb:PE X b tb):PE X (.IfExp c a b pos) (hW tA ta tb):=by
 intro pins s σ H Q I h;refine wpAny_IfExp<|xU (hc pins s σ H _ I h) λd s1 ⟨H1,I1,q1⟩=>?_;cases d with
 |true=>exact ha pins s1 σ H1 Q I1 q1
 |false=>exact hb pins s1 σ H1 Q I1 q1
end
end L2
namespace L2
open PySem PySem.Spec PyProof.Rows
def Pc(K:zzA)(H:Hp)(a:Addr)(xs:List V):Prop:=
 Rd H a (.lst xs) \/
  ∃(o:Obj) (its:Array Value) (n:Nat),K.lookup a=some o/\o.cls = .type "list"/\o.dict=none/\o.data = .seq its n/\its.size<=sizeLine/\zQ xs its.toList
def OP(K:zzA)(H:Hp)(a:Addr)(xs:List V):Prop:=
 Rd H a (.lst xs)\/∃(its:Array Value) (n:Nat),K.lookup a=some {cls:=.type "list",data:=.seq its n}/\its.size<=sizeLine/\zQ xs its.toList
def V_(K:zzA)(H:Hp)(a:Addr)(xs:List V):Prop:=
 Rd H a (.tup xs) \/
  ∃(o:Obj) (its:Array Value) (n:Nat),K.lookup a=some o/\o.cls = .type "tuple"/\o.data = .seq its n/\its.size<=sizeLine/\zQ xs its.toList
def js:Value->Option V
 | .none=>some .non
 | .bool b=>some<|.bl b
 | .int i _=>some<|.int i
 | .str x _=>some<|.str x
 | .bytes b _=>some<|.byt b
 | .float b _=>some<|.flt b
 | .ref a=>some<|.ref a
 | .type n=>some (.ty n)
 |_=>none
def RelV.abs(r:RelV x u):js u=some x:=by
 cases x with
 |non=>cases r;rfl
 |bl _=>cases r;rfl
 |int _=>obtain⟨t,rfl⟩:=r;rfl
 |str _=>obtain⟨t,rfl⟩:=r;rfl
 |byt _=>obtain⟨t,rfl⟩:=r;rfl
 |flt _=>obtain⟨t,rfl⟩:=r;rfl
 |ref _=>cases r;rfl
 |ty _=>cases r;rfl
def RelV.inj(r:RelV x u)(q:RelV y u):x=y:=zzY<|r.abs.symm.trans q.abs
theorem zQ.inj:∀{xs ys:List V}{us:List Value},zQ xs us->zQ ys us->xs=ys
 |_,_,_,.nil,.nil=>rfl
 |_,_,_,.cons r t,.cons r' t'=>by rw[r.inj r',zQ.inj t t']
section
variable{X:Cx}{pins:List (Addr×Obj)}{σ:St}{H:Hp}{s:Shared}{a:Addr}{xs ys:List V}
def Inv.list(I:Inv X pins σ H s)(h:Pc X.K H a xs):∃its:List Value,zQ xs its/\PlainL s.heap a its.toArray/\xs.length<=sizeLine:=by
 rcases h with h|⟨o,its,n,hk,hc,hd,hs,hz,r⟩
 . obtain⟨z,its,n,r,e⟩:=h.ok I.hok;exact⟨its,r,⟨_,n,e,rfl,rfl,rfl⟩,z⟩
 . refine⟨its.toList,r,⟨o,n,I.kIn a o hk,hc,hd,by simpa using hs⟩, ?_⟩;have e:=r.length;simp at e;exact q1q e hz
def Inv.tuple(I:Inv X pins σ H s)(h:V_ X.K H a xs):∃its:List Value,zQ xs its/\IsTup s.heap a its.toArray/\xs.length<=sizeLine:=by
 rcases h with h|⟨o,its,n,hk,hc,hs,hz,r⟩
 . obtain⟨z,its,r,p⟩:=h.ok I.hok;exact⟨its,r,p,z⟩
 . refine⟨its.toList,r,⟨o,I.kIn a o hk,hc,n,by simpa using hs⟩, ?_⟩;have e:=r.length;simp at e;exact q1q e hz
def Inv.list_inj(I:Inv X pins σ H s)(h:Pc X.K H a xs)(h':Pc X.K H a ys):xs=ys:=by
 obtain⟨its,r,⟨o,n,e,_,_,d⟩,_⟩:=I.list h;obtain⟨its',r',⟨o',n',e',_,_,d'⟩,_⟩:=I.list h';rw[e]at e';cases e';rw[d]at d';injection d' with d1 _
 have:its=its':=by simpa using congrArg Array.toList d1
 subst this;exact r.inj r'
def Inv.tuple_inj(I:Inv X pins σ H s)(h:V_ X.K H a xs)(h':V_ X.K H a ys):xs=ys:=by
 obtain⟨its,r,⟨o,e,_,n,d⟩,_⟩:=I.tuple h;obtain⟨its',r',⟨o',e',_,n',d'⟩,_⟩:=I.tuple h';rw[e]at e';cases e';rw[d]at d';injection d' with d1 _
 have:its=its':=by simpa using congrArg Array.toList d1
 subst this;exact r.inj r'
end
abbrev Cx.wish(X:Cx)(E:Value->Shared->Prop):Cx:={X with xe:=E}
abbrev Cx.nox(X:Cx):Cx:=X.wish λ_ _=>False
theorem Cx.Ok.wish{X:Cx}(ok:X.Ok)(E):(X.wish E).Ok:=
 ⟨ok.mod,ok.kind,ok.glob,ok.blt,ok.above,ok.inj,ok.has,ok.cab,ok.hd,ok.frames,ok.stk,ok.exf,ok.bs,ok.bsz,ok.noex,ok.exfs,ok.funs,ok.frf⟩
def Cx.Ok.unwish{X:Cx}{E}(ok:(X.wish E).Ok):X.Ok:=
 ⟨ok.mod,ok.kind,ok.glob,ok.blt,ok.above,ok.inj,ok.has,ok.cab,ok.hd,ok.frames,ok.stk,ok.exf,ok.bs,ok.bsz,ok.noex,ok.exfs,ok.funs,ok.frf⟩
section
variable{X:Cx}{pins:List (Addr×Obj)}{σ:St}{H:Hp}{s:Shared}{E:Value->Shared->Prop}
theorem Inv.wish(I:Inv X pins σ H s)(E:Value->Shared->Prop):Inv (X.wish E) pins σ H s:=⟨I.ok.wish E,I.os,I.bare,I.base,I.loc,I.cell,I.free,I.freeC,I.pin,I.hok,I.len⟩
theorem Inv.unwish(I:Inv (X.wish E) pins σ H s):Inv X pins σ H s:=⟨I.ok.unwish,I.os,I.bare,I.base,I.loc,I.cell,I.free,I.freeC,I.pin,I.hok,I.len⟩
theorem SP.unwish(h:SP (X.wish E) pins D f s'):SP X pins D f s':=by
 cases f with
 |next=>obtain⟨σ',H',I,q⟩:=h;exact⟨σ',H',I.unwish,q⟩
 |brk=>obtain⟨σ',H',I,q⟩:=h;exact⟨σ',H',I.unwish,q⟩
 |cont=>obtain⟨σ',H',I,q⟩:=h;exact⟨σ',H',I.unwish,q⟩
 |ret u=>obtain⟨v,σ',H',I,r,q⟩:=h;exact⟨v,σ',H',I.unwish,r,q⟩
theorem Nv.nox{st t}(h:Nv X.nox st t):Nv X st t:=λpins s σ H D I hw=>
 zxL (h pins s σ H D (I.wish _) hw) (λ_ _ q=>q.unwish) λ_ _ z=>False.elim z
end
section
variable{X:Cx}{st:Stmt}{rest:List Stmt}{t u:TS}{e:Expr}{te:TE}{pos:Pos}
def lW:TS:=λD σ H=>D.nx σ H
def jG(t u:TS):TS:=λD σ H=>t {D with nx:=u D} σ H
def RO:Nv X [] lW:=λ_ _ σ H _ I h=>wpAny_execs_nil ⟨σ,H,I,h⟩
def Yp(h1:PS X st t)(h2:Nv X rest u):Nv X (st::rest) (jG t u):=by
 intro pins s σ H D I h;refine wpAny_execs_cons<|xU (h1 pins s σ H {D with nx:=u D} I h) λf s1 q=>?_;cases f with
 |next=>
  obtain⟨σ',H',I',q⟩:=q;exact h2 pins s1 σ' H' D I' q
 |ret v=>exact q
 |brk=>exact q
 |cont=>exact q
def QM(h1:PS X st t):Nv X [st] t:=by
 intro pins s σ H D I h;refine wpAny_execs_cons<|xU (h1 pins s σ H D I h) λf s1 q=>?_;cases f with
 |next=>exact wpAny_execs_nil q
 |ret v=>exact q
 |brk=>exact q
 |cont=>exact q
def Inv.quiet(I:Inv X pins σ H s):interactive X.env=false:=by simp[interactive,I.ok.kind]
def oj(te:TE):TS:=λD σ H=>te σ H λ_ H1=>D.nx σ H1
def Qv(he:PE X e te)(hs:swapsWith e none pos.line X.env=pure false:=by rfl):PS X (.Expr e pos) (oj te):=by
 intro pins s σ H D I h;exact wpAny_Expr_any (xU (he pins s σ H _ I h) λv s1 ⟨x,H1,I1,r1,q1⟩=>⟨σ,H1,I1,q1⟩) I.quiet hs
def ig(te:TE):TS:=λD σ H=>te σ H D.rt
def CQ(he:PE X e te):PS X (.Return (some e) pos) (ig te):=by
 intro pins s σ H D I h;exact wpAny_Return_some<|xU (he pins s σ H _ I h) λv s1 ⟨x,H1,I1,r1,q1⟩=>⟨x,σ,H1,I1,r1,q1⟩
def lC:TS:=λD _ H=>D.rt .non H
def J4:PS X (.Return none pos) lC:=λ_ _ σ H _ I h=>wpAny_Return_none ⟨.non,σ,H,I,rfl,h⟩
def ie(c:TT)(t u:TS):TS:=λD σ H=>c σ H λb H1=>if b=true then t D σ H1 else u D σ H1
def BG(hc:PT X c tc)(ha:Nv X a t)(hb:Nv X b u):PS X (.If c a b pos) (ie tc t u):=by
 intro pins s σ H D I h;refine wpAny_If<|xU (hc pins s σ H _ I h) λd s1 ⟨H1,I1,q1⟩=>?_;cases d with
 |true=>exact ha pins s1 σ H1 D I1 q1
 |false=>exact hb pins s1 σ H1 D I1 q1
end
abbrev TG:=V->St->Hp->(St->Hp->Prop)->Prop
abbrev tD:=List V->St->Hp->(St->Hp->Prop)->Prop
def PG(X:Cx)(target:Expr)(t:TG):Prop:=
 ∀(pins:List (Addr×Obj)) (s:Shared) (σ:St) (H:Hp) (v:V) (u:Value) (Q:St->Hp->Prop),Inv X pins σ H s->RelV v u->t v σ H Q->
  wpAny (model X.prog X.w) X.A (assign target X.env u) (λ_ s'=>∃σ' H',Inv X pins σ' H' s'/\Q σ' H') X.xe s
def um(X:Cx)(ts:List Expr)(t:tD):Prop:=
 ∀(pins:List (Addr×Obj)) (s:Shared) (σ:St) (H:Hp) (vs:List V) (us:List Value) (Q:St->Hp->Prop),Inv X pins σ H s->zQ vs us->t vs σ H Q->
  wpAny (model X.prog X.w) X.A (assignInOrder ((assignEach ts X.env).map (·.2)) us) (λ_ s'=>∃σ' H',Inv X pins σ' H' s'/\Q σ' H') X.xe s
abbrev lD:=V->V->V->Hp->(Hp->Prop)->Prop
def mI(X:Cx)(t:lD):Prop:=
 ∀(pins:List (Addr×Obj)) (s:Shared) (σ:St) (H:Hp) (o i v:V) (ov iv u:Value) (Q:Hp->Prop),Inv X pins σ H s->RelV o ov->RelV i iv->RelV v u->t o i v H Q->
  wpAny (model X.prog X.w) X.A (setItem ov iv u) (λ_ s'=>∃H',Inv X pins σ H' s'/\Q H') X.xe s
section
variable{X:Cx}{pos:Pos}
def SD(i:Nat):TG:=λv σ H Q=>Q (σ.set i<|some v) H
def J0(hN:X.N.Nodup)(hi:X.N[i]? = some x)(hx:Loc X.env.scope x)(hf:X.fn x=true\/X.env.scope.names.lookup x=some .local:=by first|exact .inl rfl|exact .inr rfl|assumption):PG X (.Name x pos) (SD i):=by
 intro pins s σ H v u Q I r h;exact wpAny_assign_Name<|Eh I hN hi hx r (λs' I'=>⟨_,H,I',h⟩) hf
def jR:tD:=λvs σ H Q=>vs=[]/\Q σ H
def nU(t:TG)(u:tD):tD:=λvs σ H Q=>∃v r,vs=v::r/\t v σ H λσ' H'=>u r σ' H' Q
def DM:um X [] jR:=by
 intro pins s σ H vs us Q I r h;obtain⟨e,h⟩:=h;subst e;exact assignInOrder_nil ⟨σ,H,I,h⟩
def Ol(h1:PG X e t)(h2:um X es u)
 (hs:(assignEach (e::es) X.env).map (·.2)=assign e X.env::(assignEach es X.env).map (·.2):=by rfl):um X (e::es) (nU t u):=by
 intro pins s σ H vs us Q I r h;obtain⟨v,vr,e1,h⟩:=h;subst e1;cases r with
 |cons r rr=>
  rw[hs];refine assignInOrder_cons<|xU (h1 pins s σ H _ _ _ I r h) λ_ s1 ⟨σ1,H1,I1,q1⟩=>?_;exact h2 pins s1 σ1 H1 _ _ Q I1 rr q1
def kW(K:zzA)(n:Nat)(t:tD):TG:=λv σ H Q=>∃a xs,v = .ref a/\V_ K H a xs/\xs.length=n/\t xs σ H Q
def ql(hc:X.calm=true)(h:um X es t)
 (hn:(assignEach es X.env).length=n:=by rfl) (hst:(assignEach es X.env).findIdx? (·.1)=none:=by rfl):PG X (.Tuple es k pos) (kW X.K n t):=by
 intro pins s σ H v u Q I r hw;obtain⟨a,xs,e1,hq,hl,hw⟩:=hw;subst e1;cases r;obtain⟨its,rv,ht,hz⟩:=I.tuple hq;refine assign_Tuple_tuple (I.ok.hd hc) ht (by simp[hn,<-hl,rv.length]) hst λh' hx=>?_;have I1:=I.kept (t':=s.toks) λb o e=>hx b o (zzQ<|zxH e) e;exact h pins _ σ H xs _ Q I1 (by simpa using rv) hw
def jN(to ti:TE)(t:lD):TG:=λv σ H Q=>to σ H λo H1=>ti σ H1 λi H2=>t o i v H2 λH3=>Q σ H3
def Od(ho:PE X o to)(hi:PE X i ti)(hs:mI X t)
 (ha:∀v,assign (.Subscript o i pos) X.env v=(do
  let ov <-holding [v] (eval o X.env);let iv <-holding [v,ov] (eval i X.env)
  standAt pos
  holding [v,ov,iv] (setItem ov iv v)
  release [v,ov,iv] []):=by intro _;rfl):PG X (.Subscript o i pos) (jN to ti t):=by
 intro pins s σ H v u Q I r h;rw[ha];refine zxE<|zxJ<|xU (ho pins s σ H _ I h) λov s1 ⟨x,H1,I1,r1,q1⟩=>?_;refine zxE<|zxJ<|xU (hi pins s1 σ H1 _ I1 q1) λiv s2 ⟨y,H2,I2,r2,q2⟩=>?_;refine zxE<|wpAny_standAt<|zxE<|zxJ<|xU (hs pins s2 σ H2 x y v ov iv u _ I2 r1 r2 r q2) λ_ s3 ⟨H3,I3,q3⟩=>?_;exact wpAny_release ⟨σ,H3,I3,q3⟩
def rP(te:TE)(g:TG):TS:=λD σ H=>te σ H λx H1=>g x σ H1 D.nx
def Lw(he:PE X e te)(hg:PG X tg g)(hs:swapsWithSole [tg] e pos.line X.env=pure false:=by rfl)(hw:swappedStores [tg] e X.env=pure none:=by rfl)
 (h1:(assignEach [tg] X.env).map (·.2)=[assign tg X.env]:=by rfl):PS X (.Assign [tg] e pos) (rP te g):=by
 intro pins s σ H D I h;refine wpAny_Assign_stores (xU (he pins s σ H _ I h) λv s1 ⟨x,H1,I1,r1,q1⟩=>?_) hs hw;rw[h1];exact xU (hg pins s1 σ H1 x v _ I1 r1 q1) λ_ s2 q=>q
def Of(hN:X.N.Nodup)(hi:X.N[i]? = some x)(hx:Loc X.env.scope x)(he:PE X e te)(hs:swapsWith e (some<|.Name x pos') pos.line X.env=pure false:=by rfl)(hf:X.fn x=true\/X.env.scope.names.lookup x=some .local:=by first|exact .inl rfl|exact .inr rfl|assumption):
 PS X (.Assign [.Name x pos'] e pos) (rP te<|SD i):=by
 intro pins s σ H D I h;refine wpAny_Assign_Name (xU (he pins s σ H _ I h) λv s1 ⟨y,H1,I1,r1,q1⟩=>?_) hs;exact Eh I1 hN hi hx r1 (λs2 I2=>⟨_,H1,I2,q1⟩) hf
end
structure It where
 go:Nat->Hp->Prop
 yld:Nat->Hp->V->Hp->Prop
 stop:Nat->Hp->Prop
def Rq(X:Cx)(pins:List (Addr×Obj))(H:Hp)(b:Addr):Prop:=
 H b=none/\b≠X.env.locals/\b ∉ X.fs/\(b ∈ X.ex\/X.s₀.heap.objs.size<=b)/\(∀x c,X.env.cells.lookup x=some c->c≠b)/\∀p ∈ X.pn++pins,p.1≠b
def Inv.fpOk(I:Inv X pins σ H s)(hb:s.heap.objs.size<=b)(hn:H' b=none):Rq X pins H' b:=by
 refine⟨hn,Nat.ne_of_gt<|zzK I.lt hb,I.nofs hb,.inr<|zzO I.sz hb,λx c e z=>?_,λp hp z=>?_⟩
 . obtain⟨v,q⟩:=I.cell x c e;exact absurd (zzK q.lt<|by rwa [z])<|Nat.lt_irrefl _
 . exact absurd (zzK (zxH (I.pin p hp).1)<|by rwa [z])<|Nat.lt_irrefl _
structure Turn(P:Program)(w:World)(K:zzA)(tg:Expr)(J:It)(fp:List Addr)(it:Addr)(tn:Nat->Heap->Prop):Prop where
 mem:it ∈ fp
 obj:∀i h,tn i h->∀b ∈ fp,∃o,h.get? b=some o/\∀v,o.data ≠ .cell v
 keep:∀i h h',tn i h->(∀b ∈ fp,∀o,h.get? b=some o->h'.get? b=some o)->tn i h'
 item:∀(X:Cx),X.prog=P->X.w=w->X.K=K->X.calm=true->∀(i:Nat) (pins:List (Addr×Obj)) (s:Shared) (σ:St) (H:Hp) (E:Value->Shared->Prop),Inv X pins σ H s->(∀b ∈ fp,Rq X pins H b)->tn i s.heap->J.go i H->
  wpAny (model P w) X.A (pyNext<|.ref it) (λr s1=>∃u,r=some u/\
   wpAny (model P w) X.A (letOwnedTupleGo tg (.ref it) u) (λ_ s2=>∃x H',Inv X pins σ H' s2/\RelV x u/\J.yld i H x H'/\tn (i+1) s2.heap/\∀b ∈ fp,H' b=none) E s1) E s
 done:∀(X:Cx),X.prog=P->X.w=w->X.K=K->X.calm=true->∀(i:Nat) (pins:List (Addr×Obj)) (s:Shared) (σ:St) (H:Hp) (E:Value->Shared->Prop),Inv X pins σ H s->(∀b ∈ fp,Rq X pins H b)->tn i s.heap->J.stop i H->
  wpAny (model P w) X.A (pyNext<|.ref it) (λr s1=>r=none/\Inv X pins σ H s1) E s
 self:∀(A:Around) (i:Nat) (s:Shared) (Q:Value->Shared->Prop) (E:Value->Shared->Prop),tn i s.heap->Q (.ref it) s->wpAny (model P w) A (pyIter<|.ref it) Q E s
abbrev TI:=St->Hp->(It->Hp->Prop)->Prop
def iG(X:Cx)(pins:List (Addr×Obj))(σ:St)(tg:Expr)(R:It->Hp->Prop)(itv:Value)(s2:Shared):Prop:=
 ∃(it:Addr) (fp:List Addr) (tn:Nat->Heap->Prop) (J:It) (H':Hp),itv = .ref it/\Inv X pins σ H' s2/\Turn X.prog X.w X.K tg J fp it tn/\tn 0 s2.heap/\(∀b ∈ fp,Rq X pins H' b)/\R J H'
def PI(X:Cx)(tg iter:Expr)(wi:TI):Prop:=
 ∀(pins:List (Addr×Obj)) (s:Shared) (σ:St) (H:Hp) (R:It->Hp->Prop),Inv X pins σ H s->wi σ H R->
  wpAny (model X.prog X.w) X.A (eval iter X.env) (λv s1=>wpAny (model X.prog X.w) X.A (pyIter v) (iG X pins σ tg R) X.xe s1) X.xe s
def Cw(ho:s.heap.get? it=some o)(hc:o.cls = .type n)(hd:o.data = .fields vs)
 (hn : ["enumerate","zip","dict_itemiterator","dict_reverseitemiterator","odict_iterator","itertools.zip_longest","itertools.pairwise"].contains n=false) (hQ:Q () s):wpAny M A (letOwnedTupleGo tg (.ref it) u) Q E s:=by
 cases tg<;>first
  |exact zxF hQ
  |(cases u<;>first
   |exact zxF hQ
   | (refine zxE (wpAny_load ho ?_)
      rw[hc,hd];show wpAny M A (if _=true then _ else _) Q E s;rw[if_neg (by intro h;rw[hn]at h;cases h)];exact zxF hQ))
def kq(K:zzA)(a:Addr):It:=
 ⟨λi H=>∃xs x,Pc K H a xs/\xs[i]? = some x,λi H x H'=>H'=H/\∀xs,Pc K H a xs->xs[i]? = some x,λi H=>∃xs,Pc K H a xs/\xs.length<=i⟩
def kB(K:zzA)(a:Addr):It:=
 ⟨λi H=>∃xs x,V_ K H a xs/\xs[i]? = some x,λi H x H'=>H'=H/\∀xs,V_ K H a xs->xs[i]? = some x,λi H=>∃xs,V_ K H a xs/\xs.length<=i⟩
def q8(lo:Int)(n:Nat):It:=⟨λi _=>i<n,λi H x H'=>H'=H/\x = .int (lo+i),λi _=>n<=i⟩
def Hv{P w K tg}(a it):Turn P w K tg (kq K a) [it] it (λi h=>h.IsListIter it a i)where
 mem:=by simp
 obj:=λi h st b hb=>by
  have e:b=it:=by simpa using hb
  subst e;obtain⟨o,e,c,d⟩:=st;exact⟨o,e,λv z=>by rw[d]at z;cases z⟩
 keep:=λi h h' st k=>st.at λo e=>k it (by simp) o e
 item:=by
  intro X hP hw hK hc i pins s σ H E I hf st hg;subst hP hw hK;obtain⟨xs,x,hq,hx⟩:=hg;obtain⟨its,rv,p,hz⟩:=I.list hq;obtain⟨u,hu,ru⟩:=rv.get hx;obtain⟨f0,f1,f2,f3,f4,f5⟩:=hf it (by simp);refine wpAny_pyNext_list_item st p.isList (by simpa using hu) λh' st' sb=>?_;have I1:=I.turned (t':=s.toks) (λb o hb e=>(sb.2 b hb).trans e) f0 f1 f3 f4 f5;obtain⟨o,e,c,d⟩:=id st';exact⟨u,rfl,Cw e c d (by decide) ⟨x,H,I1,ru,⟨rfl,λys hy=>by rwa [I.list_inj hy hq]⟩,st',λb hb=>(hf b hb).1⟩⟩
 done:=by
  intro X hP hw hK hc i pins s σ H E I hf st hg;subst hP hw hK;obtain⟨xs,hq,hx⟩:=hg;obtain⟨its,rv,p,hz⟩:=I.list hq;obtain⟨f0,f1,f2,f3,f4,f5⟩:=hf it (by simp);have hl:=rv.length;exact wpAny_pyNext_list_end (I.ok.hd hc) st p.isList (by simp;exact q0f hl hx) λh' eb=>⟨rfl,I.turned (t':=s.toks) (λb o hb e=>eb b o hb e) f0 f1 f3 f4 f5⟩
 self:=λ_ _ _ _ _ st h=>wpAny_pyIter_listiter st h
def ES{P w K tg}(a it):Turn P w K tg (kB K a) [it] it (λi h=>h.IsTupleIter it a i)where
 mem:=by simp
 obj:=λi h st b hb=>by
  have e:b=it:=by simpa using hb
  subst e;obtain⟨o,e,c,d⟩:=st;exact⟨o,e,λv z=>by rw[d]at z;cases z⟩
 keep:=λi h h' st k=>st.at λo e=>k it (by simp) o e
 item:=by
  intro X hP hw hK hc i pins s σ H E I hf st hg;subst hP hw hK;obtain⟨xs,x,hq,hx⟩:=hg;obtain⟨its,rv,p,hz⟩:=I.tuple hq;obtain⟨u,hu,ru⟩:=rv.get hx;obtain⟨f0,f1,f2,f3,f4,f5⟩:=hf it (by simp);refine wpAny_pyNext_tuple_item st (p) (by simpa using hu) λh' st' sb=>?_;have I1:=I.turned (t':=s.toks) (λb o hb e=>(sb.2 b hb).trans e) f0 f1 f3 f4 f5;obtain⟨o,e,c,d⟩:=id st';exact⟨u,rfl,Cw e c d (by decide) ⟨x,H,I1,ru,⟨rfl,λys hy=>by rwa [I.tuple_inj hy hq]⟩,st',λb hb=>(hf b hb).1⟩⟩
 done:=by
  intro X hP hw hK hc i pins s σ H E I hf st hg;subst hP hw hK;obtain⟨xs,hq,hx⟩:=hg;obtain⟨its,rv,p,hz⟩:=I.tuple hq;obtain⟨f0,f1,f2,f3,f4,f5⟩:=hf it (by simp);have hl:=rv.length;exact wpAny_pyNext_tuple_end (I.ok.hd hc) st (p) (by simp;exact q0f hl hx) λh' eb=>⟨rfl,I.turned (t':=s.toks) (λb o hb e=>eb b o hb e) f0 f1 f3 f4 f5⟩
 self:=λ_ _ _ _ _ st h=>wpAny_pyIter_tupleiter st h
def ER{P w K tg}(it)(lo)(n:Nat):Turn P w K tg (q8 lo n) [it] it (λi h=>IsRangeIter h it (lo+(i:Nat)*1) ((n:Int)-(i:Nat)) 1)where
 mem:=by simp
 obj:=λi h st b hb=>by
  have e:b=it:=by simpa using hb
  subst e;exact⟨_,st,λv z=>by
   have z':Data.fields _=Data.cell v:=z;cases z'⟩
 keep:=λi h h' st k=>k it (by simp) _ st
 item:=by
  intro X hP hw hK hc i pins s σ H E I hf st hg;subst hP hw hK;obtain⟨f0,f1,f2,f3,f4,f5⟩:=hf it (by simp);have W:=Walks.range (prog:=X.prog) (w:=X.w) (I.ok.hd hc) it lo 1 n;refine W.item i s _ _ hg st λv h' tk hv st' kk=>?_;obtain⟨t,rfl⟩:=hv;have I1:Inv X pins σ H {s with heap:=h',toks:=tk}:=I.turned (λb o hb e=>kk b o (by simpa using hb) e) f0 f1 f3 f4 f5;refine⟨_,rfl,Cw st' rfl rfl (by decide) ⟨.int _,H,I1,⟨t, ?_⟩,⟨rfl,rfl⟩,st',λb hb=>(hf b hb).1⟩⟩;rw[Int.mul_one]
 done:=by
  intro X hP hw hK hc i pins s σ H E I hf st hg;subst hP hw hK;obtain⟨f0,f1,f2,f3,f4,f5⟩:=hf it (by simp);exact wpAny_pyNext_range_end (I.ok.hd hc) st (by have:n<=i:=hg;omega) λh' eb=>⟨rfl,I.turned (t':=s.toks) (λb o hb e=>eb b o hb e) f0 f1 f3 f4 f5⟩
 self:=λ_ _ _ _ _ st h=>wpAny_pyIter_rangeiter st h
end L2
namespace L2
open PySem PySem.Spec PyProof.Rows
section
variable{X:Cx}{tg:Expr}
def mE(K:zzA)(tl:TE):TI:=λσ H R=>tl σ H λx H1=>∃a,x = .ref a/\(∃xs,Pc K H1 a xs)/\R (kq K a) H1
def jy(K:zzA)(tl:TE):TI:=λσ H R=>tl σ H λx H1=>∃a,x = .ref a/\(∃xs,V_ K H1 a xs)/\R (kB K a) H1
def NK{l tl}(hl:PE X l tl):PI X tg l (mE X.K tl):=by
 intro pins s σ H R I h;refine xU (hl pins s σ H _ I h) λv s1 ⟨x,H1,I1,r1,q1⟩=>?_;obtain⟨a,e,⟨xs,hq⟩,q⟩:=q1;subst e;cases r1;obtain⟨its,rv,p,hz⟩:=I1.list hq;refine wpAny_pyIter_list p.isList ?_;refine⟨s1.heap.objs.size,[s1.heap.objs.size],_,_,H1,rfl,I1.kept (t':=s1.toks) λb o e=>zxG _ e,Hv a _,⟨_,zxI _ rfl,rfl,rfl⟩,λb hb=>?_,q⟩;have e:b=s1.heap.objs.size:=by simpa using hb
 subst e;exact I1.fpOk (zzN _)<|I1.hok.fresh<|zzN _
def Fp{l tl}(hl:PE X l tl):PI X tg l (jy X.K tl):=by
 intro pins s σ H R I h;refine xU (hl pins s σ H _ I h) λv s1 ⟨x,H1,I1,r1,q1⟩=>?_;obtain⟨a,e,⟨xs,hq⟩,q⟩:=q1;subst e;cases r1;obtain⟨its,rv,p,hz⟩:=I1.tuple hq;refine wpAny_pyIter_tuple (p) ?_;refine⟨s1.heap.objs.size,[s1.heap.objs.size],_,_,H1,rfl,I1.kept (t':=s1.toks) λb o e=>zxG _ e,ES a _,⟨_,zxI _ rfl,rfl,rfl⟩,λb hb=>?_,q⟩;have e:b=s1.heap.objs.size:=by simpa using hb
 subst e;exact I1.fpOk (zzN _)<|I1.hok.fresh<|zzN _
def M4{pins σ H s R E lo hi t u v}{tk:Nat}(I:Inv X pins σ H s)(h1 : -(2 ^ 62)<=lo)(h2:lo<2 ^ 62)(h3 : -(2 ^ 62)<=hi)(h4:hi<2 ^ 62)
 (q:R (q8 lo (hi-lo).toNat) H):wpAny (model X.prog X.w) X.A (pyIter<|.ref s.heap.objs.size) (iG X pins σ tg R) E {s with heap:=s.heap.push {cls:=.type "range",data:=.fields #[.int lo t,.int hi u,.int 1 v]},toks:=tk}:=by
 refine wpAny_pyIter_range (IsRange.new ..) (small_one h1 h2 h3 h4) ?_;have I1:Inv X pins σ H {s with heap:=s.heap.push {cls:=.type "range",data:=.fields #[.int lo t,.int hi u,.int 1 v]},toks:=tk}:=I.kept λb o e=>zxG _ e;refine⟨(s.heap.push {cls:=.type "range",data:=.fields #[.int lo t,.int hi u,.int 1 v]}).objs.size,[(s.heap.push {cls:=.type "range",data:=.fields #[.int lo t,.int hi u,.int 1 v]}).objs.size],_,_,H,rfl,
  I1.kept (t':=tk) λb o e=>zxG _ e,ER _ lo (hi-lo).toNat, ?_,λb hb=>?_,q⟩
 . have e1:lo+((0:Nat):Int)*1=lo:=by simp
   have e2:(((hi-lo).toNat:Nat):Int)-((0:Nat):Int)=Builtin.Range.rangeSize lo hi 1:=by rw[rangeSize_one];split<;>omega
   rw[e1,e2];exact zxI _ rfl
 . have e:b=(s.heap.push {cls:=.type "range",data:=.fields #[.int lo t,.int hi u,.int 1 v]}).objs.size:=by simpa using hb
   subst e;exact I1.fpOk (zzN _)<|I1.hok.fresh<|zzN _
def n3(ta:TA):TI:=λσ H R=>ta σ H λvs H1=>∃j:Int,vs=[.int j] /\ -(2 ^ 62)<=j/\j<2 ^ 62/\R (q8 0 j.toNat) H1
def pS(ta:TA):TI:=λσ H R=>ta σ H λvs H1=>∃i j:Int,vs=[.int i,.int j]/\(-(2 ^ 62)<=i/\i<2 ^ 62 /\ -(2 ^ 62)<=j/\j<2 ^ 62)/\R (q8 i (j-i).toNat) H1
def Kz{a ta p pos}(hg:Gl X "range")(hm:X.mg "range"=none)(ha:PA X [a] ta)(hs:starEach [a] X.env=[(false,eval a X.env)]:=by rfl):PI X tg (.Call (.Name "range" p) [a] [] pos) (n3 ta):=by
 intro pins s σ H R I h;refine Call_<|WI I hg hm boot_range<|PyProof.Rows.callWith_type1 (xU (ha pos pins s σ H _ I h) λus s1 ⟨vs,H1,I1,r1,q1⟩=>?_) hs rfl;obtain⟨j,e,q1,q2,q⟩:=q1;subst e;cases r1 with
 |cons r rr=>
  cases rr;obtain⟨t,rfl⟩:=r;exact call_range_1 (M4 I1 (by omega) (by omega) q1 q2<|by simpa using q)
def HV(hg:Gl X "range")(hm:X.mg "range"=none)(ha:PA X [a,b] ta)(hs:starEach [a,b] X.env=[(false,eval a X.env),(false,eval b X.env)]:=by rfl)(hs2:starEach [b] X.env=[(false,eval b X.env)]:=by rfl):
 PI X tg (.Call (.Name "range" p) [a,b] [] pos) (pS ta):=by
 intro pins s σ H R I h;refine Call_ (WI I hg hm boot_range<|PyProof.Rows.callWith_type1 (xU (ha pos pins s σ H _ I h) λus s1 ⟨vs,H1,I1,r1,q1⟩=>?_) (by rw[hs,hs2])<|by rw[hs2];rfl);obtain⟨i,j,e,⟨q1,q2,q3,q4⟩,q⟩:=q1;subst e;cases r1 with
 |cons r rr=>
  cases rr with
  |cons r' rr=>
   cases rr;obtain⟨t,rfl⟩:=r;obtain⟨t',rfl⟩:=r';exact call_range_2<|M4 I1 q1 q2 q3 q4 q
def kN(wi:TI)(g:TG)(tb:TS):TS:=λD σ H=>wi σ H λJ H1=>∃W:Nat->Nat->St->Hp->Prop,(∃m,W 0 m σ H1)/\∀i m σ H,W i m σ H->
 (J.stop i H/\D.nx σ H)\/(J.go i H/\∃N:St->Hp->Prop,(∀σ' H',N σ' H'->∃m',m'<m/\W (i+1) m' σ' H')/\∀x H',J.yld i H x H'->g x σ H' λσ2 H2=>tb {D with nx:=N,ct:=N,bk:=D.nx} σ2 H2)
def Fb(fp:List Addr)(h:Heap):List (Addr×Obj):=fp.filterMap λb=>(h.get? b).map λo=>(b,o)
def Xd(hb:b ∈ fp)(e:h.get? b=some o):(b,o) ∈ Fb fp h:=List.mem_filterMap.mpr ⟨b,hb,by rw[e];rfl⟩
def Hs(hp:p ∈ Fb fp h):p.1 ∈ fp/\h.get? p.1=some p.2:=by
 obtain⟨b,hb,e⟩:=List.mem_filterMap.mp hp;cases q:h.get? b with
 |none=>rw[q]at e;cases e
 |some o=>
  rw[q]at e;have e':_=p:=zzY e;subst e';exact⟨hb,q⟩
def Inv.pinned(I:Inv X pins σ H s)(hf:∀b ∈ fp,Rq X pins H b)(ho:∀b ∈ fp,∃o,s.heap.get? b=some o/\∀v,o.data ≠ .cell v):Inv X (pins++Fb fp s.heap) σ H s:=
 I.pins_of λp hp=>(zzM.mp hp).elim (λz=>I.pin p<|zzL _ z) λz=>by
  obtain⟨hb,e⟩:=Hs z;obtain⟨f0,f1,f2,_⟩:=hf p.1 hb;obtain⟨o,e',d⟩:=ho p.1 hb;rw[e]at e';cases e';exact⟨e,f0,f1,f2,d⟩
def Inv.unpinned(I:Inv X (pins++pl) σ H s):Inv X pins σ H s:=I.pins_of λp hp=>I.pin p<|zzL _<|zzP _ hp
def OI(hp:PassesOwn (model X.prog X.w) X.A X.env X.xe)(hc:X.calm=true)(hi:PI X tg iter wi)(hg:PG X tg g)(hb:Nv X body tb)
 (hs:∀x,foldedSetIterable iter X.env x=pure x:=by intro _;rfl):PS X (.For tg iter body [] pos) (kN wi g tb):=by
 intro pins s σ H D I h;refine wpAny_For (xU (hi pins s σ H _ I h) λv s1 h1=>xU h1 λitv s2 h2=>?_) hs;obtain⟨it,fp,tn,J,H2,e,I2,T,st2,f2,W,⟨m0,w0⟩,turn⟩:=h2;subst e;have stat:∀{H':Hp},(∀b ∈ fp,H' b=none)->∀b ∈ fp,Rq X pins H' b:=λhn b hb=>⟨hn b hb,(f2 b hb).2⟩;refine codeAny_forLoop_any (λn s'=>∃i σ' H',Inv X pins σ' H' s'/\tn i s'.heap/\(∀b ∈ fp,H' b=none)/\W i n σ' H') ?_ m0 ⟨0,σ,H2,I2,st2,λb hb=>(f2 b hb).1,w0⟩
 rintro n s3 ⟨i,σ3,H3,I3,st3,fr3,w3⟩
 rcases turn i n σ3 H3 w3 with⟨stop,qn⟩|⟨go,N,hN,step⟩
 . refine wpAny_passesOwn hp<|xU (T.done X rfl rfl rfl hc i pins s3 σ3 H3 X.xe I3 (stat fr3) st3 stop) λr s4 ⟨hr,I4⟩=>?_;subst hr;exact wpAny_execs_nil ⟨σ3,H3,I4,qn⟩
 . refine wpAny_passesOwn hp<|xU (T.item X rfl rfl rfl hc i pins s3 σ3 H3 X.xe I3 (stat fr3) st3 go) λr s4 ⟨u,hr,h4⟩=>?_;subst hr;refine wpAny_passesOwn hp<|xU h4 λ_ s5 ⟨x,H5,I5,r5,y5,st5,fr5⟩=>?_;have I5':=I5.pinned (stat fr5)<|T.obj _ _ st5;refine wpAny_passesOwn hp<|xU (hg _ s5 σ3 H5 x u _ I5' r5<|step x H5 y5) λ_ s6 ⟨σ6,H6,I6,q6⟩=>?_;refine wpAny_passesOwn hp<|xU (hb _ s6 σ6 H6 _ I6 q6) λf s7 q7=>?_;have again:∀{σ7:St}{H7:Hp},Inv X _ σ7 H7 s7->N σ7 H7->∃m,m<n/\∃i σ' H',Inv X pins σ' H' s7/\tn i s7.heap/\(∀b ∈ fp,H' b=none)/\W i m σ' H':=λ{σ7 H7} I7 n7=>by
    obtain⟨m',hm,w7⟩:=hN σ7 H7 n7;refine⟨m',hm,i+1,σ7,H7,I7.unpinned,T.keep _ _ _ st5 λb hb o e=>(I7.pin (b,o)<|zzL _<|zzL _<|Xd hb e).1,λb hb=>?_,w7⟩;obtain⟨o,e,d⟩:=T.obj _ _ st5 b hb;exact(I7.pin (b,o)<|zzL _<|zzL _<|Xd hb e).2.1
   cases f with
   |next=>obtain⟨σ7,H7,I7,n7⟩:=q7;exact again I7 n7
   |cont=>obtain⟨σ7,H7,I7,n7⟩:=q7;exact again I7 n7
   |brk=>obtain⟨σ7,H7,I7,q7⟩:=q7;exact⟨σ7,H7,I7.unpinned,q7⟩
   |ret v=>obtain⟨x7,σ7,H7,I7,r7,q7⟩:=q7;exact⟨x7,σ7,H7,I7.unpinned,r7,q7⟩
end
end L2
namespace L2
open PySem PySem.Spec PyProof.Rows
abbrev R2:=V->V->Hp->VK->Prop
def Ra(X:Cx)(f:Value->Value->Sem Value)(r:R2):Prop:=
 ∀(pins:List (Addr×Obj)) (s:Shared) (σ:St) (H:Hp) (x y:V) (v u:Value) (Q:VK),Inv X pins σ H s->RelV x v->RelV y u->r x y H Q->
  wpAny (model X.prog X.w) X.A (f v u) (EP X pins σ Q) X.xe s
def l_(X:Cx)(f:Value->Sem Value)(r:V->Hp->VK->Prop):Prop:=
 ∀(pins:List (Addr×Obj)) (s:Shared) (σ:St) (H:Hp) (x:V) (v:Value) (Q:VK),Inv X pins σ H s->RelV x v->r x H Q->
  wpAny (model X.prog X.w) X.A (f v) (EP X pins σ Q) X.xe s
def YW(X:Cx)(f:Value)(r:List V->Hp->VK->Prop):Prop:=
 ∀(pins:List (Addr×Obj)) (s:Shared) (σ:St) (H:Hp) (xs:List V) (us:List Value) (Q:VK),Inv X pins σ H s->zQ xs us->r xs H Q->
  wpAny (model X.prog X.w) X.A (call f us) (EP X pins σ Q) X.xe s
def k_(X:Cx)(r:V->Hp->(Bool->Hp->Prop)->Prop):Prop:=
 ∀(pins:List (Addr×Obj)) (s:Shared) (σ:St) (H:Hp) (x:V) (v:Value) (Q:Bool->Hp->Prop),Inv X pins σ H s->RelV x v->r x H Q->
  wpAny (model X.prog X.w) X.A (truthy v) (TP X pins σ Q) X.xe s
def mX(r:R2)(ta tb:TE):TE:=λσ H Q=>ta σ H λx H1=>tb σ H1 λy H2=>r x y H2 Q
def gF(r:V->Hp->VK->Prop)(ta:TE):TE:=λσ H Q=>ta σ H λx H1=>r x H1 Q
def rI(C:Int->Int->Prop)(g:Int->Int->V):R2:=λx y H Q=>∃i j,x = .int i/\y = .int j/\C i j/\Q (g i j) H
def uJ(g:Int->Int->V):R2:=λx y H Q=>∃i j,x = .int i/\y = .int j/\Q (g i j) H
def rU(g:Int->V):V->Hp->VK->Prop:=λx H Q=>∃i,x = .int i/\Q (g i) H
section
variable{X:Cx}{a b c:Expr}{ta tb tc:TE}{pos:Pos}
def sH(ha:PE X a ta)(hb:PE X b tb){pins s σ H}{R:V->V->Hp->Prop}(I:Inv X pins σ H s)
 (h:ta σ H λx H1=>tb σ H1 λy H2=>R x y H2) {Q:Value->Shared->Prop}{f:Value->Value->Sem Value}
 (hf:∀v u s2 x y H2,Inv X pins σ H2 s2->RelV x v->RelV y u->R x y H2->wpAny (model X.prog X.w) X.A (f v u) Q X.xe s2):
 wpAny (model X.prog X.w) X.A (eval a X.env) (λv s₁=>wpAny (model X.prog X.w) X.A (eval b X.env) (λu s₂=>wpAny (model X.prog X.w) X.A (f v u) Q X.xe s₂) X.xe s₁) X.xe s:=by
 refine xU (ha pins s σ H _ I h) λv s1 ⟨x,H1,I1,r1,q1⟩=>?_;refine xU (hb pins s1 σ H1 _ I1 q1) λu s2 ⟨y,H2,I2,r2,q2⟩=>?_;exact hf v u s2 x y H2 I2 r1 r2 q2
def lR{op}{r:R2}(ho:Ra X (binaryOp op) r)(ha:PE X a ta)(hb:PE X b tb):PE X (.BinOp a op b pos) (mX r ta tb):=by
 intro pins s σ H Q I h;exact wpAny_BinOp<|sH ha hb I h λv u s2 x y H2 I2 rx ry q=>ho pins s2 σ H2 x y v u Q I2 rx ry q
def oF(ho:l_ X (unaryOp op) r)(ha:PE X a ta):PE X (.UnaryOp op a pos) (gF r ta):=by
 intro pins s σ H Q I h;exact UnaryOp_<|xU (ha pins s σ H _ I h) λv s1 ⟨x,H1,I1,r1,q1⟩=>ho pins s1 σ H1 x v Q I1 r1 q1
def ja{f C}{g:Int->Int->Int}
 (rule:∀(i j:Int) (t u:Tok) (s:Shared) (Q:Value->Shared->Prop) (E:Value->Shared->Prop),C i j->Q (.int (g i j) s.toks) {s with toks:=s.toks+1}->wpAny (model X.prog X.w) X.A (f (.int i t)<|.int j u) Q E s):
 Ra X f (rI C λi j=>.int<|g i j):=by
 intro pins s σ H x y v u Q I rx ry h;obtain⟨i,j,rfl,rfl,hc,q⟩:=h;obtain⟨t,rfl⟩:=rx;obtain⟨t',rfl⟩:=ry;exact rule i j t t' s _ _ hc ⟨.int _,H,I.tok _,⟨_,rfl⟩,q⟩
def mR{f}{g:Int->Int->Int}
 (rule:∀(i j:Int) (t u:Tok) (s:Shared) (Q:Value->Shared->Prop) (E:Value->Shared->Prop),Q (.int (g i j) s.toks) {s with toks:=s.toks+1}->wpAny (model X.prog X.w) X.A (f (.int i t)<|.int j u) Q E s):
 Ra X f (uJ λi j=>.int<|g i j):=by
 intro pins s σ H x y v u Q I rx ry h;obtain⟨i,j,rfl,rfl,q⟩:=h;obtain⟨t,rfl⟩:=rx;obtain⟨t',rfl⟩:=ry;exact rule i j t t' s _ _ ⟨.int _,H,I.tok _,⟨_,rfl⟩,q⟩
def J1{f}{g:Int->Int->Bool}
 (rule:∀(i j:Int) (t u:Tok) (s:Shared) (Q:Value->Shared->Prop) (E:Value->Shared->Prop),Q (.bool<|g i j) s->wpAny (model X.prog X.w) X.A (f (.int i t)<|.int j u) Q E s):
 Ra X f (uJ λi j=>.bl<|g i j):=by
 intro pins s σ H x y v u Q I rx ry h;obtain⟨i,j,rfl,rfl,q⟩:=h;obtain⟨t,rfl⟩:=rx;obtain⟨t',rfl⟩:=ry;exact rule i j t t' s _ _ ⟨.bl _,H,I,rfl,q⟩
def oM(i j:Int):Prop:=0<=j/\j<=1000000/\i.natAbs<2 ^ 64
def tH:Ra X (binaryOp .Add) (uJ λi j=>.int<|i+j):=mR λ_ _ _ _ _ _ _ q=>add_int q
def qS:Ra X (binaryOp .Sub) (uJ λi j=>.int<|i-j):=mR λ_ _ _ _ _ _ _ q=>sub_int q
def uT:Ra X (binaryOp .Mod) (rI (λ_ j=>0<j) λi j=>.int<|i%j):=ja λi j _ _ _ _ _ hc q=>mod_int' (by omega) (by rwa [Int.fmod_eq_emod_of_nonneg i<|by omega])
def qb:Ra X (binaryOp .Pow) (rI oM λi j=>.int<|i ^ j.toNat):=ja λ_ _ _ _ _ _ _ hc q=>pow_int_small hc.1 hc.2.1 hc.2.2 q
def qO:Ra X (binaryOp .LShift) (rI oM λi j=>.int<|i*2 ^ j.toNat):=ja λ_ _ _ _ _ _ _ hc q=>lshift_int_small hc.1 hc.2.1 hc.2.2 q
def gR{f}{g:Int->Int}
 (rule:∀(i:Int) (t:Tok) (s:Shared) (Q:Value->Shared->Prop) (E:Value->Shared->Prop),Q (.int (g i) s.toks) {s with toks:=s.toks+1}->wpAny (model X.prog X.w) X.A (f<|.int i t) Q E s):
 l_ X f (rU λi=>.int<|g i):=by
 intro pins s σ H x v Q I rx h;obtain⟨i,rfl,q⟩:=h;obtain⟨t,rfl⟩:=rx;exact rule i t s _ _ ⟨.int _,H,I.tok _,⟨_,rfl⟩,q⟩
def qk:l_ X (unaryOp .USub) (rU λi=>.int (-i)):=gR λ_ _ _ _ _ q=>neg_int q
end
section
variable{X:Cx}{a b c:Expr}{ta tb tc:TE}{pos:Pos}
def Wu(I:Inv X pins σ H s)(q:Q (.bl k) H)(e:k=k'):EP X pins σ Q (.bool k') s:=by
 subst e;exact⟨.bl k,H,I,rfl,q⟩
def nt:Ra X (compareOp .Lt) (uJ λi j=>.bl<|decide (i<j)):=J1 λ_ _ _ _ _ _ _ q=>lt_int q
def lr:Ra X (compareOp .LtE) (uJ λi j=>.bl<|decide (i<=j)):=J1 λ_ _ _ _ _ _ _ q=>le_int q
def nr:Ra X (compareOp .Gt) (uJ λi j=>.bl<|decide (j<i)):=J1 λ_ _ _ _ _ _ _ q=>gt_int q
def o8:Ra X (compareOp .GtE) (uJ λi j=>.bl<|decide (j<=i)):=J1 λ_ _ _ _ _ _ _ q=>ge_int q
def rf:Ra X (compareOp .Is) (λx y H Q=>y = .non/\Q (.bl<|decide (x = .non)) H):=by
 intro pins s σ H x y v u Q I rx ry h;obtain⟨rfl,q⟩:=h;cases ry;refine is_none_gen<|Wu I q ?_;cases x<;>first
  |(cases rx;rfl)
  |(obtain⟨t,rfl⟩:=rx;rfl)
def JW:Ra X (compareOp .IsNot) (λx y H Q=>y = .non/\Q (.bl<|!decide (x = .non)) H):=by
 intro pins s σ H x y v u Q I rx ry h;obtain⟨rfl,q⟩:=h;cases ry;refine isnot_none_gen<|Wu I q ?_;cases x<;>first
  |(cases rx;rfl)
  |(obtain⟨t,rfl⟩:=rx;rfl)
def Ca(b)(h:op ≠ .In:=by decide)(h2:op ≠ .NotIn:=by decide):behindInMarks op b=false:=by
 have e1:(op==CmpOp.In)=false:=by cases op<;>first|rfl|exact absurd rfl h
 have e2:(op==CmpOp.NotIn)=false:=by cases op<;>first|rfl|exact absurd rfl h2
 cases b<;>simp[behindInMarks,e1,e2]
def Ao{op}{r:R2}(ho:Ra X (compareOp op) r)(ha:PE X a ta)(hb:PE X b tb)(hm:behindInMarks op b=false):PE X (.Compare a [op] [b] pos) (mX r ta tb):=by
 intro pins s σ H Q I h;exact wpAny_Compare1 (sH ha hb I h λv u s2 x y H2 I2 rx ry q=>ho pins s2 σ H2 x y v u Q I2 rx ry q) hm
def lX(t:TE):TT:=λσ H Q=>t σ H λx H'=>∃k,x = .bl k/\Q k H'
def Di(ho:Ra X (compareOp op) r)(ha:PE X a ta)(hb:PE X b tb)(hm:behindInMarks op b=false):PT X (.Compare a [op] [b] pos) (lX<|mX r ta tb):=by
 intro pins s σ H Q I h;refine wpAny_isTrue_Compare1 (xU (ha pins s σ H _ I h) λv s1 ⟨x,H1,I1,r1,q1⟩=>xU (hb pins s1 σ H1 _ I1 q1) λu s2 ⟨y,H2,I2,r2,q2⟩=>
  xU (ho pins s2 σ H2 x y v u _ I2 r1 r2 q2) λc s3 ⟨z,H3,I3,r3,k,e,q3⟩=>?_) hm
 subst e;cases r3;exact wpAny_truthy_bool ⟨H3,I3,q3⟩
def rh(r r':R2)(ta tb tc:TE):TE:=λσ H Q=>ta σ H λx H1=>tb σ H1 λy H2=>r x y H2 λz H3=>∃k,z = .bl k/\
 (if k=true then tc σ H3 λw' H4=>r' y w' H4 Q else Q (.bl false) H3)
def IT(ho:Ra X (compareOp op) r)(ho':Ra X (compareOp op') r')(ha:PE X a ta)(hb:PE X b tb)(hc:PE X c tc)
 (hm:lastMarks [op,op'] [b,c]=false:=by with_unfolding_all rfl):PE X (.Compare a [op,op'] [b,c] pos) (rh r r' ta tb tc):=by
 intro pins s σ H Q I h;refine Compare_chain (xU (ha pins s σ H _ I h) λv s1 ⟨x,H1,I1,r1,q1⟩=>chain_link<|xU (hb pins s1 σ H1 _ I1 q1) λu s2 ⟨y,H2,I2,r2,q2⟩=>
  xU (ho pins s2 σ H2 x y v u _ I2 r1 r2 q2) λd s3 ⟨z,H3,I3,r3,k,e,q3⟩=>?_) hm
 subst e;cases r3;refine wpAny_truthy_bool ?_;cases k with
 |false=>exact ite_ff ⟨.bl false,H3,I3,rfl,q3⟩
 |true=>exact ite_tt (chain_last<|xU (hc pins s3 σ H3 _ I3 q3) λw' s4 ⟨z',H4,I4,r4,q4⟩=>ho' pins s4 σ H4 y z' u w' Q I4 r2 r4 q4)
def qR(K:zzA)(x:V)(H:Hp)(k:Bool):Prop:=
 match x with
 | .non=>k=false
 | .bl b=>k=b
 | .int i=>k=(i != 0)
 | .str y=>y.length<=sizeLine/\k=((y.length:Int) != 0)
 | .byt y=>y.size<=sizeLine/\k=((y.size:Int) != 0)
 | .ref p=>(∃xs,Pc K H p xs/\k = !xs.isEmpty)\/(∃xs,V_ K H p xs/\k = !xs.isEmpty)\/∃kvs,H p=some (.dK kvs)/\k = !kvs.isEmpty
 |_=>False
def Fc(r:KV kvs vs):(!vs.isEmpty) = !kvs.isEmpty:=by
 cases r<;>rfl
def Pw(r:zQ xs its):(!its.toArray.isEmpty) = !xs.isEmpty:=by
 cases r<;>simp
def V0:(sizeLine:Nat)<2 ^ 63:=by decide
def qK:k_ X (λx H Q=>∃k,qR X.K x H k/\Q k H):=by
 intro pins s σ H x v Q I rx h;obtain⟨k,e,q⟩:=h;have hl:=V0;have hs:=sizeLine_eq;cases x with
 |non=>
  cases rx;have e':k=false:=e;subst e';exact truthy_none ⟨H,I,q⟩
 |bl b=>
  cases rx;have e':k=b:=e;subst e';exact wpAny_truthy_bool ⟨H,I,q⟩
 |int i=>
  obtain⟨t,rfl⟩:=rx;have e':k=(i != 0):=e;subst e';exact PySem.P.truthy_int ⟨H,I,q⟩
 |str y=>
  obtain⟨t,rfl⟩:=rx;obtain⟨hy,e'⟩:y.length<=sizeLine/\k=_:=e;subst e';exact PySem.P.truthy_str (q1H hs hy) ⟨H,I.tok _,q⟩
 |byt y=>
  obtain⟨t,rfl⟩:=rx;obtain⟨hy,e'⟩:y.size<=sizeLine/\k=_:=e;subst e';exact W.truthy_bytes (q1I hs hy) ⟨H,I.tok _,q⟩
 |ref p=>
  cases rx;have e':_\/_\/∃kvs,H p=some (.dK kvs)/\k = !kvs.isEmpty:=e
  rcases e' with⟨xs,hx,e'⟩|⟨xs,hx,e'⟩|⟨kvs,hx,e'⟩
  . subst e';obtain⟨its,r,pl,hz⟩:=I.list hx;have hlen:=r.length;exact wpAny_truthy_list pl.isList (by simp only[zzH];exact q0x hs hlen hz) ⟨H,I.tok _,by rw[Pw r];exact q⟩
  . subst e';obtain⟨its,r,pl,hz⟩:=I.tuple hx;have hlen:=r.length;exact truthy_tuple pl (by simp only[zzH];exact q0x hs hlen hz) ⟨H,I.tok _,by rw[Pw r];exact q⟩
  . subst e';obtain⟨hz,hS,vs,r,m⟩:kvs.length<=sizeLine/\_=false/\∃vs,KV kvs vs/\s.heap.DictOf _ p vs:=I.hok p _ hx;have hlen:=Paired.length r;exact wpAny_truthy_dict hS m (q0x hs hlen hz) ⟨H,I.tok _,by rw[Fc r];exact q⟩
 |_=>exact(e).elim
def C8(ha:PE X a ta)(he:∀whole,isTrue a X.env whole=(do let v <-whole;standAt a.pos;holding [v] (truthy v))):
 PT X a (λσ H Q=>ta σ H λx H'=>∃k,qR X.K x H' k/\Q k H'):=by
 intro pins s σ H Q I h;exact isTrue_plain (xU (ha pins s σ H _ I h) λv s1 ⟨x,H1,I1,r1,q1⟩=>qK pins s1 σ H1 x v Q I1 r1 q1)<|he _
def Bg:Ra X (binaryOp .Add) (λx y H Q=>∃i j,x = .str i/\y = .str j/\i.length+j.length<=sizeLine/\Q (.str<|i++j) H):=by
 intro pins s σ H x y v u Q I rx ry h;obtain⟨i,j,rfl,rfl,hz,q⟩:=h;obtain⟨t,rfl⟩:=rx;obtain⟨t',rfl⟩:=ry;exact add_str (λt' tk=>⟨.str _,H,I.tok _,⟨_,rfl⟩,q⟩) hz
def vals1(r:zQ [x] us):∃u,us=[u]/\RelV x u:=by
 cases r with
 |cons r1 r2=>cases r2;exact⟨_,rfl,r1⟩
def vals2(r:zQ [x,y] us):∃u w',us=[u,w']/\RelV x u/\RelV y w':=by
 cases r with
 |cons r1 r2=>
  cases r2 with
  |cons r3 r4=>cases r4;exact⟨_,_,rfl,r1,r3⟩
def IH:YW X (.builtin "abs") (λxs H Q=>∃i,xs=[.int i]/\Q (.int (if i<0 then -i else i)) H):=by
 intro pins s σ H xs us Q I r h;obtain⟨i,rfl,q⟩:=h;obtain⟨u,rfl,t,rfl⟩:=vals1 r;exact call_abs_int λu tk=>⟨.int _,H,I.tok _,⟨_,rfl⟩,q⟩
def Hb(hc:X.calm=true):YW X (.builtin "max") (λxs H Q=>∃i j,xs=[.int i,.int j]/\Q (.int (if j > i then j else i)) H):=by
 intro pins s σ H xs us Q I r h;obtain⟨i,j,rfl,q⟩:=h;obtain⟨u,w',rfl,⟨t,rfl⟩,⟨t',rfl⟩⟩:=vals2 r;refine max_two_ints (I.ok.hd hc) λh' tk k=>⟨_,H,I.kept k, ?_,q⟩
 by_cases hj:j > i
 . rw[if_pos hj,if_pos hj];exact⟨_,rfl⟩
 . rw[if_neg hj,if_neg hj];exact⟨_,rfl⟩
def Hc(hc:X.calm=true):YW X (.builtin "min") (λxs H Q=>∃i j,xs=[.int i,.int j]/\Q (.int (if j<i then j else i)) H):=by
 intro pins s σ H xs us Q I r h;obtain⟨i,j,rfl,q⟩:=h;obtain⟨u,w',rfl,⟨t,rfl⟩,⟨t',rfl⟩⟩:=vals2 r;refine min_two_ints (I.ok.hd hc) λh' tk k=>⟨_,H,I.kept k, ?_,q⟩
 by_cases hj:j<i
 . rw[if_pos hj,if_pos hj];exact⟨_,rfl⟩
 . rw[if_neg hj,if_neg hj];exact⟨_,rfl⟩
def KH:YW X (.type "int") (λxs H Q=>(∃i,xs=[.int i]/\Q (.int i) H)\/∃k,xs=[.bl k]/\Q (.int (if k then 1 else 0)) H):=by
 intro pins s σ H xs us Q I r h
 rcases h with⟨i,rfl,q⟩|⟨k,rfl,q⟩
 . obtain⟨u,rfl,t,rfl⟩:=vals1 r;exact call_int_int ⟨.int i,H,I,⟨_,rfl⟩,q⟩
 . obtain⟨u,rfl,r1⟩:=vals1 r;cases r1;exact call_int_bool ⟨.int _,H,I.tok _,⟨_,rfl⟩,q⟩
def ia(K:zzA)(x:V)(H:Hp)(n:Nat):Prop:=
 match x with
 | .str y=>y.length<=sizeLine/\n=y.length
 | .byt y=>y.size<=sizeLine/\n=y.size
 | .ref p=>(∃xs,Pc K H p xs/\n=xs.length)\/∃xs,V_ K H p xs/\n=xs.length
 |_=>False
def Ou:YW X (.builtin "len") (λxs H Q=>∃x n,xs=[x]/\ia X.K x H n/\Q (.int n) H):=by
 intro pins s σ H xs us Q I r h;obtain⟨x,n,rfl,e,q⟩:=h;obtain⟨u,rfl,rx⟩:=vals1 r;have hs:=sizeLine_eq;cases x with
 |str y=>
  obtain⟨t,rfl⟩:=rx;obtain⟨hy,e'⟩:y.length<=sizeLine/\n=y.length:=e;subst e';exact len_str (q1H hs hy) ⟨.int _,H,I.tok _,⟨_,rfl⟩,q⟩
 |byt y=>
  obtain⟨t,rfl⟩:=rx;obtain⟨hy,e'⟩:y.size<=sizeLine/\n=y.size:=e;subst e';exact W.len_bytes (q1I hs hy) ⟨.int _,H,I.tok _,⟨_,rfl⟩,q⟩
 |ref p=>
  cases rx;have e':_\/∃xs,V_ X.K H p xs/\n=xs.length:=e
  rcases e' with⟨xs,hx,e'⟩|⟨xs,hx,e'⟩
  . subst e';obtain⟨its,r',pl,hz⟩:=I.list hx;have hlen:=r'.length;exact Calls.call_len_list pl.isList (by simp only[zzH];exact q0x hs hlen hz) ⟨.int xs.length,H,I.tok _,⟨_,by simp only[zzH];rw[hlen]⟩,q⟩
  . subst e';obtain⟨its,r',pl,hz⟩:=I.tuple hx;have hlen:=r'.length;exact len_tuple pl (by simp only[zzH];exact q0x hs hlen hz) ⟨.int xs.length,H,I.tok _,⟨_,by simp only[zzH];rw[hlen]⟩,q⟩
 |_=>exact(e).elim
end
end L2
namespace L2
open PySem PySem.Spec PyProof.Rows
structure ObjM(h:Heap)(x dx C:Addr)(mA:Str->Option Value):Prop where
 obj:h.get? x=some (W.instObj C dx)
 ns:h.Ns1 dx mA
 ne:dx≠x
def HU{h:Heap}{dx mA}(n:h.Ns1 dx mA):∃od,h.get? dx=some od/\∀name,W.lookIn name od=some (mA name):=by
 obtain⟨o,es,ep,ho,hd,hk,_,hm⟩:=n;refine⟨o,ho,λname=>?_⟩;have e:=hm name;unfold nsFind findBy at e;rw[<-Array.find?_toList]at e;unfold W.lookIn;rw[hd];dsimp only
 split
 . rename_i y q;rw[q]at e;exact congrArg some e
 . rename_i q;rw[q]at e;have a:es.toList.any (·.refKey)=false:=by
    rw[List.any_eq_false];intro y hy;obtain⟨z,t,hkey⟩:=hk y<|Array.mem_toList_iff.mp hy;simp[DictEntry.refKey,hkey]
   have a':¬es.toList.any (·.refKey)=true:=by rw[a];exact zyU
   rw[if_neg a'];exact congrArg some e
def ObjM.look(I:ObjM h x dx C mA):∃od,PySem.W.InstAt h x (W.instObj C dx) C (some od)/\∀name,W.lookIn name od=some (mA name):=
 let⟨od,ho,hl⟩:=HU I.ns
 ⟨od,⟨I.obj,rfl,rfl,ho⟩,hl⟩
section
variable{prog:Program}{w:World}{A:Around}{E:Value->Shared->Prop}{s:Shared}{K:zzA}{x dx C f:Addr}{mA:Str->Option Value}{name:Str}{v:Value}
def Dx(X:K.In s.heap)(I:ObjM s.heap x dx C mA)(hg:W.plainGet K C name=true)(hh:W.hasDictIn K C=true)
 (ha:W.findIn K (.ref C) name=some none) (hv:mA name=some v) (hv':W.handedIn v=true) (h:Q v {s with toks:=s.toks+1}):
 wpAny (model prog w) A (getAttr (.ref x) name expr) Q E s:=by
 obtain⟨od,J,hl⟩:=I.look;exact W.get_value X J (W.plainGet_of hg).1 (W.findObj_own hh ha rfl<|by rw[hl,hv]) hv' h
def OM(X:K.In s.heap)(I:ObjM s.heap x dx C mA)(hg:W.plainGet K C name=true)
 (hf:W.findIn K (.ref C) name=some (some<|.ref f)) (ht:W.isFn K (.ref f)=true) (hv:mA name=none) (h:Q (.ref f,[.ref x]) s):
 wpAny (model prog w) A (getMethod (.ref x) name pl) Q E s:=by
 obtain⟨od,J,hl⟩:=I.look;exact W.method_fn X J (W.plainGet_of hg).1 (W.plainGet_of hg).2 hf (beq_iff_eq.mp ht) (by show(W.lookIn name od).map _=_;rw[hl,hv];rfl) h
def Ag(X:K.In s.heap)(I:ObjM s.heap x dx C mA)
 (hs:W.findIn K (.ref C) "__setattr__"=some (some<|.builtin "object.__setattr__")) (hp:W.plainOver K C=true) (ht:W.takerIn K C name=some none) (hh:W.hasDictIn K C=true)
 (hw:PySem.Within mA ns) (hsz:ns.length<=sizeLine)
 (h:∀h',ObjM h' x dx C (λy=>if y=name then some v else mA y)->Heap.SameBut dx s.heap h'->Q () {s with heap:=h',toks:=s.toks+2}):
 wpAny (model prog w) A (setAttr (.ref x) name v) Q E s:=by
 obtain⟨od,J,hl⟩:=I.look;refine W.set_plain X J hs<|W.osa_open X J hp ht λb=>?_;obtain⟨cd,hc,hd'⟩:=W.any_some hh;have hx:=I.obj;refine zxE<|zxF<|zxE<|zxE<|wpAny_loadPart hx<|zxE<|PySem.W.Looks.here (W.looks_clsIn X hc) ?_;rw[hd'];refine zxF<|zxE<|zxF<|zxE ?_;refine wpAny_nsSet1 I.ns λh' hn2 hs2=>?_;obtain⟨oD,esD,epD,hoD,hdD,hcD⟩:=hn2.count<|PySem.Within.cons name v hw;refine zxE<|wpAny_lookBehind hoD (by rw[hdD];exact pastItsLine_dict<|zzO hcD<|by rw[zzT];omega) ?_;exact zxF<|h _ ⟨(hs2.2 _<|Ne.symm I.ne).trans I.obj,hn2,I.ne⟩ hs2
def OC(X:K.In s.heap)(hm:W.makesIn K C=true)
 (hi:W.findIn K (.ref C) "__init__"=some (some<|.ref f)) (hf:W.typeIn K (.ref f)=some (.type "function"))
 (h:codeAny (model prog w) (A.under<|.builtin "type.__call__" ⟨.ref C::vs,kw⟩) (.call (.ref f) ⟨.ref (s.heap.objs.size+1)::vs,kw⟩) (PySem.W.InitBack (s.heap.objs.size+1) R)
  {s with heap:=(s.heap.push W.emptyDict).push (W.instObj C s.heap.objs.size)}):
 codeAny (model prog w) A (.call (.ref C) ⟨vs,kw⟩) R s:=W.make_core (W.makes_of X hm) (W.looks_findIn X hi) (λself=>W.bind_fn X self hf) (.inl rfl) h
end
def WM(f:Str)(v:V):List (Str×V)->List (Str×V)
 | []=>[(f,v)]
 |(g,x)::r=>if g=f then(g,v)::r else(g,x)::WM f v r
theorem Rf(f g)(v):∀fs:List (Str×V),(WM f v fs).lookup g=if g=f then some v else fs.lookup g
 | []=>by
  show List.lookup g [_]=_
  by_cases h:g=f
  . have hb:=beq_iff_eq.mpr h;simp only[List.lookup,hb,if_pos h]
  . have hb:=beq_eq_false_iff_ne.mpr h;simp only[List.lookup,hb,if_neg h]
 |(k,x)::r=>by
  have ih:=Rf f g v r;rw[show WM f v _=(if k=f then _::r else _::WM f v r)from rfl]
  by_cases hk:k=f
  . rw[if_pos hk]
    by_cases h:g=k
    . have hb:=beq_iff_eq.mpr h;simp only[List.lookup,hb,if_pos<|h.trans hk]
    . have hb:=beq_eq_false_iff_ne.mpr h;simp only[List.lookup,hb,if_neg (λe:g=f=>h<|e.trans hk.symm)]
  . rw[if_neg hk]
    by_cases h:g=k
    . have hb:=beq_iff_eq.mpr h;simp only[List.lookup,hb,if_neg (λe:g=f=>hk<|h.symm.trans e)]
    . have hb:=beq_eq_false_iff_ne.mpr h;simp only[List.lookup,hb];exact ih
theorem Q9(f)(v):∀fs:List (Str×V),f ∈ (WM f v fs).map (·.1)/\∀g,g ∈ fs.map (·.1)->g ∈ (WM f v fs).map (·.1)
 | []=>⟨by simp[WM],λg h=>by simp at h⟩
 |(k,x)::r=>by
  obtain⟨i1,i2⟩:=Q9 f v r;rw[show WM f v _=(if k=f then _::r else _::WM f v r)from rfl]
  by_cases hk:k=f
  . rw[if_pos hk];subst hk;exact⟨by simp,λg h=>by simpa using h⟩
  . rw[if_neg hk];refine⟨?_,λg h=>?_⟩
    . rw[zyR];exact zzD _ i1
    . rw[zyR]at h ⊢
      rcases zzC.mp h with e|e
      . exact zzC.mpr<|.inl e
      . exact zzD _<|i2 g e
theorem UN(f)(v):∀fs:List (Str×V),(WM f v fs).length<=fs.length+1
 | []=>by simp[WM]
 |(k,x)::r=>by
  have ih:=UN f v r;rw[show WM f v _=(if k=f then _::r else _::WM f v r)from rfl]
  by_cases hk:k=f
  . rw[if_pos hk,zzT,zzT];omega
  . rw[if_neg hk,zzT,zzT];omega
def VW.some_of(r:VW (some v) o):∃u,o=some u/\RelV v u:=by
 cases o with
 |none=>exact(r).elim
 |some u=>exact⟨u,rfl,r⟩
def VW.none_of(r:VW none o):o=none:=by
 cases o with
 |none=>rfl
 |some u=>exact(r).elim
def HB(r:RelV v u):W.handedIn u=true:=by
 cases v with
 |non=>cases(r);rfl
 |bl b=>cases(r);rfl
 |int i=>obtain⟨t,e⟩:=(r);cases e;rfl
 |str x=>obtain⟨t,e⟩:=(r);cases e;rfl
 |byt b=>obtain⟨t,e⟩:=(r);cases e;rfl
 |flt b=>obtain⟨t,e⟩:=(r);cases e;rfl
 |ref a=>cases(r);rfl
 |ty n=>cases(r);rfl
section
variable{P:Program}{w:World}{H H':Hp}{h h':Heap}{a C dx:Addr}{fs fs':List (Str×V)}
def Nm(hok:Qa P w H h)(e:H a=some (.ins C dx fs)):∃mA,ObjM h a dx C mA/\(∀f,VW (fs.lookup f)<|mA f)/\PySem.Within mA (fs.map (·.1))/\fs.length<=1000/\H dx=some (.own a):=by
 obtain⟨d,z,ne,ob,mA,n,r,q⟩:=(hok a _ e);exact⟨mA,⟨ob,n,ne⟩,r,q,z,d⟩
end
structure Cls(K:zzA)(C:Addr):Prop where
 pg:W.plainGet K C Str.empty=true
 hd:W.hasDictIn K C=true
 po:W.plainOver K C=true
 sa:W.findIn K (.ref C) "__setattr__"=some (some<|.builtin "object.__setattr__")
def Cls.get{K C}(c:Cls K C)(f):W.plainGet K C f=true:=c.pg
def yG(K:zzA)(C:Addr)(f:Str):Prop:=W.findIn K (.ref C) f=some none
def yG.taker{K C f}(n:yG K C f):W.takerIn K C f=some none:=by
 unfold W.takerIn;rw[show W.findIn K _ f=some none from n];rfl
structure Meth(K:zzA)(C:Addr)(m:Str)(f:Addr):Prop where
 at_:W.findIn K (.ref C) m=some (some<|.ref f)
 fn:W.isFn K (.ref f)=true
 kp:W.keepIn K (.ref f)=true
section
variable{X:Cx}{pins:List (Addr×Obj)}{σ:St}{H:Hp}{s:Shared}{a C dx:Addr}{fs:List (Str×V)}{f:Str}{v:V}{A:Around}{E:Value->Shared->Prop}
def Fz(I:Inv X pins σ H s)(e:H a=some (.ins C dx fs))(c:Cls X.K C)(n:yG X.K C f)(l:fs.lookup f=some v)
 (h:∀u s',Inv X pins σ H s'->RelV v u->Q u s'):wpAny (model X.prog X.w) A (getAttr (.ref a) f b) Q E s:=by
 obtain⟨mA,O,r,_,_,_⟩:=Nm I.hok e;obtain⟨u,hu,ru⟩:=VW.some_of (by rw[<-l];exact r f);exact Dx I.kIn O (c.get f) c.hd n hu (HB ru)<|h u _ (I.tok _) ru
def TC(I:Inv X pins σ H s)(e:H a=some (.ins C dx fs))(c:Cls X.K C)(k:Meth X.K C m g)(l:fs.lookup m=none)
 (h:Q (.ref g,[.ref a]) s):wpAny (model X.prog X.w) A (getMethod (.ref a) m pl) Q E s:=by
 obtain⟨mA,O,r,_,_,_⟩:=Nm I.hok e;have hn:=VW.none_of (by rw[<-l];exact r m);exact OM I.kIn O (c.get m) k.at_ k.fn hn h
def EU(I:Inv X pins σ H s)(e:H a=some (.ins C dx fs))(c:Cls X.K C)(n:yG X.K C f)(hl:fs.length<1000)(ry:RelV y u)
 (h:∀s',Inv X pins σ (upd H a<|.ins C dx<|WM f y fs) s'->Q () s'):wpAny (model X.prog X.w) A (setAttr (.ref a) f u) Q E s:=by
 obtain⟨mA,O,r,wi,_,ho⟩:=Nm I.hok e;have hz:(fs.map (·.1)).length<=sizeLine:=by rw[zzB,sizeLine_eq];omega
 refine Ag I.kIn O c.sa c.po n.taker c.hd wi hz λh' O' sb=>h _ ?_;have hd:∃o,h'.get? dx=some o:=let⟨o,_,_,e',_⟩:=O'.ns;⟨o,e'⟩;refine I.write (by rw[e];exact True.intro) (.inr ho) (λb q hb z=>(sb.2 b hb).trans z) hd ?_;refine⟨by rw[zF O.ne];exact ho, ?_,O.ne,O'.obj,_,O'.ns,λg=>?_,λg hg=>?_⟩
 . have:=UN f y fs;omega
 . show VW _ _;rw[Rf]
   by_cases q:g=f
   . rwa [if_pos q,if_pos q]
   . rw[if_neg q,if_neg q];exact r g
 . by_cases q:g=f
   . rw[q];exact(Q9 f y fs).1
   . refine(Q9 f y fs).2 g<|wi g λz=>hg ?_;show(if g=f then some u else mA g)=_
     rwa [if_neg q]
def Inv.made(I:Inv X pins σ H s):Inv X pins σ (upd (upd H s.heap.objs.size<|.own<|s.heap.objs.size+1) (s.heap.objs.size+1)<|.ins C s.heap.objs.size [])
 {s with heap:=(s.heap.push W.emptyDict).push (W.instObj C s.heap.objs.size)}:=by
 have e1:(s.heap.push W.emptyDict).get? s.heap.objs.size=some W.emptyDict:=zxI s.heap rfl;have e2:((s.heap.push W.emptyDict).push<|W.instObj C s.heap.objs.size).get? (s.heap.objs.size+1)=some (W.instObj C s.heap.objs.size):=by
  have:=zxI (s.heap.push W.emptyDict) (o:=W.instObj C s.heap.objs.size) rfl
  rwa [zxK]at this
 have e3:(s.heap.push W.emptyDict).Ns s.heap.objs.size _:=⟨W.emptyDict,#[],_,e1,rfl,(λe he=>absurd he<|by simp),λ_=>rfl⟩;have I1:=I.laid (o:=.own<|s.heap.objs.size+1) (h':=s.heap.push W.emptyDict) (t':=s.toks) (λb u q=>zxG _ q) (zzN _) ⟨_,e1⟩;refine I1.laid (t':=s.toks) (λb u q=>zxG _ q) (Nat.le_of_eq<|zxK _ _) ?_;have ne:s.heap.objs.size≠s.heap.objs.size+1:=zzQ<|Nat.lt_succ_self _;refine⟨by rw[zF ne,z8],Nat.zero_le _,ne,e2,λ_=>none,(Heap.Ns1.of_empty e3).at λo q=>zxG _ q,λ_=>True.intro,λy hy=>absurd rfl hy⟩
def J7(hb:attributeBase e f env (eval e env)=eval e env)
 (h:wpAny (model prog w) A (eval e env) (λo s₁=>wpAny (model prog w) A (getAttr o f true) Q E s₁) E s):wpAny (model prog w) A (eval (.Attribute e f pos) env) Q E s:=
 Attribute_any_ h (by rw[arm_eval_Attribute,hb])
end
def jo(K:zzA)(ta:TE)(f:Str):TE:=λσ H Q=>ta σ H λx H1=>∃a C dx fs v,x = .ref a/\H1 a=some (.ins C dx fs)/\Cls K C/\yG K C f/\fs.lookup f=some v/\Q v H1
def j0(K:zzA)(ta tv:TE)(f:Str):TS:=λD σ H=>tv σ H λy H1=>ta σ H1 λx H2=>∃a C dx fs,x = .ref a/\H2 a=some (.ins C dx fs)/\Cls K C/\yG K C f/\fs.length<1000/\
 D.nx σ (upd H2 a<|.ins C dx<|WM f y fs)
section
variable{X:Cx}{o e value:Expr}{f:Str}{pos pos' tpos:Pos}{ta tv:TE}
def NZ(he:PE X e ta)(hb:attributeBase e f X.env (eval e X.env)=eval e X.env):PE X (.Attribute e f pos) (jo X.K ta f):=by
 intro pins s σ H Q I h;refine J7 hb<|xU (he pins s σ H _ I h) λu s1 hq0=>?_;obtain⟨x,H1,I1,rx,a,C,dx,fs,v,ex,ea,c,n,l,q⟩:=hq0;subst ex;obtain rfl:u=Value.ref a:=rx;exact Fz I1 ea c n l λu' s2 I2 ru=>⟨v,H1,I2,ru,q⟩
def CW(ha:PE X o ta)(hv:PE X value tv)(hs:swapsWith value (some<|.Attribute o f pos') pos.line X.env=pure false):PS X (.Assign [.Attribute o f pos'] value pos) (j0 X.K ta tv f):=by
 intro pins s σ H D I h;refine plainObj_wpAny_Assign_Attribute (xU (hv pins s σ H _ I h) λu s1 ⟨y,H1,I1,ry,q⟩=>xU (ha pins s1 σ H1 _ I1 q) λov s2 hq0=>?_) hs;obtain⟨x,H2,I2,rx,a,C,dx,fs,ex,ea,c,n,l,q2⟩:=hq0;subst ex;obtain rfl:ov=Value.ref a:=rx;exact EU I2 ea c n l ry λs3 I3=>⟨σ,_,I3,q2⟩
end
section
variable{X:Cx}{pins:List (Addr×Obj)}{σ:St}{H:Hp}{s:Shared}{A:Around}{E:Value->Shared->Prop}{Q:Value->Shared->Prop}{c:Value}{b:Bool}
inductive TyOf(K:zzA)(H:Hp):V->Value->Prop where
 |non:TyOf K H .non (.type "NoneType")
 |bl (x:Bool):TyOf K H (.bl x) (.type "bool")
 |int (i:Int):TyOf K H (.int i) (.type "int")
 |str (x:Str):TyOf K H (.str x) (.type "str")
 |flt (x:UInt64):TyOf K H (.flt x) (.type "float")
 |lst {a:Addr}{xs:List V}(e:H a=some (.lst xs)):TyOf K H (.ref a) (.type "list")
 |frz {a:Addr}{o:Obj}{xs:List V}(e:H a=some (.frz o (.lst xs))):TyOf K H (.ref a) (.type "list")
 |tup {a:Addr}{xs:List V}(e:H a=some (.tup xs)):TyOf K H (.ref a) (.type "tuple")
 |dK {a:Addr}{kvs:List (Key×V)}(e:H a=some (.dK kvs)):TyOf K H (.ref a) (.type "dict")
 |dT {a:Addr}{kvs:List (List Key×V)}(e:H a=some (.dT kvs)):TyOf K H (.ref a) (.type "dict")
 |ins {a C dx:Addr}{fs:List (Str×V)}(e:H a=some (.ins C dx fs)) (cl:Cls K C) (ha:W.findIn K (.ref C) "__class__"=some (some (.builtin "object.__class__")))
  (hn:W.specialIn K (.builtin "object.__class__") "__get__"=some (some<|.builtin "getset_descriptor.__get__")) (htk:W.takesIn K (.builtin "object.__class__")=some true)
  (hm:W.mroIn K C (.type "object")=some true):TyOf K H (.ref a) (.ref C)
end
end L2
namespace L2
open PySem PySem.Spec PyProof.Rows
structure Room(k:Nat)(A:Around):Prop where
 hd:A.handled=none
 dp:A.depth+3*k+5<recursionLimit
 un:A.units+16*k+200<cLine
 gd:A.guards=some []
def Room.mono(r:Room k A)(h:j<=k):Room j A:=⟨r.hd,by have:=r.dp;omega,by have:=r.un;omega,r.gd⟩
theorem Room.deeper(r:Room (k+1) A)(env):Room k (A.deeper env):=
 ⟨r.hd,by have:=r.dp;show A.depth+1+3*k+5<_;exact q0M this,by have:=r.un;show A.units+3+16*k+200<_;omega,r.gd⟩
def E2{A:Around}{C us kw}:(A.under<|.builtin "type.__call__" ⟨.ref C::us,kw⟩).depth=A.depth+1:=rfl
def Fo{A:Around}{C us kw}:(A.under<|.builtin "type.__call__" ⟨.ref C::us,kw⟩).units=A.units+1:=rfl
def Room.make{k:Nat}{A:Around}(r:Room (k+1) A)(C)(us)(kw):Room k (A.under<|.builtin "type.__call__" ⟨.ref C::us,kw⟩):=
 ⟨r.hd,by have:=r.dp;rw[E2];exact q0M this,by have:=r.un;rw[Fo];omega,r.gd⟩
theorem Room.depth(r:Room k A):A.depth<recursionLimit:=by have:=r.dp;omega
theorem Room.units(r:Room k A):A.units+64<cLine:=by have:=r.un;omega
def tL:TA:=λ_ H Q=>Q [] H
def ue(ta:TE)(tr:TA):TA:=λσ H Q=>ta σ H λx H1=>tr σ H1 λxs H2=>Q (x::xs) H2
section
variable{X:Cx}{e:Expr}{es:List Expr}{te:TE}{t:TA}{pos:Pos}
def Us:PA X [] tL:=λ_ _ _ _ H Q I h=>Calls.spliced_nil ⟨[],H,I,.nil,h⟩
def Xp(ha:PE X e te)(hr:PA X es t)(hs:starEach (e::es) X.env=(false,eval e X.env)::starEach es X.env:=by rfl):PA X (e::es) (ue te t):=by
 intro pos pins s σ H Q I h;rw[hs];refine Calls.spliced_cons<|xU (ha pins s σ H _ I h) λu s1 ⟨x,H1,I1,r1,q1⟩=>?_;exact xU (hr pos pins s1 σ H1 _ I1 q1) λus s2 ⟨xs,H2,I2,r2,q2⟩=>⟨x::xs,H2,I2,.cons r1 r2,q2⟩
def jw(t:TA):TE:=λσ H Q=>t σ H λxs H1=>xs.length<=sizeLine/\∀p,H1 p=none->Q (.ref p) (upd H1 p<|.tup xs)
def kQ(t:TA):TE:=λσ H Q=>t σ H λxs H1=>xs.length<=sizeLine/\∀p,H1 p=none->Q (.ref p) (upd H1 p<|.lst xs)
def rZ(h:PA X es t):PE X (.Tuple es x1 pos) (jw t):=by
 intro pins s σ H Q I hq;refine wpAny_Tuple_spliced<|xU (h pos pins s σ H _ I hq) λus s1 ⟨xs,H1,I1,r,z,q⟩=>⟨by rw[<-r.length];exact z, ?_⟩;have hf:=I1.hok.fresh<|zzN _;refine⟨.ref s1.heap.objs.size,upd H1 s1.heap.objs.size _,I1.laid (t':=s1.toks) (λb u e=>zxG _ e) (zzN _) ?_,rfl,q _ hf⟩;exact⟨z,us,r,⟨_,zxI _ rfl,rfl,_,rfl⟩⟩
def sJ(h:PA X es t):PE X (.List es pos) (kQ t):=by
 intro pins s σ H Q I hq;refine wpAny_List_spliced<|xU (h pos pins s σ H _ I hq) λus s1 ⟨xs,H1,I1,r,z,q⟩=>⟨by rw[<-r.length];exact z, ?_⟩;have hf:=I1.hok.fresh<|zzN _;refine⟨.ref s1.heap.objs.size,upd H1 s1.heap.objs.size _,I1.laid (t':=s1.toks) (λb u e=>zxG _ e) (zzN _) ?_,rfl,q _ hf⟩;exact⟨z,us,0,r,zxI _ rfl⟩
end
abbrev Sp:=List V->Hp->VK->XK->Prop
abbrev D4:=List Env->Hp->Shared->XK->Value->Shared->Prop
structure Env0(P:Program)(w:World)(K:zzA)(mg:Str->Option Value)(base:Heap)(A:Around)(outer:List Env)(s:Shared)(H:Hp):Prop where
 frames:A.frames=some outer
 mod:Mod K mg base
 bs:∀b o,base.get? b=some o->s.heap.get? b=some o/\H b=none
 bsz:base.objs.size<=s.heap.objs.size
 funs:s.heap.FunFrames base outer
 frf:∀b ∈ HX outer,H b=none
 hok:Qa P w H s.heap
 bare:AllBare s.gens
def CE(outer:List Env)(P:Program)(w:World)(H:Hp)(s:Shared)(Q:VK)(u:Value)(s':Shared):Prop:=
 ∃v H',s'.os=s.os/\AllBare s'.gens/\Un (HX outer) [] H H' s.heap s'.heap/\Qa P w H' s'.heap/\RelV v u/\Q v H'
def CR(CX:D4)(outer:List Env)(P:Program)(w:World)(H:Hp)(s:Shared)(Q:VK)(E:XK)(r:Result)(s':Shared):Prop:=
 match r with
 | .ok (.ret u)=>CE outer P w H s Q u s'
 | .ok _=>False
 | .error e=>CX outer H s E e s'
structure FnOk(P:Program)(w:World)(K:zzA)(mg:Str->Option Value)(base:Heap)(CX:D4)(k:Nat)(f:Addr)(fd:FuncData)(ps:List Str)(sp:Sp):Prop where
 len:∀vs H Q E,sp vs H Q E->vs.length=ps.length
 run:∀(A:Around) (outer:List Env) (s:Shared) (H:Hp) (args:Args) (us:List Value) (vs:List V) (Q:VK) (E:XK),Room k A->Env0 P w K mg base A outer s H->BindsTo s fd args (ps.zip us)->zQ vs us->sp vs H Q E->
  codeAny (model P w) A (.call (.ref f) args) (CR CX outer P w H s Q E) s
def FnOk.imp{P w K mg base CX}{k:Nat}{f fd ps sp sp'}(F:FnOk P w K mg base CX k f fd ps sp)
 (h:∀vs H Q E,sp' vs H Q E->sp vs H Q E):FnOk P w K mg base CX k f fd ps sp':=
 ⟨λvs H Q E q=>F.len vs H Q E<|h _ _ _ _ q,λA outer s H args us vs Q E hr he hb hv hs=>F.run A outer s H args us vs Q E hr he hb hv<|h _ _ _ _ hs⟩
def Env0.make{P w K mg base A outer s H}(e:Env0 P w K mg base A outer s H)(C)(us)(kw):
 Env0 P w K mg base (A.under<|.builtin "type.__call__" ⟨.ref C::us,kw⟩) outer s H:=⟨by first|exact e.frames|(simpa[Around.under,Code.envs,Code.isFrame,pushEnvs]using e.frames),e.mod,e.bs,e.bsz,e.funs,e.frf,e.hok,e.bare⟩
section
variable{X:Cx}{pins:List (Addr×Obj)}{σ:St}{H:Hp}{s s':Shared}
def Inv.env0(I:Inv X pins σ H s):Env0 X.prog X.w X.K X.mg X.base X.A X.stack s H:=
 ⟨I.ok.frames,I.ok.mod,I.bs,zzO I.ok.bsz I.sz,I.stack,I.stkFree,I.hok,I.bare⟩
def Inv.after(I:Inv X pins σ H s)(h:CE X.stack X.prog X.w H s Q u s'):EP X pins σ Q u s':=by
 obtain⟨v,H',os,bare,un,hok,r,q⟩:=h;obtain⟨hh,g,d,t,os'⟩:=s';obtain rfl:os'=s.os:=os;exact⟨v,H',I.call (h':=hh) (g':=g) (d':=d) (t':=t) un hok bare (λb z=>absurd z<|by simp),r,q⟩
end
def CL(sp:Sp)(dvs:List V)(E:XK)(t:TA):TE:=λσ H Q=>t σ H λvs H1=>sp (vs++dvs) H1 Q E
def uc(C:Addr)(sp:Sp)(dvs:List V)(E:XK)(t:TA):TE:=λσ H Q=>t σ H λvs H1=>∀x dx,H1 x=none->H1 dx=none->dx≠x->
 sp (.ref x::(vs++dvs)) (upd (upd H1 dx<|.own x) x<|.ins C dx []) (λv H2=>v = .non/\Q (.ref x) H2) E
def Binds(K:zzA)(fd:FuncData)(ps:List Str)(ds:List Value):Prop:=
 ∀(s:Shared) (us:List Value),K.In s.heap->(us++ds).length=ps.length->BindsTo s fd ⟨us,[]⟩ (ps.zip<|us++ds)
def Binds.all{K fd ps}(h:∀us:List Value,us.length=ps.length->bindArgs fd ⟨us,[]⟩=pure (ps.zip us)):Binds K fd ps []:=λs us _ hl=>by
 rw[zyD]at hl ⊢;exact .of_eq<|h us hl
def vF(CX:D4)(X:Cx)(E:XK):Prop:=∀(pins:List (Addr×Obj)) (σ:St) (H:Hp) (s:Shared) (e:Value) (s':Shared),Inv X pins σ H s->CX X.stack H s E e s'->X.xe e s'
section
variable{X:Cx}{CX:D4}{k:Nat}{f C:Addr}{fd:FuncData}{ps:List Str}{sp:Sp}{dvs:List V}{ds:List Value}{E:XK}{x m:Str}{p pos apos:Pos}{e o:Expr}{es:List Expr}{ta:TE}{t:TA}
def Fv(F:FnOk X.prog X.w X.K X.mg X.base CX k f fd ps sp)(hr:Room k X.A)(hb:Binds X.K fd ps ds)(hd:zQ dvs ds)(hx:vF CX X E)
 (I:Inv X pins σ H s) (r:zQ vs us) (h:sp (vs++dvs) H Q E):wpAny (model X.prog X.w) X.A (call (.ref f) us) (EP X pins σ Q) X.xe s:=by
 have r2:=r.append hd;have hl:(us++ds).length=ps.length:=by rw[<-r2.length];exact F.len _ _ _ _ h
 refine wpAny_call<|codeAny_mono (F.run X.A X.stack s H _ _ _ Q E hr I.env0 (hb s us I.kIn hl) r2 h) λr s' hq=>?_;cases r with
 |error e=>exact hx pins σ H s e s' I hq
 |ok fl=>
  cases fl with
  |ret u=>exact I.after hq
  |next=>exact False.elim hq
  |brk=>exact False.elim hq
  |cont=>exact False.elim hq
def Nz(F:FnOk X.prog X.w X.K X.mg X.base CX k f fd ps sp)(hr:Room k X.A)(hg:Gl X x)(hm:X.mg x=some (.ref f))(hk:W.keepIn X.K (.ref f)=true)(hb:Binds X.K fd ps ds)(hd:zQ dvs ds)(hx:vF CX X E)
 (ha:PA X (e::es) t) (hdb:(x==("__debug__":Str))=false:=by decide) (he:starEach (e::es) X.env=(false,eval e X.env)::starEach es X.env:=by rfl) (hpl:(backTo pos<|starEach es X.env).any (·.1)=false:=by rfl):
 PE X (.Call (.Name x p) (e::es) [] pos) (CL sp dvs E t):=by
 intro pins s σ H Q I h;refine wpAny_Call_Name_kw<|Nw I hg hm ?_ hdb;refine W.callWith_K I.ok.mod.kin hk (xU (ha pos pins s σ H _ I h) λus s1 ⟨vs,H1,I1,r,q⟩=>⟨I1.kIn, ?_⟩) he hpl;exact Fv F hr hb hd hx I1 r q
structure Mk(K:zzA)(C f:Addr):Prop where
 makes:W.makesIn K C=true
 init:W.findIn K (.ref C) "__init__"=some (some<|.ref f)
 fn:W.isFn K (.ref f)=true
 kp:W.keepIn K (.ref C)=true
def Oe(M:Mk X.K C f)(F:FnOk X.prog X.w X.K X.mg X.base CX k f fd ps sp)(hr:Room (k+1) X.A)(hb:Binds X.K fd ps ds)(hd:zQ dvs ds)
 (hx:vF CX X E) (I:Inv X pins σ H s) (r:zQ vs us)
 (h:∀x dx,H x=none->H dx=none->dx≠x->sp (.ref x::(vs++dvs)) (upd (upd H dx<|.own x) x<|.ins C dx []) (λv H2=>v = .non/\Q (.ref x) H2) E):
 wpAny (model X.prog X.w) X.A (call (.ref C) us) (EP X pins σ Q) X.xe s:=by
 have hq:=h _ s.heap.objs.size (I.hok.fresh<|zyV _) (I.hok.fresh<|zzN _)<|zzQ<|Nat.lt_succ_self _;have I2:=Inv.made (C:=C) I;have r2:zQ (V.ref (s.heap.objs.size+1)::_) _:=.cons rfl<|r.append hd;have hl:(Value.ref (s.heap.objs.size+1)::us++ds).length=ps.length:=by
  have e:=r2.length;rw[F.len _ _ _ _ hq]at e;exact e.symm
 refine wpAny_call<|OC I.kIn M.makes M.init (beq_iff_eq.mp M.fn)<|codeAny_mono (F.run _ X.stack _ _ _ _ _ _ E (hr.make C us [])
  (I2.env0.make C us []) (hb _ _ I2.kIn hl) r2 hq) λr s' hq'=>?_
 cases r with
 |error e=>exact hx pins σ _ _ e s' I2 hq'
 |ok fl=>
  cases fl with
  |ret u=>
   obtain⟨v,H',I3,rv,ev,q3⟩:=I2.after hq';subst ev;exact⟨rv,⟨V.ref _,H',I3,rfl,q3⟩⟩
  |next=>exact False.elim hq'
  |brk=>exact False.elim hq'
  |cont=>exact False.elim hq'
def JM(M:Mk X.K C f)(F:FnOk X.prog X.w X.K X.mg X.base CX k f fd ps sp)(hr:Room (k+1) X.A)(hg:Gl X x)(hm:X.mg x=some (.ref C))(hb:Binds X.K fd ps ds)(hd:zQ dvs ds)(hx:vF CX X E)
 (ha:PA X (e::es) t) (hdb:(x==("__debug__":Str))=false:=by decide) (he:starEach (e::es) X.env=(false,eval e X.env)::starEach es X.env:=by rfl) (hpl:(backTo pos<|starEach es X.env).any (·.1)=false:=by rfl):
 PE X (.Call (.Name x p) (e::es) [] pos) (uc C sp dvs E t):=by
 intro pins s σ H Q I h;refine wpAny_Call_Name_kw<|Nw I hg hm ?_ hdb;refine W.callWith_K I.ok.mod.kin M.kp (xU (ha pos pins s σ H _ I h) λus s1 ⟨vs,H1,I1,r,q⟩=>⟨I1.kIn, ?_⟩) he hpl;exact Oe M F hr hb hd hx I1 r q
end
section
variable{X:Cx}{CX:D4}{k:Nat}{f C:Addr}{fd:FuncData}{ps ks:List Str}{sp:Sp}{E:XK}{x m:Str}{p pos apos kpos:Pos}{e o:Expr}{es:List Expr}{kws:List Keyword}{te ta:TE}{t tk:TA}{nm:Option Str}
variable{g:List Value->List Value->List Value}{gV:List V->List V->List V}
end
structure FnScope(N P:List Str)(sc:Scope):Prop where
 kind:sc.kind = .function
 co:sc.isCoroutine=false
 gen:sc.isGenerator=false
 nd:N.Nodup
 pre:N.take P.length=P
 par:∀x ∈ P,sc.names.lookup x=some .local\/sc.names.lookup x=some .cell
 nofree:∀y ∈ sc.names,y.2 ≠ .free
theorem KR{kindOf x}:∀{binds:List (Str×Value)}{m:Str->Option Value},(∀v,(x,v) ∉ binds)->bindL kindOf binds m x=m x
 | [],_,_=>rfl
 |(n,v)::r,m,h=>by
  unfold bindL;rw[KR λw hw=>h w<|zzD _ hw]
  split
  . have:x≠n:=by rintro rfl;exact h v zzF
    simp[this]
  . rfl
theorem Ku{kindOf x}:∀{binds:List (Str×Value)}{m:Str->Option Value},(∀v,(x,v) ∉ binds)->bindC kindOf binds m x=m x
 | [],_,_=>rfl
 |(n,v)::r,m,h=>by
  unfold bindC;rw[Ku λw hw=>h w<|zzD _ hw]
  split
  . rfl
  . have:x≠n:=by rintro rfl;exact h v zzF
    simp[this]
theorem K3{kindOf x v}:∀{P:List Str}{vs:List Value}{i:Nat}{m:Str->Option Value},P.Nodup->P[i]? = some x->vs[i]? = some v->kindOf x=some .local->
 bindL kindOf (P.zip vs) m x=some v
 | [],_,_,_,_,h,_,_=>by simp at h
 |_::_,[],_,_,_,_,h,_=>by simp at h
 |p::P,w::vs,0,m,nd,h1,h2,hk=>by
  simp at h1 h2;subst h1;subst h2;show bindL kindOf (_::P.zip vs) m p=_;unfold bindL;rw[KR λv hv=>(zzV.mp nd).1 (List.of_mem_zip hv).1,if_pos hk];simp
 |p::P,w::vs,i+1,m,nd,h1,h2,hk=>by
  unfold bindL;exact K3 (zzV.mp nd).2 (by simpa using h1) (by simpa using h2) hk
theorem Kl{kindOf x v}:∀{P:List Str}{vs:List Value}{i:Nat}{m:Str->Option Value},P.Nodup->P[i]? = some x->vs[i]? = some v->kindOf x≠some .local->
 bindC kindOf (P.zip vs) m x=some v
 | [],_,_,_,_,h,_,_=>by simp at h
 |_::_,[],_,_,_,_,h,_=>by simp at h
 |p::P,w::vs,0,m,nd,h1,h2,hk=>by
  simp at h1 h2;subst h1;subst h2;show bindC kindOf (_::P.zip vs) m p=_;unfold bindC;rw[Ku λv hv=>(zzV.mp nd).1 (List.of_mem_zip hv).1,if_neg hk];simp
 |p::P,w::vs,i+1,m,nd,h1,h2,hk=>by
  unfold bindC;exact Kl (zzV.mp nd).2 (by simpa using h1) (by simpa using h2) hk
def start(N:List Str)(vs:List V):St:=vs.map some++List.replicate (N.length-vs.length) none
def RA(CX:D4)(P:Program)(w:World)(K:zzA)(mg:Str->Option Value)(base:Heap)(N:List Str)(qual:Str)(scope:Scope)(f:Addr)(cd:Value)(A:Around)(outer:List Env)(s:Shared)(H:Hp)(E:XK):Cx where
 prog:=P
 w:=w
 K:=K
 mg:=mg
 base:=base
 A:=A.deeper (envOfC qual scope s.heap.objs.size f cd)
 N:=N
 s₀:=s
 H₀:=H
 env:=envOfC qual scope s.heap.objs.size f cd
 outer:=outer
 stack:=envOfC qual scope s.heap.objs.size f cd::outer
 ex:=[]
 calm:=true
 fn:=λ_=>true
 pn:=[]
 xe:=λe s'=>wpAny (model P w) (A.deeper<|envOfC qual scope s.heap.objs.size f cd) (leaving (envOfC qual scope s.heap.objs.size f cd) e) (λ_ s''=>CX outer H s E e s'') (λe' s''=>CX outer H s E e' s'') s'
def M6{sc:Scope}{n:Nat}{x}(h:sc.names.lookup x=some .cell):∃c,(cellsFrom n sc.names []).lookup x=some c:=by
 have q:=W.cellsFrom_some sc.names n []<|.inl h;exact Option.isSome_iff_exists.mp q
def SL{CX P w K mg base N ps qual scope f cd A outer s s1 H E us vs}
 (S:FnScope N ps scope) (hd:A.handled=none) (e0:Env0 P w K mg base A outer s H) (hl:vs.length=ps.length) (r:zQ vs us)
 (x:InCallC s s.heap.objs.size (bindL (envOfC qual scope s.heap.objs.size f cd).kindOf (ps.zip us) λ_=>none) (cellsFrom (s.heap.objs.size+1) scope.names []) (bindC (envOfC qual scope s.heap.objs.size f cd).kindOf (ps.zip us) λ_=>none) s1):
 Inv (RA CX P w K mg base N qual scope f cd A outer s H E) [] (start N vs) H s1:=by
 have hpl:ps.length<=N.length:=by have:=congrArg List.length S.pre;rw[zzS]at this;omega
 obtain⟨h1,tk,rfl,hk⟩:=x.done;have noA:∀b:Addr,b ∉ (RA CX P w K mg base N qual scope f cd A outer s H E).ex:=λb z=>absurd (show b ∈ ([]:List Addr)from z) (by simp);refine⟨⟨e0.mod,S.kind,rfl,rfl,zzN _,λy z c h1 h2=>?_,λy hy=>?_,λy c _ h=>?_,λ_=>hd,Around.frames_deeper e0.frames,.inr ⟨rfl,rfl⟩,λb z=>absurd z<|noA b,e0.bs,e0.bsz,λb _ _=>noA b,λb z=>absurd z<|noA b,e0.funs,e0.frf⟩,
  rfl,e0.bare,Un.kept hk,⟨_,x.toInCall.ns,λi y v h1 h2 h3=>?_⟩,λy c h=>⟨_,x.cell y c h⟩,e0.hok.fresh<|zzN _,λy c h=>?_,λp hp=>absurd (show p ∈ ([]:List _)from hp) (by simp),e0.hok.kept hk, ?_⟩
 . exact name_of_addr x.apart (PySem.mem_of_lookup h1)<|PySem.mem_of_lookup h2
 . have hy:=hy
   rcases hy with hy|hy
   . exact M6 hy
   . exact absurd rfl<|S.nofree _<|PySem.mem_of_lookup hy
 . exact Nat.le_of_lt<|x.above y c<|PySem.mem_of_lookup h
 . have hi:i<vs.length:=by
    unfold start at h2
    by_cases hi:i<vs.length
    . exact hi
    . rw[zyQ<|by simpa using hi]at h2;rw[List.getElem?_replicate]at h2
      split at h2<;>cases h2
   have ha:vs[i]? = some v:=by
    unfold start at h2;rw[zyO (by simpa using hi),zzI]at h2;cases e:vs[i]? with
    |none=>rw[e]at h2;cases h2
    |some a=>rw[e]at h2;cases h2;rfl
   obtain⟨u,hu,rv⟩:=r.get ha;have hp:ps[i]? = some y:=by
    rwa [<-S.pre,List.getElem?_take_of_lt<|by omega]
   have ndP:ps.Nodup:=by rw[<-S.pre];exact S.nd.sublist<|List.take_sublist _ _
   refine⟨u,rv, ?_⟩
   rcases S.par y (zzZ hp)with k|k
   . exact .inl ⟨k,K3 ndP hp hu k⟩
   . obtain⟨c,e⟩:=M6 k;refine .inr ⟨.inl k,c,e, ?_⟩;have q:=x.cell y c e
     rwa [Kl ndP hp hu (by show scope.names.lookup y≠_;rw[k];decide)]at q
 . exact e0.hok.fresh<|Nat.le_of_lt<|x.above y c<|PySem.mem_of_lookup h
 . unfold start;show _=N.length;rw[zzJ,zzB,List.length_replicate];omega
def p7{CX P w K mg base}{k:Nat}{f name qual params body scope dV kV doc pm cdv ct oc an od}
 {osl N ps sp}(lk:K.lookup f=some ⟨oc,od,.func<|W.fnOf name qual params body scope dV kV doc pm an cdv ct,osl⟩) (hcd:W.codeIn K cdv qual=true) (S:FnScope N ps scope)
 (len:∀vs H Q E,sp vs H Q E->vs.length=ps.length)
 (hbody:∀(A:Around) (outer:List Env) (s:Shared) (H:Hp) (vs:List V) (Q:VK) (E:XK),Room k (A.deeper<|envOfC qual scope s.heap.objs.size f cdv)->sp vs H Q E->
  ∃t,Nv (RA CX P w K mg base N qual scope f cdv A outer s H E) body t/\t {nx:=λ_ H'=>Q .non H',rt:=Q} (start N vs) H):
 FnOk P w K mg base CX (k+1) f (W.fnOf name qual params body scope dV kV doc pm an cdv ct) ps sp:=by
 refine⟨len,λA outer s H args us vs Q E hr e0 hb r hsp=>?_⟩;have hl:=len _ _ _ _ hsp;have KX:=e0.mod.kin.keeps λb o e=>(e0.bs b o e).1;have lim:=e0.mod.nolimit.keeps λb o e=>(e0.bs b o e).1;have hkind:∀y ∈ ps.zip us,scope.names.lookup y.1=some .local\/(scope.names.lookup y.1=some .cell/\((cellsFrom (s.heap.objs.size+1) scope.names []).lookup y.1).isSome=true):=λ⟨n,v⟩ hy=>by
  rcases S.par n (List.of_mem_zip hy).1 with q|q
  . exact .inl q
  . exact .inr ⟨q,W.cellsFrom_some _ _ _<|.inl q⟩
 refine codeAny_call_function hr.depth (KX _ _ lk) rfl S.co S.gen rfl (W.codeRec_of KX hcd)<|hb _ _ _ _ ?_;refine wpAny_newFunctionEnv_cells S.kind hkind λenv he s1 x=>?_;subst he;refine⟨lim.keeps x.toInCall.keep,codeAny_func ?_⟩;obtain⟨t,ht,hq⟩:=hbody A outer s H vs Q E (hr.deeper _) hsp;have I:Inv (RA CX P w K mg base N qual scope f cdv A outer s H E) [] _ H s1:=SL S hr.hd e0 hl r x;refine zxL (ht [] s1 _ H _ I hq) (λfl s' hs=>?_) λe s' hs=>hs;have fin:∀{σ':St}{H':Hp}{v:V}{u:Value},Inv (RA CX P w K mg base N qual scope f cdv A outer s H E) [] σ' H' s'->RelV v u->Q v H'->CE outer P w H s Q u s':=
  λ{σ' H' v u} J rv q=>⟨v,H',J.os,J.bare,J.base,J.hok,rv,q⟩
 cases fl with
 |ret u=>
  obtain⟨v,σ',H',J,rv,q⟩:=hs;exact fin J rv q
 |next=>
  obtain⟨σ',H',J,q⟩:=hs;exact fin (v:=V.non) J rfl q
 |brk=>
  obtain⟨_,_,_,q⟩:=hs;exact False.elim q
 |cont=>
  obtain⟨_,_,_,q⟩:=hs;exact False.elim q
end L2
namespace L2
open PySem PySem.Spec PyProof.Rows
section
variable{X:Cx}{x:Str}{p pos:Pos}{e:Expr}{es:List Expr}{t:TA}{id T:String}{r:List V->Hp->VK->Prop}
def iI(r:List V->Hp->VK->Prop)(t:TA):TE:=λσ H Q=>t σ H λvs H1=>r vs H1 Q
def Pf(hc:YW X (.builtin id) r)(hg:Gl X x)(hm:X.mg x=none)(hv:bootBuiltins x=some (.builtin id))(ha:PA X (e::es) t)(hn:x≠"__name__":=by decide)(hdb:(x==("__debug__":Str))=false:=by decide)
 (he:starEach (e::es) X.env=(false,eval e X.env)::starEach es X.env:=by rfl) (hpl:(backTo pos<|starEach es X.env).any (·.1)=false:=by rfl):PE X (.Call (.Name x p) (e::es) [] pos) (iI r t):=by
 intro pins s σ H Q I h;refine wpAny_Call_Name_kw<|WI I hg hm hv ?_ hn hdb;exact PyProof.Rows.callWith_builtin1 (xU (ha pos pins s σ H _ I h) λus s1 ⟨vs,H1,I1,r1,q1⟩=>hc pins s1 σ H1 vs us Q I1 r1 q1) he hpl
def Hr(hc:YW X (.type T) r)(hg:Gl X x)(hm:X.mg x=none)(hv:bootBuiltins x=some (.type T))(ha:PA X (e::es) t)(hn:x≠"__name__":=by decide)(hdb:(x==("__debug__":Str))=false:=by decide)
 (he:starEach (e::es) X.env=(false,eval e X.env)::starEach es X.env:=by rfl) (hpl:(backTo pos<|starEach es X.env).any (·.1)=false:=by rfl):PE X (.Call (.Name x p) (e::es) [] pos) (iI r t):=by
 intro pins s σ H Q I h;refine wpAny_Call_Name_kw<|WI I hg hm hv ?_ hn hdb;exact PyProof.Rows.callWith_type1 (xU (ha pos pins s σ H _ I h) λus s1 ⟨vs,H1,I1,r1,q1⟩=>hc pins s1 σ H1 vs us Q I1 r1 q1) he hpl
end
end L2
namespace L2
open PySem PySem.Spec PyProof.Rows
section
variable{κ:Type}[DecidableEq κ]
def V5(kvs:List (κ×V))(k:κ):Option V:=(kvs.find? λkv=>decide (kv.1=k)).map (·.2)
def putK(kvs:List (κ×V))(k:κ)(v:V):List (κ×V):=
 if(kvs.any λkv=>decide (kv.1=k))=true then kvs.map (λkv=>if kv.1=k then(kv.1,v)else kv)else kvs++[(k,v)]
def Tj{p r}{k:κ}(e:p.1=k):V5 (p::r) k=some p.2:=by simp[V5,e]
def P5{p r}{k:κ}(e:¬p.1=k):V5 (p::r) k=V5 r k:=by simp[V5,e]
theorem MH(k:κ):∀kvs:List (κ×V),(kvs.any λkv=>decide (kv.1=k))=(V5 kvs k).isSome
 | []=>rfl
 |p::r=>by
  rw[List.any_cons]
  by_cases e:p.1=k
  . simp only[Tj e,zyN e,Bool.true_or,Option.isSome_some]
  . rw[P5 e,zyF e];exact MH k r
def U_(kvs)(k:κ)(v):(putK kvs k v).length<=kvs.length+1:=by
 unfold putK
 split
 . rw[zzB];exact q0i
 . rw[zzJ,zzT,List.length_nil];omega
def VW.isSome_eq(r:VW o u):o.isSome=u.isSome:=by
 cases o with
 |none=>cases u with
  |none=>rfl
  |some _=>exact(r).elim
 |some _=>cases u with
  |none=>exact(r).elim
  |some _=>rfl
def KV.val{kvs vs}(r:KV kvs vs)(k:κ):VW (V5 kvs k) (valueAt vs k):=by
 induction r with
 |nil=>exact True.intro
 | @cons p q ps qs h t ih=>
  obtain⟨h1,h2⟩:=h
  by_cases e:p.1=k
  . have e':q.1=k:=h1.symm.trans e;have b:valueAt (q::qs) k=some q.2:=by simp[valueAt,e']
    rwa [Tj e,b]
  . have e':¬q.1=k:=λz=>e<|h1.trans z;have b:valueAt (q::qs) k=valueAt qs k:=by simp[valueAt,e']
    rwa [P5 e,b]
theorem KV.any(r:KV kvs vs)(k:κ):(kvs.any λkv=>decide (kv.1=k))=vs.any λkv=>decide (kv.1=k):=by
 induction r with
 |nil=>rfl
 |cons h t ih=>rw[List.any_cons,List.any_cons,ih,h.1]
def KV.repl(r:KV kvs vs)(k:κ)(ry:RelV y u):
 KV (kvs.map λkv=>if kv.1=k then(kv.1,y)else kv) (vs.map λkv=>if kv.1=k then(kv.1,u)else kv):=by
 induction r with
 |nil=>exact .nil
 | @cons p q ps qs h t ih=>
  rw[zyR,zyR];refine .cons ?_ ih;obtain⟨h1,h2⟩:=h
  by_cases e:p.1=k
  . rw[if_pos e,if_pos<|h1.symm.trans e];exact⟨h1,ry⟩
  . rw[if_neg e,if_neg λz=>e<|h1.trans z];exact⟨h1,h2⟩
def KV.put(r:KV kvs vs)(k:κ)(ry:RelV y u):KV (putK kvs k y) (stored vs k u):=by
 unfold putK stored;rw[r.any k]
 by_cases e:(vs.any λkv=>decide (kv.1=k))=true
 . rw[if_pos e,if_pos e];exact r.repl k ry
 . rw[if_neg e,if_neg e];exact Paired.snoc r ⟨rfl,ry⟩
theorem KV.length(r:KV kvs vs):kvs.length=vs.length:=Paired.length r
end
def Mf(r:RelV (kV k) u):(yB P w).is k u=true:=by
 cases k with
 |inl i=>obtain⟨t,e⟩:=(r);subst e;exact MW P w i t
 |inr x=>obtain⟨t,e⟩:=(r);subst e;exact Wk P w x t
theorem K0:∀{ks:List Key}{us:List Value},zQ (ks.map kV) us->ItemsAre (yB P w) ks us
 | [],_,r=>by cases r;exact .nil
 |k::ks,_,r=>by
  cases r with
  |cons h t=>exact .cons (Mf h) (K0 t)
abbrev KT(H:Hp):List (List Key×V)->List (List Key×Addr×Value)->Prop:=Paired λp q=>p.1=q.1/\H q.2.1=some (.tup<|p.1.map kV)/\RelV p.2 q.2.2
def KT.val{H kvs xs}(r:KT H kvs xs)(k:List Key):VW (V5 kvs k) ((atKey xs k).map (·.2)):=by
 induction r with
 |nil=>exact True.intro
 | @cons p q ps qs h t ih=>
  obtain⟨h1,_,h2⟩:=h
  by_cases e:p.1=k
  . have e':q.1=k:=h1.symm.trans e;have b:atKey (q::qs) k=some q.2:=by simp[atKey,e']
    rwa [Tj e,b]
  . have e':¬q.1=k:=λz=>e<|h1.trans z;have b:atKey (q::qs) k=atKey qs k:=by simp[atKey,e']
    rwa [P5 e,b]
def KT.repl(r:KT H kvs xs)(k)(ry:RelV y u):
 KT H (kvs.map λkv=>if kv.1=k then(kv.1,y)else kv) (xs.map<|putAt k u):=by
 induction r with
 |nil=>exact .nil
 | @cons p q ps qs h t ih=>
  rw[zyR];refine .cons ?_ ih;obtain⟨h1,h2,h3⟩:=h;unfold putAt
  by_cases e:p.1=k
  . rw[if_pos e,if_pos<|h1.symm.trans e];exact⟨h1,h2,ry⟩
  . rw[if_neg e,if_neg λz=>e<|h1.trans z];exact⟨h1,h2,h3⟩
def KT.put(r:KT H kvs xs)(k)(hb:H b=some (.tup<|k.map kV))(ry:RelV y u):
 KT H (putK kvs k y) (storedH xs k b u):=by
 have e:(kvs.any λkv=>decide (kv.1=k))=(atKey xs k).isSome:=by
  rw[MH,(r.val k).isSome_eq,Option.isSome_map]
 unfold putK storedH;rw[e]
 by_cases q:(atKey xs k).isSome=true
 . rw[if_pos q,if_pos q];exact r.repl k ry
 . rw[if_neg q,if_neg q];exact Paired.snoc r ⟨rfl,hb,ry⟩
def KT.keeps(r:KT H kvs xs)(ht:∀b ys,H b=some (.tup ys)->H' b=some (.tup ys)):KT H' kvs xs:=
 Paired.mapP r λ_ _ z=>⟨z.1,ht _ _ z.2.1,z.2.2⟩
section
variable{P:Program}{w:World}{H:Hp}{h:Heap}{a:Addr}
def uK(ok:Qa P w H h)(e:Rd H a u):xY P w H h a u:=e.ok ok
def uB(ok:Qa P w H h)(e:Rd H a (.dK kvs)):kvs.length<=sizeLine/\(a==sysModules)=false/\∃vs,KV kvs vs/\h.DictOf (yB P w) a vs:=
 show xY P w H h a _ from uK ok e
def oY(ok:Qa P w H h)(e:H a=some (.dK kvs)):kvs.length<=sizeLine/\(a==sysModules)=false/\∃vs,KV kvs vs/\h.DictOf (yB P w) a vs:=uB ok<|.inl e
def IM(ok:Qa P w H h)(e:H a=some (.tup<|ks.map kV)):(tupleKind<|yB P w).is h ks a:=by
 obtain⟨_,its,r,o,h1,h2,n,h3⟩:=(ok a _ e);exact⟨o,its.toArray,n,h1,h2,h3,by simpa using K0 r⟩
def oR(ok:Qa P w H h)(e:Rd H a (.dT kvs)):kvs.length<=sizeLine/\(a==sysModules)=false/\
 ∃xs,KT H kvs xs/\h.DictOfH (tupleKind<|yB P w) a xs:=by
 obtain⟨z,y,xs,r,o,es,ep,h1,h2,h3,h4,h5⟩:=(uK ok e);refine⟨z,y,xs,r,o,es,ep,h1,h2,h3,h4,λx hx=>?_,h5⟩;have all:∀{l:List _}{m:List _},KT H l m->∀x ∈ m,(tupleKind<|yB P w).is h x.1 x.2.1:=by
  intro l m q
  induction q with
  |nil=>intro x hx;exact nomatch hx
  | @cons p q ps qs hq t ih=>
   intro x hx
   rcases zzC.mp hx with e|hx
   . subst e;exact IM ok (by rw[<-hq.1];exact hq.2.1)
   . exact ih x hx
 exact all r x hx
def pY(ok:Qa P w H h)(e:H a=some (.dT kvs)):kvs.length<=sizeLine/\(a==sysModules)=false/\
 ∃xs,KT H kvs xs/\h.DictOfH (tupleKind<|yB P w) a xs:=oR ok<|.inl e
end
def oJ(H:Hp)(a:Addr)(y v:V)(H':Hp):Prop:=
 (∃kvs k,H a=some (.dK kvs)/\y=kV k/\kvs.length<sizeLine/\H'=upd H a (.dK<|putK kvs k v)) \/
 ∃kvs k b,H a=some (.dT kvs)/\y = .ref b/\H b=some (.tup<|k.map kV)/\kvs.length<sizeLine/\H'=upd H a (.dT<|putK kvs k v)
section
variable{X:Cx}{pins:List (Addr×Obj)}{σ:St}{H:Hp}{s:Shared}{a:Addr}{y v:V}{u r:Value}{o:Option V}{A:Around}{E:Value->Shared->Prop}
def Inv.big(I:Inv X pins σ H s):sysModules<s.heap.objs.size:=by
 have h:=(I.mod.glob.keeps I.bk).lt;exact Nat.lt_trans (by decide) h
def BI(I:Inv X pins σ H s)(mu:nJ (H a))(hs:Heap.SameBut a s.heap h')(he:∃q,h'.get? a=some q)(new:xY X.prog X.w (upd H a ob) h' a ob):
 Inv X pins σ (upd H a ob) {s with heap:=h',toks:=t'}:=
 I.write mu (.inl rfl) (λb q hb z=>(hs.2 b hb).trans z) he new
def Fx(z:kvs.length<=sizeLine)(hd:(a==sysModules)=false)(rel:KV kvs vs)(dd:h'.DictOf (yB P w) a vs):
 xY P w H' h' a (.dK kvs):=⟨z,hd,vs,rel,dd⟩
def SV(hu:A.units+1<cLine)(I:Inv X pins σ H s)(g:oJ H a y v H')(ry:RelV y u)(rv:RelV v r)(h:∀s',Inv X pins σ H' s'->Q () s'):
 wpAny (model X.prog X.w) A (setItem (.ref a) u r) Q E s:=by
 rcases g with⟨kvs,k,e,ey,l,eH⟩|⟨kvs,k,b,e,ey,eb,l,eH⟩
 . subst ey eH;obtain⟨z,hd,vs,rel,dd⟩:=oY I.hok e;have hz:vs.length<=sizeLine:=by rwa [<-rel.length]
   have hl:(putK kvs k v).length<=sizeLine:=by have:=U_ kvs k v;exact q0W l this
   refine wpAny_setItem_pairs (Mf ry) dd λh' dd' hs=>h _ ?_;have he:∃q,h'.get? a=some q:=let⟨q,_,_,hq,_⟩:=dd';⟨q,hq⟩;exact BI I (by rw[e];exact True.intro) hs he<|Fx hl hd (rel.put k rv) dd'
 . subst ey eH;cases(ry);obtain⟨z,hd,xs,rel,dd⟩:=pY I.hok e;have hz:xs.length<=sizeLine:=by rwa [<-Paired.length rel]
   have hl:(putK kvs k v).length<=sizeLine:=by have:=U_ kvs k v;exact q0W l this
   refine wpAny_setItem_heap (tupleKind_room_in1 hu) (IM I.hok eb) dd λh' dd' hs=>h _ ?_;obtain⟨q,es,ep,hq,h2,h3,h4,_,h5⟩:=dd';refine BI I (by rw[e];exact True.intro) hs ⟨q,hq⟩ ⟨hl,hd,_,(rel.put k eb rv).keeps λc ys ec=>?_,q,es,ep,hq,h2,h3,h4,h5⟩
   rwa [zF<|oI ec e (λz=>nomatch z)]
end
def mY(td ty tv:TE):TS:=λD σ H=>tv σ H λv H1=>td σ H1 λx H2=>ty σ H2 λy H3=>∃a H4,x = .ref a/\oJ H3 a y v H4/\D.nx σ H4
section
variable{X:Cx}{o i e value:Expr}{pos pos' tpos:Pos}{td ty tv:TE}
def DA(hu:X.A.units+1<cLine)(ho:PE X o td)(hi:PE X i ty)(hv:PE X value tv)(hs:swapsWith value (some<|.Subscript o i pos') pos.line X.env=pure false):
 PS X (.Assign [.Subscript o i pos'] value pos) (mY td ty tv):=by
 intro pins s σ H D I h;refine wpAny_Assign_Subscript (xU (hv pins s σ H _ I h) λr s1 ⟨v,H1,I1,rv,q1⟩=>xU (ho pins s1 σ H1 _ I1 q1) λu s2 ⟨x,H2,I2,rx,q2⟩=>xU (hi pins s2 σ H2 _ I2 q2) λiv s3 hq0=>?_) hs;obtain⟨y,H3,I3,ry,a,H4,ex,g,q3⟩:=hq0;subst ex;obtain rfl:u=Value.ref a:=rx;exact SV hu I3 g ry rv λs4 I4=>⟨σ,H4,I4,q3⟩
end
def O2(h:Heap)(hb:sysModules<h.objs.size):xY P w H (h.push {cls:=.type "dict",data:=.dict #[]}) h.objs.size (.dK []):=
 ⟨Nat.zero_le _,beq_eq_false_iff_ne.mpr<|Ne.symm<|zzQ hb,[],.nil,Heap.DictOf.new h⟩
def tW:TE:=λ_ H Q=>∀p,H p=none->Q (.ref p) (upd H p<|.dK [])
section
variable{X:Cx}{pos:Pos}
def Os:PE X (.Dict [] [] pos) tW:=λpins s σ H Q I h=>
 wpAny_Dict_empty ⟨.ref s.heap.objs.size,_,I.laid (t':=s.toks) (λ_ _ q=>zxG _ q) (zzN _)<|O2 s.heap I.big,rfl,h _<|I.hok.fresh<|zzN _⟩
end
end L2
namespace HT
open PySem PyProof.Rows
section
variable{prog:Program}{w:World}{A:Around}{E:Value->Shared->Prop}{s:Shared}
def Dp(ht:IsTup s.heap t vs.toArray)(hb:IsTup s.heap b ws.toArray)(hv:vs≠[])
 (h1:ws=[]->Q (.ref t) s) (h2:ws≠[]->Q (.ref s.heap.objs.size) {s with heap:=s.heap.push {cls:=.type "tuple",data:=.seq (vs++ws).toArray}})
 (hsz:vs.length+ws.length<=sizeLine):wpAny (model prog w) A (binaryOp .Add (.ref t)<|.ref b) Q E s:=by
 obtain⟨⟨cls,dd,data,sl⟩,ho,hc,n,hd⟩:=id ht;obtain⟨⟨cls2,dd2,data2,sl2⟩,ho2,hc2,n2,hd2⟩:=id hb;subst hc hd hc2 hd2;have e:vs.toArray++ws.toArray=(vs++ws).toArray:=by simp
 by_cases hw:ws=[]
 . exact concat_meets ⟨_,ho,rfl⟩ ⟨_,ho2,rfl⟩ noFill_tuple_add seq_tuple_add PySem.F.slot_tuple_add PySem.F.entry_tuple_add (PySem.F.args_tuple_add_2 _ _)
    (tuple_addW1 t b vs.toArray ws.toArray n n2 dd dd2 sl sl2 (by simpa using hv)<|by simp[hw]) ⟨ho,ho2,h1 hw⟩
 . refine concat_meets ⟨_,ho,rfl⟩ ⟨_,ho2,rfl⟩ noFill_tuple_add seq_tuple_add PySem.F.slot_tuple_add PySem.F.entry_tuple_add (PySem.F.args_tuple_add_2 _ _)
    (tuple_addW2 t b vs.toArray ws.toArray n n2 dd dd2 sl sl2 (by simpa using hv) (by simpa using hw)<|hsz) ⟨ho,ho2, ?_⟩
   rw[e];exact h2 hw
def sIx(n d:Nat):Option Int->Nat
 |none=>d
 |some v=>if v<0 then(v+(n:Int)).toNat else min v.toNat n
def Ml(n d:Nat):sIx n d none=d:=rfl
def Pa(n d k:Nat):sIx n d (some (k:Int))=min k n:=rfl
def BA(v)(n d:Nat):(if v<0 then max (v+(n:Int)) 0 else min v (n:Int))=((sIx n d (some v):Nat):Int):=by
 show _=(((if v<0 then(v+_).toNat else min v.toNat n):Nat):Int)
 by_cases hv:v<0
 . simp only[if_pos hv];omega
 . simp only[if_neg hv];omega
def E4(lo hi)(n:Nat):Builtin.Slice.sliceAdjust lo hi 1 (n:Int)=(((sIx n 0 lo:Nat):Int),((sIx n n hi:Nat):Int)):=by
 refine Prod.ext ?_ ?_
 . cases lo with
   |none=>rfl
   |some v=>exact BA v n 0
 . cases hi with
   |none=>rfl
   |some v=>exact BA v n n
def F5(i j:Nat):Builtin.Slice.slicePlaces (i:Int) (j:Int) 1=j-i:=by
 unfold Builtin.Slice.slicePlaces;have h1:(1:Int) > 0:=by omega
 simp
 split<;>omega
def Pl(p:IsPart v o)(h:Q o s):wpAny (model prog w) A (Builtin.Slice.slicePartIndex v) Q E s:=by
 cases p with
 |none=>exact slicePart_none h
 |int i t=>exact slicePart_int h
def Uc{sl vl vu lo hi}{n:Nat}{Q}(hs:s.heap.IsSliceOf sl vl vu .none)(pl:IsPart vl lo)(pu:IsPart vu hi)
 (h:Q (((sIx n 0 lo:Nat):Int),1,sIx n n hi-sIx n 0 lo) s):wpAny (model prog w) A (Builtin.Slice.sliceApplied (.ref sl)<|pure (n:Int)) Q E s:=by
 obtain⟨os,hos,hcs,hds⟩:=id hs;refine zxE<|zxE<|wpAny_field hos hds rfl<|zxE<|wpAny_field hos hds rfl<|zxE<|wpAny_field hos hds rfl<|zxF ?_;refine zxE<|slicePart_none ?_;refine zxE<|Pl pl<|zxE<|Pl pu<|zxE<|zxF ?_;show wpAny _ _ (match Builtin.Slice.sliceAdjust lo hi 1 _ with|(lo,hi)=>pure (lo,_,Builtin.Slice.slicePlaces lo hi 1)) _ _ s;rw[E4 lo hi n];show wpAny _ _ (pure _) _ _ s;rw[F5];exact zxF h
def IG(xs:Array Value)(i k:Nat):((List.range k).filterMap λ(m:Nat)=>xs[((i:Int)+(m:Int)*1).toNat]?).toArray=((xs.toList.drop i).take k).toArray:=by
 have e:(λ(m:Nat)=>xs[(i+(m:Int)*1).toNat]?)=λm=>xs[i+m]? := by
  funext m;have:(i+(m:Int)*1).toNat=i+m:=by omega
  rw[this]
 rw[e];have:=pick_run xs i k;rw[List.filterMap_map]at this;have e2:(_∘λx=>i+x)=λm=>xs[i+m]? := rfl;rw[e2]at this;rw[this]
def QQ{t sl items vl vu lo hi Q}(ht:IsTup s.heap t items)(hs:s.heap.IsSliceOf sl vl vu .none)(pl:IsPart vl lo)(pu:IsPart vu hi)
 (hw:¬(sIx items.size 0 lo=0/\sIx items.size items.size hi=items.size))
 (h:Q (.ref s.heap.objs.size) {s with heap:=s.heap.push {cls:=.type "tuple",data:=.seq ((items.toList.drop<|sIx items.size 0 lo).take<|sIx items.size items.size hi-sIx items.size 0 lo).toArray}})
 (hsz:items.size<=sizeLine):wpAny (model prog w) A (getItem (.ref t)<|.ref sl) Q E s:=by
 have htake:sizeOk (.seq ((items.toList.drop<|sIx items.size 0 lo).take<|sIx items.size items.size hi-sIx items.size 0 lo).toArray):=by
  show((items.toList.drop _).take _).toArray.size<=sizeLine;rw[zzH,zzS,List.length_drop,zyS];omega
 obtain⟨os,hos,hcs,hds⟩:=id hs;have hTs:s.TypeIs (.ref sl) "slice":=⟨os,hos,hcs⟩;unfold getItem
 try with_reducible refine zxJ ?_
 first|refine zxE _|skip
 refine zxE<|wpAny_sequenceKey ht.typeIs (by decide) ?_;refine zxE<|wpAny_callSpecial?_slot ht.typeIs PyProof.Rows.slot_tuple_getitem
  (zxM PyProof.Rows.slot_tuple_getitem ht.typeIs entry_tuple_getitem ?_<|args_tuple_getitem _ _)
 show wpAny _ _ (Builtin.Tuple.tupleItemsOf _ >>= _) _ _ s;refine zxE<|tupleItemsOf_ ht ?_;refine zxE<|wpAny_typeOf hTs ?_;refine zxE<|Uc hs pl pu ?_;have hno:¬((((sIx items.size 0 lo:Nat):Int)==0&&(1:Int)==1&&(sIx items.size items.size hi-sIx items.size 0 lo)==items.size)=true):=by
  intro q;rw[zyB,zyB]at q;have q1:=eq_of_beq q.1.1;have q2:=eq_of_beq q.2;exact hw ⟨by omega,by omega⟩
 show wpAny _ _ (if _=true then _ else _) _ _ s;rw[if_neg hno,IG]
 first
  |exact zxE (wpAny_newObj_type (zxF ⟨_,rfl,zxF h⟩) htake)
  |exact zxE _
  |exact zxE _
  |exact zxE _
end
end HT
namespace L2
open PySem PySem.Spec PyProof.Rows
abbrev TO:=St->Hp->(Option Int->Hp->Prop)->Prop
def PO(X:Cx)(e:Option Expr)(t:TO):Prop:=
 ∀(pins:List (Addr×Obj)) (s:Shared) (σ:St) (H:Hp) (Q:Option Int->Hp->Prop),Inv X pins σ H s->t σ H Q->
  wpAny (model X.prog X.w) X.A (evalPart e X.env) (λu s'=>∃o H',Inv X pins σ H' s'/\IsPart u o/\Q o H') X.xe s
def Su:TO:=λ_ H Q=>Q none H
def nZ(t:TE):TO:=λσ H Q=>t σ H λx H1=>∃i,x = .int i/\Q (some i) H1
def intsAre_of:∀{us:List Value},zQ (ns.map V.int) us->IntsAre us ns:=by
 induction ns with
 |nil=>intro us r;cases r;exact .nil
 |cons n ns ih=>
  intro us r;cases r with
  |cons r1 r2=>
   obtain⟨t,e⟩:=r1;subst e;exact .cons n t<|ih r2
section
variable{X:Cx}{e:Expr}{te:TE}{lo hi:Option Expr}{tl th:TO}{pos p2:Pos}
def JQ:PO X none Su:=by
 intro pins s σ H Q I h;rw[evalPart_none];exact zxF ⟨none,H,I,.none,h⟩
def DE(h:PE X e te):PO X (some e) (nZ te):=by
 intro pins s σ H Q I hw;rw[evalPart_some];refine xU (h pins s σ H _ I hw) λu s1 ⟨x,H1,I1,r1,q1⟩=>?_;obtain⟨i,rfl,q⟩:=q1;obtain⟨t,rfl⟩:=r1;exact⟨some i,H1,I1,.int i t,q⟩
def pb(X:Cx)(r:V->Option Int->Option Int->Hp->VK->Prop):Prop:=
 ∀(pins:List (Addr×Obj)) (s:Shared) (σ:St) (H:Hp) (x:V) (v vl vu:Value) (lo hi:Option Int) (sl:Addr) (Q:VK),Inv X pins σ H s->RelV x v->s.heap.IsSliceOf sl vl vu .none->IsPart vl lo->IsPart vu hi->r x lo hi H Q->
  ∃T id,typeLookup (.type T) "__getitem__"=pure (some<|.builtin id)/\s.TypeIs v T/\wpAny (model X.prog X.w) X.A (getItem v<|.ref sl) (EP X pins σ Q) X.xe s
def iH(r:V->Option Int->Option Int->Hp->VK->Prop)(te:TE)(tl th:TO):TE:=λσ H Q=>te σ H λx H1=>tl σ H1 λl H2=>th σ H2 λu H3=>r x l u H3 Q
def EG(hr:pb X r)(he:PE X e te)(hl:PO X lo tl)(hu:PO X hi th):PE X (.Subscript e (.Slice lo hi none p2) pos) (iH r te tl th):=by
 intro pins s σ H Q I h;refine Subscript_<|xU (he pins s σ H _ I h) λv s1 ⟨x,H1,I1,r1,q1⟩=>?_;refine wpAny_Slice<|xU (hl pins s1 σ H1 _ I1 q1) λvl s2 ⟨l,H2,I2,pl,q2⟩=>xU (hu pins s2 σ H2 _ I2 q2) λvu s3 ⟨u,H3,I3,pu,q3⟩=>?_;rw[evalPart_none];refine zxF ?_;have I4:Inv X pins σ H3 {s3 with heap:=s3.heap.push {cls:=.type "slice",data:=.fields #[vl,vu,.none]}}:=I3.kept (t':=s3.toks) λb ob q=>zxG _ q;obtain⟨T,id,hT,ht,hg⟩:=hr pins {s3 with heap:=s3.heap.push {cls:=.type "slice",data:=.fields #[vl,vu,.none]}} σ H3 x v vl vu l u s3.heap.objs.size Q I4 r1 (Heap.IsSliceOf.new ..) pl pu q3;exact tail_any ht hT hg (by with_unfolding_all rfl)
def Hl(xs:List V)(lo hi:Option Int):List V:=(xs.drop<|HT.sIx xs.length 0 lo).take<|HT.sIx xs.length xs.length hi-HT.sIx xs.length 0 lo
def UQ(xs)(lo hi):(Hl xs lo hi).length<=xs.length:=by
 unfold Hl;rw[zzS,List.length_drop];exact q0k
def k8(K:zzA):V->Option Int->Option Int->Hp->VK->Prop:=λx lo hi H Q=>∃a xs,x = .ref a/\V_ K H a xs/\
 ¬(HT.sIx xs.length 0 lo=0/\HT.sIx xs.length xs.length hi=xs.length)/\∀p,H p=none->Q (.ref p) (upd H p<|.tup<|Hl xs lo hi)
def qg:pb X (k8 X.K):=by
 intro pins s σ H x v vl vu lo hi sl Q I rx hs pl pu h;obtain⟨a,xs,rfl,hx,hw,q⟩:=h;cases rx;obtain⟨its,r,ht,hz⟩:=I.tuple hx;have hlen:its.toArray.size=xs.length:=by rw[zzH];exact r.length.symm
 refine⟨"tuple",_,PyProof.Rows.slot_tuple_getitem.lookup,ht.typeIs, ?_⟩;refine HT.QQ ht hs pl pu (by rw[hlen];exact hw) ?_ (by rw[hlen];exact hz);rw[hlen];refine⟨.ref s.heap.objs.size,_,I.laid (t':=s.toks) (λb ob q=>zxG _ q) (zzN _) ?_,rfl,q _<|I.hok.fresh<|zzN _⟩;exact⟨zzO (UQ xs lo hi) hz,_,(r.drop _).take _,IsTup.new _ _⟩
def nF(K:zzA):R2:=λx y H Q=>∃a b xs ys,x = .ref a/\y = .ref b/\V_ K H a xs/\V_ K H b ys/\xs≠[]/\xs.length+ys.length<=sizeLine/\
 (ys=[]->Q (.ref a) H)/\(ys≠[]->∀p,H p=none->Q (.ref p) (upd H p<|.tup<|xs++ys))
def zQ.nil_iff(r:zQ xs us):us=[] ↔ xs=[]:=by
 cases r with
 |nil=>simp
 |cons _ _=>simp
def Ak:Ra X (binaryOp .Add) (nF X.K):=by
 intro pins s σ H x y v u Q I rx ry h;obtain⟨a,b,xs,ys,rfl,rfl,ha,hb,hx,hz,q1,q2⟩:=h;cases rx;cases ry;obtain⟨its,r1,p1,_⟩:=I.tuple ha;obtain⟨its2,r2,p2,_⟩:=I.tuple hb;refine HT.Dp p1 p2 (λz=>hx<|r1.nil_iff.mp z) (λz=>⟨.ref a,H,I,rfl,q1<|r2.nil_iff.mp z⟩) (λz=>?_) (by rw[<-r1.length,<-r2.length];exact hz);refine⟨.ref s.heap.objs.size,_,I.laid (t':=s.toks) (λb ob q=>zxG _ q) (zzN _) ?_,rfl,q2 (λw=>z<|r2.nil_iff.mpr w) _<|I.hok.fresh<|zzN _⟩;exact⟨by rw[zzJ];exact hz,_,r1.append r2,IsTup.new _ _⟩
end
end L2
namespace L2
open PySem PySem.Spec PyProof.Rows
def ixN(n:Nat)(i:Int):Option Nat:=if 0<=i then(if i<n then some i.toNat else none)else if -(n:Int)<=i then some (i+n).toNat else none
def atI{α:Type}(xs:List α)(i:Int):Option α:=(ixN xs.length i).bind λj=>xs[j]?
def BC(h:ixN n i=some j):seqIndex? i n=some j/\j<n /\ -(n:Int)<=i/\i<n:=by
 unfold ixN at h
 by_cases h0:0<=i
 . rw[if_pos h0]at h
   by_cases h1:i<n
   . rw[if_pos h1]at h;have e:=zzY h;exact⟨by rw[seqIndex_of h0 h1,e],by omega,by omega,h1⟩
   . rw[if_neg h1]at h;cases h
 . rw[if_neg h0]at h
   by_cases h1 : -n<=i
   . rw[if_pos h1]at h;have e:=zzY h;exact⟨by rw[seqIndex_neg (q0m h0) h1,e],by omega,h1,by omega⟩
   . rw[if_neg h1]at h;cases h
def L0(h:atI xs i=some v):∃j,seqIndex? i xs.length=some j/\xs[j]? = some v/\j<xs.length /\ -(xs.length:Int)<=i/\i<xs.length:=by
 unfold atI at h;cases e:ixN xs.length i with
 |none=>rw[e]at h;cases h
 |some j=>
  rw[e]at h;obtain⟨h1,h2,h3,h4⟩:=BC e;exact⟨j,h1,h,h2,h3,h4⟩
def Ve{α:Type}{xs}{j:Nat}{v:α}(h:xs[j]? = some v):atI xs (j:Int)=some v:=by
 have hj:=(zzG.mp h).1;have e:ixN xs.length (j:Int)=some j:=by
  unfold ixN;rw[if_pos (q0b),if_pos<|(q0h hj)];simp
 unfold atI;rw[e];exact h
def Qb(b:Expr):Prop:=∀o i,subscripted b false o i=operate [o,i] (getItem o i)
def m_(X:Cx)(r:R2):Prop:=
 ∀(value slice:Expr) (pins:List (Addr×Obj)) (s:Shared) (σ:St) (H:Hp) (x y:V) (v u:Value) (Q:VK),Inv X pins σ H s->RelV x v->RelV y u->r x y H Q->
  subscripted slice false v u=operate [v,u] (getItem v u)->wpAny (model X.prog X.w) X.A (subscriptTail value slice v u) (EP X pins σ Q) X.xe s
def jh(X:Cx)(id:String)(r:V->List V->Hp->VK->Prop):Prop:=
 ∀(pins:List (Addr×Obj)) (s:Shared) (σ:St) (H:Hp) (x:V) (xs:List V) (v:Value) (us:List Value) (Q:VK),Inv X pins σ H s->RelV x v->zQ xs us->r x xs H Q->
  wpAny (model X.prog X.w) X.A (call (.builtin id) (v::us)) (EP X pins σ Q) X.xe s
section
variable{X:Cx}{a b:Expr}{ta tb:TE}{pos:Pos}
def OY(hr:m_ X r)(ha:PE X a ta)(hb:PE X b tb)(hs:Qb b):PE X (.Subscript a b pos) (mX r ta tb):=by
 intro pins s σ H Q I h;exact Subscript_<|sH ha hb I h λv u s2 x y H2 I2 rx ry q=>hr a b pins s2 σ H2 x y v u Q I2 rx ry q<|hs _ _
def kO(K:zzA):R2:=λx y H Q=>∃p xs i v,x = .ref p/\y = .int i/\Pc K H p xs/\atI xs i=some v/\Q v H
def jg(K:zzA):R2:=λx y H Q=>∃p xs i v,x = .ref p/\y = .int i/\V_ K H p xs/\atI xs i=some v/\Q v H
def ji:R2:=λx y H Q=>∃z i c,x = .str z/\y = .int i/\z.length<=sizeLine/\atI z.cps.toList i=some c/\Q (.str ⟨#[c]⟩) H
def NR:m_ X (kO X.K):=by
 intro value slice pins s σ H x y v u Q I rx ry h hs;obtain⟨p,xs,i,z,rfl,rfl,hq,he,q⟩:=h;cases rx;obtain⟨t,rfl⟩:=ry;obtain⟨its,r,pl,hz⟩:=I.list hq;obtain⟨j,h1,h2,h3,h4,h5⟩:=L0 he;obtain⟨w,ew,rw'⟩:=r.get h2;have hl:=r.length;have hn:=V0;have fin:EP X pins σ Q w s:=⟨z,H,I,rw',q⟩
 by_cases h0:0<=i
 . have hj:i.toNat=j:=by
    rw[seqIndex_of h0 h5]at h1;exact zzY h1
   exact item_listR pl.isList h0 (q1x h5 hl hz hn) (by rw[hj];simpa using ew) fin hs
 . have hj:(i+(its.toArray.size:Int)).toNat=j:=by
    rw[seqIndex_neg (q0m h0) h4]at h1;rw[zzH,<-hl];exact zzY h1
   exact subscriptTail_builtinR pl.isList.typeIs slot_list_getitem.lookup
    (wpAny_getItem_list_neg pl.isList (q0m h0) (by rw[zzH]<;>omega) (q1u h4 hl hz hn) (by rw[hj];simpa using ew) ⟨rfl,fin⟩) hs
def qC:m_ X (jg X.K):=by
 intro value slice pins s σ H x y v u Q I rx ry h hs;obtain⟨p,xs,i,z,rfl,rfl,hq,he,q⟩:=h;cases rx;obtain⟨t,rfl⟩:=ry;obtain⟨its,r,pl,hz⟩:=I.tuple hq;obtain⟨j,h1,h2,h3,h4,h5⟩:=L0 he;obtain⟨w,ew,rw'⟩:=r.get h2;have hl:=r.length;have hn:=V0;have fin:EP X pins σ Q w s:=⟨z,H,I,rw',q⟩;exact subscriptTail_builtinR pl.typeIs slot_tuple_getitem.lookup
  (getItem_tuple pl (by omega) (by omega) (by rw[zzH,<-hl];exact h1) (by simpa using ew) ⟨rfl,fin⟩) hs
def u4:m_ X ji:=by
 intro value slice pins s σ H x y v u Q I rx ry h hs;obtain⟨z,i,c,rfl,rfl,hz,he,q⟩:=h;obtain⟨t,rfl⟩:=rx;obtain⟨t',rfl⟩:=ry;obtain⟨j,h1,h2,h3,h4,h5⟩:=L0 he;have hl:z.cps.toList.length=z.length:=by simp[Str.length]
 rw[hl]at h1 h4 h5;have hn:=V0;exact tail_any (typeIs_str s z t) slot_str_getitem.lookup (getItem_str (by
  have e1:decide (i < -(2 ^ 63:Int))=false:=zyF (by omega);have e2:decide (i ≥ 2 ^ 63)=false:=zyF (by omega);rw[e1,e2,Bool.or_false]) (by rw[h1];simpa using h2) ⟨.str ⟨#[c]⟩,H,I.tok _,⟨_,rfl⟩,q⟩) hs
def EN(its:List Value)(n j:Nat)(u):Obj.mapSeq (·.setIfInBounds j u) {cls:=.type "list",data:=.seq its.toArray n}={cls:=.type "list",data:=.seq (its.set j u).toArray n}:=by
 simp[Obj.mapSeq]
theorem Inv.lst(I:Inv X pins σ H s)(h:H p=some (.lst xs)):
 ∃(its:List Value) (n:Nat),zQ xs its/\s.heap.get? p=some {cls:=.type "list",data:=.seq its.toArray n}/\xs.length<=sizeLine:=by
 obtain⟨z,its,n,r,e⟩:=I.hok p _ h;exact⟨its,n,r,e,z⟩
def Inv.lstUpd{pins σ H s p xs ys}{its its':List Value}{n n':Nat}{f}(I:Inv X pins σ H s)(h:H p=some (.lst xs))
 (ho:s.heap.get? p=some {cls:=.type "list",data:=.seq its.toArray n}) (hf:f {cls:=.type "list",data:=.seq its.toArray n}={cls:=.type "list",data:=.seq its'.toArray n'}) (r:zQ ys its') (hz:ys.length<=sizeLine) (t:Nat):
 Inv X pins σ (upd H p<|.lst ys) {s with heap:=s.heap.update p f,toks:=t}:=by
 have e:(s.heap.update p f).get? p=some {cls:=.type "list",data:=.seq its'.toArray n'}:=by
  rw[Heap.get?_update_self f ho (by rw[hf]<;>rfl),hf]
 refine I.write (by rw[h];trivial) (.inl rfl) (λb u hb q=>(Heap.get?_update_other _ _<|Ne.symm hb).trans q) ⟨_,e⟩ ?_;exact⟨hz,its',n',r,e⟩
def px:V->V->V->Hp->(Hp->Prop)->Prop:=λo i v H Q=>∃p xs k j,o = .ref p/\i = .int k/\H p=some (.lst xs)/\ixN xs.length k=some j/\Q (upd H p<|.lst<|xs.set j v)
def set_list:mI X px:=by
 intro pins s σ H o i v ov iv u Q I ro ri rv h;obtain⟨p,xs,k,j,rfl,rfl,hp,hj,q⟩:=h;cases ro;obtain⟨t,rfl⟩:=ri;obtain⟨its,n,r,ho,hz⟩:=I.lst hp;obtain⟨h1,h2,h3,h4⟩:=BC hj;have hl:=r.length;have hn:=V0;have I':Inv X pins σ _ {s with heap:=s.heap.update p _}:=
  I.lstUpd hp ho (EN its n j u) (r.set rv j) (by rw[zzU];exact hz) s.toks
 by_cases h0:0<=k
 . have hk:k.toNat=j:=by
    rw[seqIndex_of h0 h4]at h1;exact zzY h1
   exact W.ki_setAt ho h0 (q1x h4 hl hz hn) (by rw[zzH,<-hl];exact h4) (by rw[hk];exact⟨_,I',q⟩)
 . have hk:(k+(its.toArray.size:Int)).toNat=j:=by
    rw[seqIndex_neg (q0m h0) h3]at h1;rw[zzH,<-hl];exact zzY h1
   exact W.ki_setBack ho (q0m h0) (by rw[zzH,<-hl];exact h3) (q1u h3 hl hz hn) (by rw[hk];exact⟨_,I',q⟩)
def LB(lo hi)(n:Nat):(sliceBounds lo hi none n).1=((HT.sIx n 0 lo:Nat):Int)/\(sliceBounds lo hi none n).2.1=((HT.sIx n n hi:Nat):Int)/\(sliceBounds lo hi none n).2.2=1:=by
 refine⟨?_, ?_,rfl⟩
 . cases lo with
   |none=>simp[sliceBounds,HT.sIx]
   |some i=>
    simp only[sliceBounds,HT.sIx,Option.getD_none,show 1 > 0 by decide,if_true]
    by_cases h:i<0
    . simp only[h,if_true]<;>omega
    . simp only[h,if_false]<;>omega
 . cases hi with
   |none=>simp[sliceBounds,HT.sIx]
   |some i=>
    simp only[sliceBounds,HT.sIx,Option.getD_none,show 1 > 0 by decide,if_true]
    by_cases h:i<0
    . simp only[h,if_true]<;>omega
    . simp only[h,if_false]<;>omega
def Gz(its:List Value)(lo hi):slicePick its.toArray lo hi none=((its.drop<|HT.sIx its.length 0 lo).take<|HT.sIx its.length its.length hi-HT.sIx its.length 0 lo).toArray:=by
 obtain⟨h1,h2,h3⟩:=LB lo hi its.toArray.size;unfold slicePick;rw[h1,h2,h3];simp only[sliceRange_one,pick_run,zzH]<;>rfl
def jZ(K:zzA):V->Option Int->Option Int->Hp->VK->Prop:=λx lo hi H Q=>∃a xs,x = .ref a/\Pc K H a xs/\∀p,H p=none->Q (.ref p) (upd H p<|.lst<|Hl xs lo hi)
def A_:pb X (jZ X.K):=by
 intro pins s σ H x v vl vu lo hi sl Q I rx hs pl pu h;obtain⟨a,xs,rfl,hx,q⟩:=h;cases rx;obtain⟨its,r,ht,hz⟩:=I.list hx;have hlen:=r.length;refine⟨"list",_,slot_list_getitem.lookup,ht.isList.typeIs, ?_⟩;refine wpAny_getItem_list_slice ht.isList hs pl pu .none (by simp) ?_ (by rw[zzH]<;>omega);rw[Gz,<-hlen];refine⟨.ref s.heap.objs.size,_,I.laid (t':=s.toks) (λb ob q=>zxG _ q) (zzN _) ?_,rfl,q _<|I.hok.fresh<|zzN _⟩;exact⟨zzO (UQ xs lo hi) hz,_,0,(r.drop _).take _,zxI _ rfl⟩
def QF:YW X (.builtin "len") (λxs H Q=>∃p ys,xs=[.ref p]/\(Pc X.K H p ys\/V_ X.K H p ys)/\Q (.int ys.length) H):=by
 intro pins s σ H xs us Q I r h;obtain⟨p,ys,rfl,hq,q⟩:=h;obtain⟨u,rfl,rx⟩:=vals1 r;cases rx;have hn:=V0
 rcases hq with hq|hq
 . obtain⟨its,r',pl,hz⟩:=I.list hq;have hlen:=r'.length;exact Calls.call_len_list pl.isList (by simp only[zzH]<;>omega) ⟨.int ys.length,H,I.tok _,⟨s.toks+1,by rw[zzH,hlen]⟩,q⟩
 . obtain⟨its,r',pl,hz⟩:=I.tuple hq;have hlen:=r'.length;exact len_tuple pl (by simp only[zzH]<;>omega) ⟨.int ys.length,H,I.tok _,⟨s.toks+1,by rw[zzH,hlen]⟩,q⟩
def Lo:YW X (.builtin "len") (λxs H Q=>∃z,xs=[.str z]/\z.length<=sizeLine/\Q (.int z.length) H):=by
 intro pins s σ H xs us Q I r h;obtain⟨z,rfl,hz,q⟩:=h;obtain⟨u,rfl,t,rfl⟩:=vals1 r;have hn:=V0;exact len_str (by omega) ⟨.int z.length,H,I.tok _,⟨_,rfl⟩,q⟩
def QU:YW X (.type "list") (λxs H Q=>∃p ys,xs=[.ref p]/\(Pc X.K H p ys\/V_ X.K H p ys)/\∀l,H l=none->Q (.ref l) (upd H l<|.lst ys)):=by
 intro pins s σ H xs us Q I r h;obtain⟨p,ys,rfl,hq,q⟩:=h;obtain⟨u,rfl,rx⟩:=vals1 r;cases rx;have fin:∀its,zQ ys its->ys.length<=sizeLine->∀h' c',_->
  h'.get? s.heap.objs.size=some {cls:=.type "list",dict:=none,data:=.seq its.toArray c',slots:=#[]}->EP X pins σ Q _ {s with heap:=h'}:=λits r' hz h' c' kp e=>
  ⟨.ref s.heap.objs.size,_,I.laid (t':=s.toks) kp (zzN _) (show xY X.prog X.w _ h' _ (.lst ys)from⟨hz,its,c',r',e⟩),rfl,q _<|I.hok.fresh<|zzN _⟩
 rcases hq with hq|hq
 . obtain⟨its,r',pl,hz⟩:=I.list hq;have hlen:=r'.length;obtain⟨o,ho,hc,n,hd⟩:=pl.isList;exact call_list_seq p (.inl rfl) ho hc hd (λh' c' kp e=>fin its r' hz h' c' kp e) (by simp only[zzH]<;>omega)
 . obtain⟨its,r',pl,hz⟩:=I.tuple hq;have hlen:=r'.length;obtain⟨o,ho,hc,n,hd⟩:=pl;exact call_list_seq p (.inr rfl) ho hc hd (λh' c' kp e=>fin its r' hz h' c' kp e) (by simp only[zzH]<;>omega)
def VG:YW X (.type "tuple") (λxs H Q=>∃p ys,xs=[.ref p]/\((Pc X.K H p ys/\∀l,H l=none->Q (.ref l) (upd H l<|.tup ys))\/(V_ X.K H p ys/\Q (.ref p) H))):=by
 intro pins s σ H xs us Q I r h;obtain⟨p,ys,rfl,h⟩:=h;obtain⟨u,rfl,rx⟩:=vals1 r;cases rx
 rcases h with⟨hq,q⟩|⟨hq,q⟩
 . obtain⟨its,r',pl,hz⟩:=I.list hq;have hlen:=r'.length;refine call_tuple_list pl.isList (λh' kp=>?_) (by simp only[zzH]<;>omega);have I1:=I.kept (t':=s.toks) kp;have I2:=
    I1.laid (t':=s.toks) (λb o e=>zxG _ e) (zzN _) (show xY X.prog X.w _ _ _ (.tup ys)from⟨hz,its,r',IsTup.new _ _⟩)
   exact⟨.ref h'.objs.size,_,I2,rfl,q _<|I1.hok.fresh<|zzN _⟩
 . obtain⟨its,r',pl,hz⟩:=I.tuple hq;exact call_tuple_same pl ⟨.ref p,H,I,rfl,q⟩
def iV(K:zzA)(T:String)(x:V)(H:Hp):Prop:=match x with
 | .str _=>T="str"
 | .int _=>T="int"
 | .ref p=>(T="list"/\∃xs,Pc K H p xs)\/(T="tuple"/\∃o,K.lookup p=some o/\o.cls = .type "tuple"/\o.dict=none) \/
  (T="dict"/\((∃kvs,H p=some (.dK kvs))\/∃kvs,H p=some (.dT kvs)))\/(T="set"/\∃S n,H p=some (.set S n))
 |_=>False
def rF(I:Inv X pins σ H s)(r:RelV x v)(ty:iV X.K T x H):
 s.TypeIs v T/\∀a,v = .ref a->∃ob,s.heap.get? a=some ob/\ob.dict=none:=by
 cases x with
 |str z=>
  obtain⟨t,rfl⟩:=r;cases(ty);exact⟨typeIs_str s z t,λ_ e=>nomatch e⟩
 |int i=>
  obtain⟨t,rfl⟩:=r;cases(ty);exact⟨typeIs_int s i t,λ_ e=>nomatch e⟩
 |ref p=>
  cases r
  rcases ty with⟨rfl,xs,hq⟩|⟨rfl,o,hk,hc,hd⟩|⟨rfl,hk⟩|⟨rfl,S,n,hk⟩
  . obtain⟨its,_,pl,_⟩:=I.list hq;refine⟨pl.isList.typeIs,λa e=>?_⟩;cases e;obtain⟨o,n,e,c,hd,_⟩:=pl;exact⟨o,e,hd⟩
  . refine⟨⟨o,I.kIn p o hk,hc⟩,λa e=>?_⟩;cases e;exact⟨o,I.kIn _ o hk,hd⟩
  . have z:∃o,s.heap.get? p=some o/\o.ExactDict:=by
     rcases hk with⟨kvs,hk⟩|⟨kvs,hk⟩
     . obtain⟨_,_,_,_,o,_,_,e,ex,_⟩:=I.hok p _ hk;exact⟨o,e,ex⟩
     . obtain⟨_,_,_,_,o,_,_,e,ex,_⟩:=I.hok p _ hk;exact⟨o,e,ex⟩
    obtain⟨o,e,ex⟩:=z;refine⟨⟨o,e,ex.1⟩,λa e2=>?_⟩;cases e2;exact⟨o,e,ex.2.1⟩
  . obtain⟨o,_,_,_,e,ex,_⟩:=I.hok p _ hk;refine⟨⟨o,e,ex.1⟩,λa e2=>?_⟩;cases e2;exact⟨o,e,ex.2.1⟩
 |_=>exact False.elim ty
def iu(K:zzA)(T:String)(r:V->List V->Hp->VK->Prop)(to:TE)(t:TA):TE:=λσ H Q=>to σ H λx H1=>iV K T x H1/\t σ H1 λxs H2=>r x xs H2 Q
variable{o e:Expr}{es:List Expr}{to:TE}{t:TA}{name:Str}{apos cpos:Pos}{T id:String}{r:V->List V->Hp->VK->Prop}
def uQ(pa:PlainAttrs T)(slot:Slot T name id)(hty:typeOf (.builtin id)=pure (.type "method_descriptor"))(hm:jh X id r)(ho:PE X o to)(ha:PA X (e::es) t)
 (hbase:attributeBase o name X.env (eval o X.env)=eval o X.env:=by rfl)
 (hfew:((backTo cpos<|starEach (e::es) X.env).all (λx=>!x.1)&&(backToKw cpos<|keywordEach [] X.env).all (λx=>x.1.isSome)
  && decide ((e::es).length+([]:List Keyword).length+(if([]:List Keyword).isEmpty then 0 else 1)<30))=true:=by rfl)
 (hline:(apos.endLine==cpos.line)=true:=by rfl) (hs:starEach (e::es) X.env=(false,eval e X.env)::starEach es X.env:=by rfl) (hplain:(backTo cpos<|starEach es X.env).any (·.1)=false:=by rfl):
 PE X (.Call (.Attribute o name apos) (e::es) [] cpos) (iu X.K T r to t):=by
 intro pins s σ H Q I h;refine wpAny_Call_method_late hbase hfew hline rfl<|xU (ho pins s σ H _ I h) λv s1 ⟨x,H1,I1,r1,ty,q1⟩=>?_;obtain⟨h1,h2⟩:=rF I1 r1 ty;refine⟨T,id,pa,slot,hty,h1,h2, ?_⟩;have hA:=ha cpos pins s1 σ H1 _ I1 q1;rw[hs]at hA ⊢;refine Calls.callWith_builtin (by show(false||(backTo cpos _).any (·.1))=false;rw[hplain]<;>rfl)<|Calls.evalArgs_plain ?_;exact xU hA λus s2 ⟨vs,H2,I2,r2,q2⟩=>hm pins s2 σ H2 x vs v us Q I2 r1 r2 q2
end
end L2
namespace L2
open PySem PySem.Spec PyProof.Rows
def jX(X:Cx)(id:String)(r:V->List V->Hp->VK->Prop):Prop:=
 ∀(pins:List (Addr×Obj)) (s:Shared) (σ:St) (H:Hp) (x:V) (xs:List V) (v:Value) (us:List Value) (Q:VK),Inv X pins σ H s->RelV x v->zQ xs us->r x xs H Q->
  wpAny (model X.prog X.w) X.A (call (.builtin id) (v::us)) (EP X pins σ Q) X.xe s
def zQ.one:∀{x:V}{us:List Value},zQ [x] us->∃u,us=[u]/\RelV x u:=by
 intro x us h;cases h with
 |cons r t=>cases t;exact⟨_,rfl,r⟩
theorem zQ.eraseIdx:∀{xs:List V}{us:List Value}(i:Nat),zQ xs us->zQ (xs.eraseIdx i) (us.eraseIdx i)
 |_,_,_,.nil=>.nil
 |_,_,0,.cons _ t=>t
 |_,_,i+1,.cons r t=>.cons r<|zQ.eraseIdx i t
theorem zQ.reverse(h:zQ xs us):zQ xs.reverse us.reverse:=by
 induction h with
 |nil=>exact .nil
 |cons r t ih=>rw[List.reverse_cons,List.reverse_cons];exact zQ.append ih<|.cons r .nil
theorem zQ.rep(h:zQ xs us):∀k:Nat,zQ (List.replicate k xs).flatten (List.replicate k us).flatten
 |0=>.nil
 |k+1=>by
  rw[List.replicate_succ,List.replicate_succ,List.flatten_cons,List.flatten_cons];exact zQ.append h<|zQ.rep h k
theorem KF:∀(l:List α) (i:Nat),(l.eraseIdx i).length<=l.length
 | [],_=>zzN _
 |_::_,0=>zyV _
 |_::r,i+1=>Nat.succ_le_succ<|KF r i
theorem foldl_rep(its):∀(k:Nat) (acc:List Value),
 List.foldl (λx1 x2=>x1++x2) acc.toArray (List.replicate k its.toArray)=(acc++(List.replicate k its).flatten).toArray
 |0,acc=>by simp
 |k+1,acc=>by
  have e:acc.toArray++its.toArray=(acc++its).toArray:=by simp
  have e2:(acc++its)++(List.replicate k its).flatten=acc++(List.replicate (k+1) its).flatten:=by
   rw[List.replicate_succ,List.flatten_cons,zxB]
  rw[<-e2,<-foldl_rep its k _,<-e,List.replicate_succ,List.foldl_cons]
section
variable{X:Cx}{pins:List (Addr×Obj)}{σ:St}{H:Hp}{s:Shared}{l b:Addr}{xs ys zs:List V}
def Inv.lset{its its':List Value}{n:Nat}{f}{t':Nat}(I:Inv X pins σ H s)(hH:H l=some (.lst xs))
 (e:s.heap.get? l=some {cls:=.type "list",data:=.seq its.toArray n}) (hf:f its.toArray=its'.toArray) (hv:zQ ys its') (hz:ys.length<=sizeLine):
 Inv X pins σ (upd H l<|.lst ys) {s with heap:=s.heap.update l<|Obj.mapSeq f,toks:=t'}:=by
 have q:=PySem.IsL.update e f;rw[hf]at q;refine I.write (by rw[hH];exact trivial) (.inl rfl) (λb' u hb hu=>(Heap.get?_update_other s.heap _<|Ne.symm hb).trans hu) ⟨_,q⟩ ?_;exact⟨hz,its',_,hv,q⟩
def Inv.lnew(I:Inv X pins σ H s)(hv:zQ ys its)(hz:ys.length<=sizeLine):
 Inv X pins σ (upd H s.heap.objs.size<|.lst ys) {s with heap:=s.heap.push {cls:=.type "list",data:=.seq its.toArray},toks:=t'}:=
 I.laid (λ_ _ q=>zxG _ q) (zzN _) ⟨hz,its,0,hv,zxI _ rfl⟩
theorem Inv.fresh(I:Inv X pins σ H s):H s.heap.objs.size=none:=I.hok.fresh<|zzN _
def Inv.lstM(I:Inv X pins σ H s)(hH:H l=some (.lst xs)):xs.length<=sizeLine/\∃(its:List Value) (n:Nat),zQ xs its/\xs.length=its.length/\s.heap.get? l=some {cls:=.type "list",data:=.seq its.toArray n}:=by
 obtain⟨z,its,n,r,e⟩:=I.hok l _ hH;exact⟨z,its,n,r,r.length,e⟩
def Cc(h:n<=sizeLine):Builtin.List.listTooLong n=false:=by
 unfold Builtin.List.listTooLong;exact zyF (by omega)
end
section
variable{X:Cx}
def Bz:V->List V->Hp->VK->Prop:=λx vs H Q=>∃l xs y,x = .ref l/\vs=[y]/\H l=some (.lst xs)/\xs.length<sizeLine/\Q .non (upd H l<|.lst<|xs++[y])
def Lc:jX X "list.append" Bz:=by
 intro pins s σ H x vs v us Q I rx rv h;obtain⟨l,xs,y,rfl,rfl,hH,hz,q⟩:=h;cases rx;obtain⟨u,rfl,ru⟩:=rv.one;obtain⟨z,its,n,r,hl,e⟩:=I.lstM hH;refine call_meets F.slot_list_append ⟨_,e,rfl⟩ F.entry_list_append (F.args_list_append_2 _ _) (PySem.list_append l its.toArray n u<|by rw[zzH];exact q1g hz hl) ⟨e, ?_⟩;refine⟨.non,_,I.lset (its':=its++[u]) hH e (by simp) (r.append<|.cons ru .nil) ?_,rfl,q⟩;rw[zzJ,List.length_singleton];omega
def Cg:V->List V->Hp->VK->Prop:=λx vs H Q=>∃l xs i k y,x = .ref l/\vs=[.int i]/\H l=some (.lst xs) /\ -(2 ^ 63)<=i/\i<2 ^ 63/\seqIndex? i xs.length=some k/\xs[k]? = some y/\Q y (upd H l<|.lst<|xs.eraseIdx k)
def Ig:jX X "list.pop" Cg:=by
 intro pins s σ H x vs v us Q I rx rv h;obtain⟨l,xs,i,k,y,rfl,rfl,hH,h1,h2,hk,hy,q⟩:=h;cases rx;obtain⟨u,rfl,ru⟩:=rv.one;obtain⟨t,rfl⟩:=ru;obtain⟨z,its,n,r,hl,e⟩:=I.lstM hH;obtain⟨w,hw,rw'⟩:=r.get hy;refine call_meets F.slot_list_pop ⟨_,e,rfl⟩ F.entry_list_pop (F.args_list_pop_2 _ _)
  (MeetsSeq.list_pop_at l its.toArray n i t k w (fitsIndex_both h1 h2) (by rw[zzH,<-hl];exact hk) (by rw[<-Array.getElem?_toList];exact hw)<|by rw[zzH];exact q0f hl z) ⟨e, ?_⟩
 refine⟨y,_,I.lset (its':=its.eraseIdx k) hH e ?_ (r.eraseIdx k) ?_,rw',q⟩
 . show _=_;rw[List.eraseIdxIfInBounds_toArray]
 . have:=KF xs k;omega
def len_rep(xs:List α)(k:Nat):(List.replicate k xs).flatten.length=k*xs.length:=by
 induction k with
 |zero=>simp
 |succ k ih=>rw[List.replicate_succ,List.flatten_cons,zzJ,ih,Nat.succ_mul,Nat.add_comm]
end
end L2
namespace Att
open PySem PySem.W PySem.Calls PyProof.Rows
def Rw:∀(ns:List Int) (vs:List Value),WellAll P h vs (ns.map WData.int)->IntsAre vs ns:=by
 intro ns
 induction ns with
 |nil=>
  intro vs w;rw[List.map_nil]at w;cases w;exact .nil
 |cons n ns ih=>
  intro vs w;rw[zyR]at w;cases w with
  |cons a b=>
   cases a;exact .cons _ _<|ih _ b
def HI{l:OpenLaw}{n:Nat}(hn:l.most=some n){P h args vals}
 (hpre:l.row.toRowW.claim.pre args=true) (hwl:WellAll P h vals args):
 ∃a vs ns,vals=[Value.ref a]/\args=[WData.list<|ns.map WData.int]/\h.get? a=some {cls:=.type "list",data:=.seq vs.toArray}/\IntsAre vs ns/\ns.length<=n:=by
 have hsh:=(pre_splitW hpre).1;have hc:l.pre.holds [] {args:=args}=true:=(pre_splitW hpre).2;obtain⟨d,r,rfl,h1,h2⟩:=hasAllW_cons hsh;obtain rfl:=hasAllW_nil h2;obtain⟨xs,rfl,h3⟩:=hasW_list h1;obtain⟨ns,rfl⟩:=items_int h3;have hlen:ns.length<=n:=by
  unfold OpenLaw.pre at hc;have h4:(WTm.not<|.lt (.lit<|.int (n:Int))<|.len<|.arg 0).holds [] {args:=[.list<|ns.map .int]}=true:=by
   have h4:=(holds_andW hc).1;rw[hn]at h4;exact h4
  have h5:=condW_of h4<|w_not<|w_lt w_lit<|w_len_list<|w_arg rfl;rw[zzB]at h5;refine Nat.le_of_not_lt λq=>?_;have q':n<(ns.length:Int):=q0h q
  first
   |(rw[zyN q']at h5;exact absurd h5 (by decide))
   |(simp at h5;omega)
 cases hwl with
 |cons w1 w2=>
  cases w2;cases w1 with
  |list ho hall=>exact⟨_,_,ns,rfl,rfl,ho,Rw ns _ hall,hlen⟩
def Ha(l:OpenLaw)(args):l.row.toRowW.claim.post args (.bool true) args=true:=
 postW_of
  (show WShape.has [] _ .bool=true by first|rfl|decide|simp[WShape.has,WShape.arms,WShape.armsAll])
  (w_eq_bool (w_res rfl) w_lit) rfl
def MO{l:OpenLaw}{n:Nat}{q loose XP YP d}
 (hn:l.most=some n) (hdf:d.params.defaults=[])
 (call:∀(w:World) (s₀ s₁:Shared) (mg mb:Str->Option Value) (fa:Addr) (o:Obj) (pm cd doc:Value) (a:Addr) (vs:List Value) (ns:List Int),
  Ground q loose [] XP w s₀ mg mb s₁.heap->YP w s₁.heap->
  s₁.heap.get? fa=some o->o.data = .func (docDef d.name d.params d.body d.scope pm cd doc)->s₁.heap.CodeRec cd d.name->mg d.name=some (.ref fa)->
  s₁.heap.get? a=some {cls:=.type "list",data:=.seq vs.toArray}->IntsAre vs ns->ns.length<=n->s₁.gens = #[]->
  codeAny (model l.prog w) callerA (.call (.ref fa) ⟨[.ref a],[]⟩) (λr s'=>r = .ok (.ret<|.bool true)/\OldK s₁.heap s'.heap/\s'.os=s₁.os/\AllBare s'.gens) s₁):
 WalkO q loose XP YP l.row.toRowW d [] (λf vs=>PySem.call f vs):=by
 intro w s₀ s₁ mg mb G Y fa o pm cd doc dV kV ho hd hcd hD hmg hg args vals as hpre hlay hrd hwl hlo;obtain rfl:dV = .none:=Dflts.none hD hdf;obtain rfl:kV = .none:=Dflts.noKw hD;obtain⟨a,vs,ns,rfl,rfl,hobj,hints,hlen⟩:=HI hn hpre hwl;refine enter_call<|codeAny_mono (call w s₀ s₁ mg mb fa o pm cd doc a vs ns G Y ho (fd_plain hd) hcd hmg hobj hints hlen hg) λr s' hq=>?_;obtain⟨rfl,h2,h3,h4⟩:=hq;exact⟨.inl ⟨.bool true,.bool true,[],rfl,λ_=>rfl,.bool true,Ha l _,λ_=>⟨List.Pairwise.nil,λ_ hm=>(nomatch hm)⟩⟩,h2,h3,h4⟩
end Att
namespace L2
open PySem PySem.Spec PyProof.Rows
theorem YZ:∀{vs:List Value}{ns:List Int},IntsAre vs ns->zQ (ns.map V.int) vs
 |_,_,.nil=>.nil
 |_,_,.cons n t h=>.cons ⟨t,rfl⟩<|YZ h
def qm(H:Hp):Prop:=∀b,H b=none\/∃o xs,H b=some (.frz o<|.lst xs)
def IS{P w K mg mb CX}{k:Nat}{fa a fd x sp s₁ vs ns}
 (KX:K.In s₁.heap) (hns:s₁.heap.Ns mainGlobals mg) (hb:s₁.heap.Ns builtinsNs mb) (hbb:∀x:Str,x≠"__name__"->mb x=bootBuiltins x) (hlim:s₁.heap.NoLimit) (hg:s₁.gens = #[])
 (ha:s₁.heap.get? a=some {cls:=.type "list",data:=.seq vs.toArray}) (hi:IntsAre vs ns) (hl:ns.length<=sizeLine) (hr:Room k callerA)
 (F:∀base:Heap,K.In base->base.Ns mainGlobals mg->FnOk P w K mg base CX k fa fd [x] sp) (hbind:∀(s:Shared) (u:Value),BindsTo s fd ⟨[u],[]⟩ [(x,u)])
 (hsp:∀H:Hp,qm H->OP K H a (ns.map V.int)->sp [.ref a] H (λv _=>v = .bl true) λ_ _ _=>False)
 (hCX:∀H e s',CX [] H s₁ (λ_ _ _=>False) e s'->False):
 codeAny (model P w) callerA (.call (.ref fa) ⟨[.ref a],[]⟩) (λr s'=>r = .ok (.ret<|.bool true)/\OldK s₁.heap s'.heap/\s'.os=s₁.os/\AllBare s'.gens) s₁:=by
 have rv:=YZ hi;have lenV:=hi.length;have core:∀H:Hp,qm H->OP K H a (ns.map V.int)->Qa P w H s₁.heap->(∀b,H b≠none->b=a)->(H a≠none->K.lookup a=none)->
  codeAny (model P w) callerA (.call (.ref fa) ⟨[.ref a],[]⟩) (λr s'=>r = .ok (.ret<|.bool true)/\OldK s₁.heap s'.heap/\s'.os=s₁.os/\AllBare s'.gens) s₁:=by
  intro H hO hS hok hA hK;have base_of:∀{b:Addr}{o:Obj},s₁.heap.get? b=some o->H b=none->(Hg s₁.heap H).get? b=some o:=λe n=>IK e n;have noA:∀{b:Addr}{o:Obj}{es:Array DictEntry}{ep:Nat},s₁.heap.get? b=some o->o.data = .dict es ep->H b=none:=λ{b o es ep} e d=>by
   cases q:H b with
   |none=>rfl
   |some u=>
    have e':b=a:=hA b (by rw[q];simp);subst e';rw[ha]at e;cases e;have d':Data.seq vs.toArray _=Data.dict es ep:=d;cases d'
  have nsK:∀{b:Addr}{m:Str->Option Value},s₁.heap.Ns b m->(Hg s₁.heap H).Ns b m:=λ{b m} ⟨o,es,ep,e,d,r⟩=>⟨o,es,ep,base_of e<|noA e d,d,r⟩;have hKb:=λb o e=>base_of (KX b o e) (by
   cases q:H b with
   |none=>rfl
   |some u=>
    have e':b=a:=hA b (by rw[q];simp);subst e';rw[hK<|by rw[q];simp]at e;cases e)
  have hM:Mod K mg _:=⟨hKb,nsK hns,⟨mb,nsK hb,hbb⟩,let⟨mc,h1,h2⟩:=hlim;⟨mc,nsK h1,h2⟩⟩;have e0:Env0 P w K mg _ callerA [] s₁ H:=⟨rfl,hM,λb o e=>JA e,Nat.le_of_eq<|HE _ _,trivial,λb hb=>absurd (show b ∈ ([]:List Addr)from hb) (by simp),hok,.of_eq hg⟩;refine codeAny_mono ((F _ hKb<|nsK hns).run callerA [] s₁ H ⟨_,[]⟩ [.ref a] [.ref a] _ _ hr e0 (hbind s₁<|.ref a) (.cons rfl .nil)<|hsp H hO hS) λr s' h=>?_;cases r with
  |error e=>exact(hCX H e s' h).elim
  |ok fl=>
   cases fl with
   |next=>exact False.elim h
   |brk=>exact False.elim h
   |cont=>exact False.elim h
   |ret u=>
    obtain⟨v,H',os,bare,un,hok',r',q⟩:=h;have q':v = .bl true:=q;subst q';obtain rfl:u=Value.bool true:=r';refine⟨rfl,OldK.of_keep λb o e=>?_,os,bare⟩;cases q:H b with
    |none=>exact un.keep b o e q (by intro z;exact absurd (show b ∈ ([]:List Addr)from z)<|by simp) (by simp)
    |some u=>
     rcases hO b with z|⟨ob,xs,z⟩
     . rw[q]at z;cases z
     . have z2:=un.frzs b ob _ z;obtain⟨e1,_⟩:=hok b _ z;obtain⟨e2,_⟩:=hok' b _ z2;rw[e]at e1;cases e1;exact e2
 cases hk:K.lookup a with
 |some o=>
  have e:=KX a o hk;rw[ha]at e;cases e;refine core (λ_=>none) (λ_=>.inl rfl) (.inr ⟨vs.toArray,_,hk,by rw[zzH,lenV];exact hl,by simpa using rv⟩) (λb u z=>by have z':none=some u:=z;cases z') (λb z=>absurd rfl z) λz=>absurd rfl z
 |none=>
  refine core (λb=>if b=a then some _ else none) (λb=>?_) (.inl<|.inr ⟨{cls:=.type "list",data:=.seq vs.toArray},if_pos rfl⟩) (λb u z=>?_) (λb z=>?_) λ_=>hk
  . by_cases hb:b=a
    . exact .inr ⟨_,_,if_pos hb⟩
    . exact .inl<|if_neg hb
  . by_cases hb:b=a
    . have z':=(if_pos hb).symm.trans z;cases z';subst hb;exact⟨ha,by rw[zzB];exact hl,vs,_,rv,ha⟩
    . have z':=(if_neg hb).symm.trans z;cases z'
  . by_cases hb:b=a
    . exact hb
    . exact absurd (if_neg hb) z
end L2
namespace L2
open PySem PySem.Spec PyProof.Rows
def walk_of{l:PySem.W.OpenLaw}{n k:Nat}{q loose XP YP d}{K:Params->zzA}{CX:World->D4}{sp:World->Sp}{x}
 (hn:l.most=some n) (hn2:n<=sizeLine) (hdf:d.params.defaults=[]) (hr:Room k callerA)
 (hY:∀(w:World) (h:Heap),YP w h->(K w.params).In h)
 (F:∀(w:World) (mg:Str->Option Value) (fa:Addr) (h:Heap),(K w.params).In h->h.Ns mainGlobals mg->mg d.name=some (.ref fa)->
  ∃fd:FuncData,(∀(s:Shared) (u:Value),BindsTo s fd ⟨[u],[]⟩ [(x,u)])/\
   ∀base:Heap,(K w.params).In base->base.Ns mainGlobals mg->FnOk l.prog w (K w.params) mg base (CX w) k fa fd [x] (sp w))
 (hsp:∀(w:World) (H:Hp) (a:Addr) (ns:List Int),ns.length<=n->qm H->OP (K w.params) H a (ns.map V.int)->sp w [.ref a] H (λv _=>v = .bl true) λ_ _ _=>False)
 (hCX:∀(w:World) (H:Hp) (s:Shared) (e:Value) (s':Shared),CX w [] H s (λ_ _ _=>False) e s'->False):
 PySem.W.WalkO q loose XP YP l.row.toRowW d [] (λf vs=>PySem.call f vs):=by
 refine Att.MO hn hdf λw s₀ s₁ mg mb fa o pm cd doc a vs ns G Y ho hd hcd hmg hobj hints hlen hg=>?_;have KX:=hY w _ Y;obtain⟨fd,hb,hF⟩:=F w mg fa _ KX G.T.g hmg;exact IS KX G.T.g G.T.b G.T.builtins G.T.nolimit hg hobj hints (zzO hlen hn2) hr hF hb (λH hO hS=>hsp w H a ns hlen hO hS) λH e s'=>hCX w H s₁ e s'
end L2
namespace L2
open PySem PySem.Spec PyProof.Rows
def inClass(s:Stmt)(j:Nat):Stmt:=match s with
 | .ClassDef _ _ _ body _ _ _ _ _ _ _=>body.getD j (.Pass ⟨0,0,0,0⟩)
 |_=>.Pass ⟨0,0,0,0⟩
def RN(s:Stmt):Arguments:=match s with
 | .FunctionDef _ a _ _ _ _ _ _ _ _=>a
 |_=>{posonlyargs:=[],args:=[],vararg:=none,kwonlyargs:=[],kw_defaults:=[],kwarg:=none,defaults:=[]}
def v7(s:Stmt):List Stmt:=match s with
 | .FunctionDef _ _ b _ _ _ _ _ _ _=>b
 |_=>[]
def zR(s:Stmt):Scope:=match s with
 | .FunctionDef _ _ _ _ _ _ sc _ _ _=>sc
 |_=>{kind:=.function,names:=[],isGenerator:=false,isCoroutine:=false}
abbrev Ys:D4:=λ_ _ _ _ _ _=>False
abbrev E0:XK:=λ_ _ _=>False
def vO:vF Ys X E0:=λ_ _ _ _ _ _ _ h=>h.elim
structure Fun(K:zzA)(x qual:Str)(st:Stmt)(f:Addr)(fd:FuncData):Prop where
 ex:∃(oc:Value) (od:Option Addr) (kV doc pm:Value) (an:Option Addr) (cdv ct:Value) (osl:Array (Option Value)),
  fd=W.fnOf x qual (RN st) (v7 st) (zR st) .none kV doc pm an cdv ct/\K.lookup f=some ⟨oc,od,.func fd,osl⟩/\W.codeIn K cdv qual=true
 kp:W.keepIn K (.ref f)=true
section
variable{P:Program}{w:World}{K:zzA}{mg:Str->Option Value}{base:Heap}
def Fun.ok{x qual st f fd N ps}{k:Nat}{sp}(F:Fun K x qual st f fd)(S:FnScope N ps (zR st))(len:∀vs H Q E,sp vs H Q E->vs.length=ps.length)
 (hbody:∀(cdv:Value) (A:Around) (outer:List Env) (s:Shared) (H:Hp) (vs:List V) (Q:VK) (E:XK),Room k (A.deeper<|envOfC qual (zR st) s.heap.objs.size f cdv)->sp vs H Q E->
  ∃t,Nv (RA Ys P w K mg base N qual (zR st) f cdv A outer s H E).nox (v7 st) t/\t {nx:=λ_ H'=>Q .non H',rt:=Q} (start N vs) H):FnOk P w K mg base Ys (k+1) f fd ps sp:=by
 obtain⟨oc,od,kV,doc,pm,an,cdv,ct,osl,rfl,lk,hcd⟩:=F.ex;refine p7 lk hcd S len λA outer s H vs Q E hr hsp=>?_;obtain⟨t,h,q⟩:=hbody cdv A outer s H vs Q E hr hsp;exact⟨t,h.nox,q⟩
def Fun.binds{x qual st f fd ps}(F:Fun K x qual st f fd)
 (h:∀(kV doc pm:Value) (an:Option Addr) (cdv ct:Value) (us:List Value),us.length=ps.length->bindArgs (W.fnOf x qual (RN st) (v7 st) (zR st) .none kV doc pm an cdv ct) ⟨us,[]⟩=pure (ps.zip us)):Binds K fd ps []:=by
 obtain⟨oc,od,kV,doc,pm,an,cdv,ct,osl,rfl,lk,hcd⟩:=F.ex;exact .all<|h kV doc pm an cdv ct
end
def IJ(hr:Room k A):A.units+1<cLine:=Nat.lt_of_le_of_lt (Nat.add_le_add_left (by decide:1<=64) _) hr.units
def Vf(h:n<=1000):n<sizeLine:=Nat.lt_of_le_of_lt h (by decide)
section
variable{X:Cx}
def pv(i:Nat)(hN:X.N[i]? = some x:=by rfl)(hv:kj X.env.scope x:=by first|exact Or.inl rfl|exact Or.inr (Or.inl rfl)|exact Or.inr (Or.inr rfl))(hd:(x==("__debug__":Str))=false:=by decide)
 (hcd:(x==("__classdict__":Str))=false:=by decide):PE X (.Name x pos) (Y1 i):=Ov hN hv hd hcd
end
end L2
end
section
namespace G94
open PySem PySem.W PyProof.Rows L2
def top(i:Nat):Stmt:=PySem.Challenge.pw_stretchdeeds_k94_whole_one_row_by_two_ro.main.body.getD i<|.Pass ⟨0,0,0,0⟩
abbrev Px:Stmt:=top 11
abbrev UH:Stmt:=top 13
abbrev XB:Stmt:=top 14
abbrev XO:Stmt:=top 15
abbrev VM:Stmt:=top 16
abbrev QD:Stmt:=top 17
abbrev Qi:Stmt:=top 18
abbrev Wa:Stmt:=top 19
abbrev XH:Stmt:=inClass (top 21) 0
abbrev Lk:Stmt:=top 22
abbrev UV:Stmt:=inClass (top 46) 5
abbrev Kt:Stmt:=top 23
abbrev K5:Stmt:=top 24
abbrev KW:Stmt:=top 25
abbrev X6:Stmt:=inClass (top 46) 4
abbrev To:Stmt:=top 26
abbrev VP:Stmt:=inClass (top 46) 9
abbrev Q2:Stmt:=top 27
abbrev Rc:Stmt:=inClass (top 46) 10
abbrev TY:Stmt:=top 28
abbrev Qh:Stmt:=top 29
abbrev PD:Stmt:=top 30
abbrev Ma:Stmt:=top 31
abbrev Mi:Stmt:=top 32
abbrev K7:Stmt:=top 33
abbrev VN:Stmt:=top 34
abbrev WG:Stmt:=top 35
abbrev MZ:Stmt:=top 36
abbrev Wv:Stmt:=top 37
abbrev U4:Stmt:=top 38
abbrev VD:Stmt:=top 41
abbrev Qz:Stmt:=top 42
abbrev Jk:Stmt:=top 45
abbrev Vy:Stmt:=top 48
abbrev Re:Stmt:=top 49
abbrev UK:Stmt:=top 50
abbrev Lb:Stmt:=top 51
abbrev Ky:Stmt:=top 52
abbrev US:Stmt:=top 53
abbrev Gk:Stmt:=top 54
abbrev Vt:Stmt:=top 55
abbrev P9:Stmt:=top 56
abbrev T7:Stmt:=top 57
abbrev Tq:Stmt:=top 58
abbrev U7:Stmt:=top 59
abbrev XR:Stmt:=inClass (top 43) 2
abbrev ZF:Stmt:=inClass (top 43) 4
abbrev QK:Stmt:=inClass (top 43) 1
abbrev Wc:Stmt:=inClass (top 46) 2
abbrev X9:Stmt:=inClass (top 46) 8
abbrev vW:Stmt:=inClass (top 43) 5
abbrev Qj:Stmt:=inClass (top 43) 7
abbrev XZ:Stmt:=inClass (top 43) 8
abbrev XD:Stmt:=inClass (top 46) 1
abbrev ZH:Stmt:=inClass (top 43) 3
abbrev XA:Stmt:=inClass (top 43) 9
abbrev WB:Stmt:=inClass (top 43) 10
abbrev U2:Stmt:=inClass (top 43) 11
abbrev Vz:Stmt:=top 60
abbrev UL:Stmt:=top 61
abbrev QB:Stmt:=inClass (top 43) 15
abbrev Ww:Stmt:=inClass (top 43) 13
abbrev QG:Stmt:=inClass (top 43) 12
abbrev VL:Stmt:=inClass (top 43) 14
abbrev Wh:Stmt:=inClass (top 46) 3
abbrev Xv:Stmt:=inClass (top 46) 6
abbrev Vq:Stmt:=inClass (top 43) 16
abbrev P_:Stmt:=top 62
abbrev YU:Stmt:=inClass (top 43) 0
abbrev QT:Stmt:=inClass (top 43) 6
abbrev Xu:Stmt:=inClass (top 46) 0
abbrev Mv:Stmt:=top 63
abbrev hpg:=PySem.Challenge.pw_stretchdeeds_k94_whole_one_row_by_two_ro
abbrev hva:Value:=.str "__main__" 164
abbrev hvb:Value:=.str "stretchdeeds.errors" 194
abbrev hvc:Value:=.str "stretchdeeds.terms" 335
abbrev hvd:Value:=.str "stretchdeeds.algebras" 344
abbrev hve:Value:=.str "stretchdeeds.trees" 420
abbrev hvf:Value:=.str "stretchdeeds.makes" 627
abbrev hvg:Value:=.str "stretchdeeds.ways" 841
abbrev hvh:Value:=.str "law_stretchdeeds_k94_whole_one_row_by_two_ro" 961
abbrev hem:List Value:=[(.type "ValueError"), (.type "Exception"), (.type "BaseException"), (.type "object")]
abbrev kF(n q:Str)(s:Stmt)(pm hcd:Value):Obj:=⟨.type "function",none,.func<|fnOf n q (RN s) (v7 s) (zR s) .none .none .none pm none hcd .none,#[]⟩
abbrev kD(es:List DictEntry)(n:Nat):Obj:=⟨.type "dict",none,.dict es.toArray n,#[]⟩
abbrev kE(P:Params)(x:Str)(t:Nat)(v:Value):DictEntry:=⟨PyData.keyHash P x,.str x t,v⟩
abbrev kR(P:Params)(x:Str)(t:Nat)(a:Addr):DictEntry:=kE P x t<|.ref a
abbrev hfl(c:Value)(l:List Value):Obj:=⟨c,none,.fields l.toArray,#[]⟩
abbrev hco(n q:Str)(t u:Nat)(l k g:Int)(b:Bool)(a:Nat)(r s v:Value):Obj:=hfl (.type "code") [.str n t,.str q<|t+1,.str "/claim/cut.py" (t+2),.int l 0,.int k 0,.int 0 0,.int 0 0,.int g 0,.ref a,.bool b,.int 181 0,.ref<|a+1,.none,r,s,v,.int u 0,.int l 0,.str "/claim/cut.py" (u+1)]
abbrev hc7(n q:Str)(t u:Nat)(l k:Int)(a:Nat):=hco n q t u l k 3 true a (.ref<|a+2) (.ref<|a+3)<|.ref<|a+4
abbrev hc5(n q:Str)(t:Nat)(l k:Int)(a:Nat):=hco n q t (t+3) l k 3 true a .none .none<|.ref<|a+2
noncomputable abbrev hen(P:Params):List DictEntry:=[kE P "__doc__" 166 .none,kE P "__package__" 167 .none,kE P "__loader__" 168<|.builtin "__main__.__loader__#opaque",kE P "__spec__" 169 .none,kR P "__annotations__" 170 6,kR P "__builtins__" 171 4,kE P "__file__" 173<|.str "/claim/cut.py" 172,kE P "__cached__" 174 .none,kR P "_wall" 193 21,kR P "StretchError" 213 31,kR P "NotLetBy" 238 51,kR P "NoMake" 254 63,kR P "NoStretch" 270 75,kR P "NoValue" 286 87,kR P "NoDeed" 302 99,kR P "NoSign" 318 111,kR P "TooGreat" 334 123,kR P "is_whole" 343 132,kR P "is_within" 354 139,kR P "nothing_fails" 364 146,kR P "parting_fails" 376 153,kR P "doing_fails" 392 160,kR P "deeds_fail" 403 167,kR P "what_fails" 411 174,kR P "check_let_by" 419 181,kR P "Knot" 462 198,kR P "leaf_of" 469 209,kR P "knot_of" 478 216,kR P "tree_of" 487 223,kR P "size_of" 494 230,kR P "whole_of" 502 237,kR P "both_waits" 511 244,kR P "done_all" 522 251,kR P "turned_all" 530 258,kR P "parts_of" 540 265,kR P "gather" 555 272,kR P "row_of" 564 279,kR P "walk_of" 573 286,kR P "leaned_left" 584 293,kR P "leaned_right" 595 300,kR P "evened" 604 307,kR P "put_together" 614 314,kR P "parted_at" 626 321,kE P "MOST_IN_ROW" 630<|.int (300) 629,kR P "check_place" 639 328,kR P "check_size" 646 335,kR P "Makes" 840 464,kR P "firm" 848 473,kR P "Ways" 960 556,kR P "_law_cell_at" 970 567,kR P "_law_mixed" 979 574,kR P "_law_names" 985 579,kR P "_law_two" 996 586,kR P "_law_one" 1002 591,kR P "_law_order" 1013 598,kR P "_law_rows" 1028 605,kR P "_law_algebra" 1034 610,kR P "_law_come" 1044 617,kR P "_law_made" 1050 622,kR P "_law_gone" 1061 629,kR P "_law_place" 1072 636,kR P "_law_changed" 1089 643,kR P "_law_first" 1100 650,kR P "_law_same" 1122 657,kR P "law" 1128 662]
def K(P:Params):Frag:=
 (nat_lit 3,kD (kE P "__name__" 165 hvh::hen P) 66)::
 (nat_lit 131,hc7 "is_whole" "is_whole" 337 341 25 1 126)::
 (nat_lit 132,kF "is_whole" "is_whole" Px hvc<|.ref 131)::
 (nat_lit 138,hc7 "is_within" "is_within" 346 352 28 3 133)::
 (nat_lit 139,kF "is_within" "is_within" UH hvd<|.ref 138)::
 (nat_lit 145,hc7 "nothing_fails" "nothing_fails" 355 362 30 1 140)::
 (nat_lit 146,kF "nothing_fails" "nothing_fails" XB hvd<|.ref 145)::
 (nat_lit 152,hc7 "parting_fails" "parting_fails" 365 374 37 1 147)::
 (nat_lit 153,kF "parting_fails" "parting_fails" XO hvd<|.ref 152)::
 (nat_lit 159,hc7 "doing_fails" "doing_fails" 377 390 46 3 154)::
 (nat_lit 160,kF "doing_fails" "doing_fails" VM hvd<|.ref 159)::
 (nat_lit 166,hc7 "deeds_fail" "deeds_fail" 393 401 57 1 161)::
 (nat_lit 167,kF "deeds_fail" "deeds_fail" QD hvd<|.ref 166)::
 (nat_lit 173,hc7 "what_fails" "what_fails" 404 409 66 1 168)::
 (nat_lit 174,kF "what_fails" "what_fails" Qi hvd<|.ref 173)::
 (nat_lit 180,hc7 "check_let_by" "check_let_by" 412 417 73 1 175)::
 (nat_lit 181,kF "check_let_by" "check_let_by" Wa hvd<|.ref 180)::
 (nat_lit 194,hc7 "__init__" "Knot.__init__" 434 444 80 7 189)::
 (nat_lit 195,kF "__init__" "Knot.__init__" XH hve<|.ref 194)::
 (nat_lit 197,kD [kE P "__module__" 429 hve,kE P "__firstlineno__" 433<|.int (78) 432,kR P "__init__" 446 195,kR P "__static_attributes__" 455 196,kR P "__dict__" 457 199,kR P "__weakref__" 459 200,kE P "__doc__" 460 .none] 4)::
 (nat_lit 198,⟨(.type "type"),none,.cls {name:="Knot",bases:=[(.type "object")],mro:=[(.ref 198),(.type "object")],ns:=197,qualname:="Knot",hasDict:=true,slotNames:=[],subclasses:=[],abstract:=false,collection:=none,hasDel:=false},#[none,none,some<|.str "Knot" 422,some<|.str "Knot" 430,some<|.builtin "object.__new__",some<|.bool true]⟩)::
 (nat_lit 208,hc7 "leaf_of" "leaf_of" 463 467 89 1 203)::
 (nat_lit 209,kF "leaf_of" "leaf_of" Lk hve<|.ref 208)::
 (nat_lit 215,hc7 "knot_of" "knot_of" 470 476 91 3 210)::
 (nat_lit 216,kF "knot_of" "knot_of" Kt hve<|.ref 215)::
 (nat_lit 222,hc7 "tree_of" "tree_of" 479 485 93 2 217)::
 (nat_lit 223,kF "tree_of" "tree_of" K5 hve<|.ref 222)::
 (nat_lit 229,hc7 "size_of" "size_of" 488 492 100 1 224)::
 (nat_lit 230,kF "size_of" "size_of" KW hve<|.ref 229)::
 (nat_lit 236,hc7 "whole_of" "whole_of" 495 500 102 2 231)::
 (nat_lit 237,kF "whole_of" "whole_of" To hve<|.ref 236)::
 (nat_lit 243,hc7 "both_waits" "both_waits" 503 509 104 3 238)::
 (nat_lit 244,kF "both_waits" "both_waits" Q2 hve<|.ref 243)::
 (nat_lit 250,hc7 "done_all" "done_all" 512 520 110 3 245)::
 (nat_lit 251,kF "done_all" "done_all" TY hve<|.ref 250)::
 (nat_lit 257,hc7 "turned_all" "turned_all" 523 528 118 2 252)::
 (nat_lit 258,kF "turned_all" "turned_all" Qh hve<|.ref 257)::
 (nat_lit 264,hc7 "parts_of" "parts_of" 531 538 122 2 259)::
 (nat_lit 265,kF "parts_of" "parts_of" PD hve<|.ref 264)::
 (nat_lit 271,hc7 "gather" "gather" 541 553 131 5 266)::
 (nat_lit 272,kF "gather" "gather" Ma hve<|.ref 271)::
 (nat_lit 278,hc7 "row_of" "row_of" 556 562 140 2 273)::
 (nat_lit 279,kF "row_of" "row_of" Mi hve<|.ref 278)::
 (nat_lit 285,hc7 "walk_of" "walk_of" 565 571 145 2 280)::
 (nat_lit 286,kF "walk_of" "walk_of" K7 hve<|.ref 285)::
 (nat_lit 292,hc7 "leaned_left" "leaned_left" 574 582 152 3 287)::
 (nat_lit 293,kF "leaned_left" "leaned_left" VN hve<|.ref 292)::
 (nat_lit 299,hc7 "leaned_right" "leaned_right" 585 593 158 3 294)::
 (nat_lit 300,kF "leaned_right" "leaned_right" WG hve<|.ref 299)::
 (nat_lit 306,hc7 "evened" "evened" 596 602 164 3 301)::
 (nat_lit 307,kF "evened" "evened" MZ hve<|.ref 306)::
 (nat_lit 313,hc7 "put_together" "put_together" 605 612 170 3 308)::
 (nat_lit 314,kF "put_together" "put_together" Wv hve<|.ref 313)::
 (nat_lit 320,hc7 "parted_at" "parted_at" 615 624 182 3 315)::
 (nat_lit 321,kF "parted_at" "parted_at" U4 hve<|.ref 320)::
 (nat_lit 327,hc7 "check_place" "check_place" 631 637 196 3 322)::
 (nat_lit 328,kF "check_place" "check_place" VD hvf<|.ref 327)::
 (nat_lit 334,hc7 "check_size" "check_size" 640 644 199 1 329)::
 (nat_lit 335,kF "check_size" "check_size" Qz hvf<|.ref 334)::
 (nat_lit 348,hc7 "__init__" "Makes.__init__" 659 664 204 2 343)::
 (nat_lit 349,kF "__init__" "Makes.__init__" YU hvf<|.ref 348)::
 (nat_lit 355,hc7 "keep" "Makes.keep" 667 672 208 2 350)::
 (nat_lit 356,kF "keep" "Makes.keep" QK hvf<|.ref 355)::
 (nat_lit 362,hc7 "tree_at" "Makes.tree_at" 675 680 212 2 357)::
 (nat_lit 363,kF "tree_at" "Makes.tree_at" XR hvf<|.ref 362)::
 (nat_lit 369,hc7 "check_value" "Makes.check_value" 683 688 217 2 364)::
 (nat_lit 370,kF "check_value" "Makes.check_value" ZH hvf<|.ref 369)::
 (nat_lit 376,hc7 "three_parts" "Makes.three_parts" 691 701 221 4 371)::
 (nat_lit 377,kF "three_parts" "Makes.three_parts" ZF hvf<|.ref 376)::
 (nat_lit 383,hc7 "three_together" "Makes.three_together" 704 711 229 4 378)::
 (nat_lit 384,kF "three_together" "Makes.three_together" vW hvf<|.ref 383)::
 (nat_lit 390,hc7 "made" "Makes.made" 714 720 232 2 385)::
 (nat_lit 391,kF "made" "Makes.made" QT hvf<|.ref 390)::
 (nat_lit 397,hc7 "done" "Makes.done" 723 733 240 5 392)::
 (nat_lit 398,kF "done" "Makes.done" Qj hvf<|.ref 397)::
 (nat_lit 404,hc7 "turned" "Makes.turned" 736 744 247 4 399)::
 (nat_lit 405,kF "turned" "Makes.turned" XZ hvf<|.ref 404)::
 (nat_lit 411,hc7 "changed" "Makes.changed" 747 756 251 4 406)::
 (nat_lit 412,kF "changed" "Makes.changed" XA hvf<|.ref 411)::
 (nat_lit 418,hc7 "put_in" "Makes.put_in" 759 769 258 4 413)::
 (nat_lit 419,kF "put_in" "Makes.put_in" WB hvf<|.ref 418)::
 (nat_lit 425,hc7 "cut" "Makes.cut" 772 781 266 4 420)::
 (nat_lit 426,kF "cut" "Makes.cut" U2 hvf<|.ref 425)::
 (nat_lit 432,hc7 "many" "Makes.many" 784 789 271 2 427)::
 (nat_lit 433,kF "many" "Makes.many" QG hvf<|.ref 432)::
 (nat_lit 439,hc7 "listed" "Makes.listed" 792 797 274 2 434)::
 (nat_lit 440,kF "listed" "Makes.listed" Ww hvf<|.ref 439)::
 (nat_lit 446,hc7 "asked" "Makes.asked" 800 807 277 4 441)::
 (nat_lit 447,kF "asked" "Makes.asked" VL hvf<|.ref 446)::
 (nat_lit 453,hc7 "walk" "Makes.walk" 810 815 280 2 448)::
 (nat_lit 454,kF "walk" "Makes.walk" QB hvf<|.ref 453)::
 (nat_lit 460,hc7 "first" "Makes.first" 818 828 283 4 455)::
 (nat_lit 461,kF "first" "Makes.first" Vq hvf<|.ref 460)::
 (nat_lit 463,kD [kE P "__module__" 654 hvf,kE P "__firstlineno__" 658<|.int (202) 657,kR P "__init__" 666 349,kR P "keep" 674 356,kR P "tree_at" 682 363,kR P "check_value" 690 370,kR P "three_parts" 703 377,kR P "three_together" 713 384,kR P "made" 722 391,kR P "done" 735 398,kR P "turned" 746 405,kR P "changed" 758 412,kR P "put_in" 771 419,kR P "cut" 783 426,kR P "many" 791 433,kR P "listed" 799 440,kR P "asked" 809 447,kR P "walk" 817 454,kR P "first" 830 461,kR P "__static_attributes__" 833 462,kR P "__dict__" 835 465,kR P "__weakref__" 837 466,kE P "__doc__" 838 .none] 4)::
 (nat_lit 464,⟨(.type "type"),none,.cls {name:="Makes",bases:=[(.type "object")],mro:=[(.ref 464),(.type "object")],ns:=463,qualname:="Makes",hasDict:=true,slotNames:=[],subclasses:=[],abstract:=false,collection:=none,hasDel:=false},#[none,none,some<|.str "Makes" 647,some<|.str "Makes" 655,some<|.builtin "object.__new__",some<|.bool true]⟩)::
 (nat_lit 472,hc5 "firm" "firm" 843 295 1 469)::
 (nat_lit 473,kF "firm" "firm" Jk hvg<|.ref 472)::
 (nat_lit 484,hc5 "__init__" "Ways.__init__" 861 299 2 481)::
 (nat_lit 485,kF "__init__" "Ways.__init__" Xu hvg<|.ref 484)::
 (nat_lit 491,hc7 "is_value" "Ways.is_value" 867 872 308 2 486)::
 (nat_lit 492,kF "is_value" "Ways.is_value" XD hvg<|.ref 491)::
 (nat_lit 498,hc7 "is_deed" "Ways.is_deed" 875 880 311 2 493)::
 (nat_lit 499,kF "is_deed" "Ways.is_deed" Wc hvg<|.ref 498)::
 (nat_lit 505,hc7 "is_sign" "Ways.is_sign" 883 888 314 2 500)::
 (nat_lit 506,kF "is_sign" "Ways.is_sign" Wh hvg<|.ref 505)::
 (nat_lit 512,hc7 "nothing" "Ways.nothing" 891 895 317 1 507)::
 (nat_lit 513,kF "nothing" "Ways.nothing" X6 hvg<|.ref 512)::
 (nat_lit 519,hc7 "join" "Ways.join" 898 904 320 3 514)::
 (nat_lit 520,kF "join" "Ways.join" UV hvg<|.ref 519)::
 (nat_lit 526,hc7 "has_sign" "Ways.has_sign" 907 913 323 3 521)::
 (nat_lit 527,kF "has_sign" "Ways.has_sign" Xv hvg<|.ref 526)::
 (nat_lit 540,hc7 "wait_of" "Ways.wait_of" 923 928 329 2 535)::
 (nat_lit 541,kF "wait_of" "Ways.wait_of" X9 hvg<|.ref 540)::
 (nat_lit 545,hc5 "behind" "Ways.behind" 931 332 3 542)::
 (nat_lit 546,kF "behind" "Ways.behind" VP hvg<|.ref 545)::
 (nat_lit 552,hc7 "made" "Ways.made" 937 944 335 4 547)::
 (nat_lit 553,kF "made" "Ways.made" Rc hvg<|.ref 552)::
 (nat_lit 555,kD [kE P "__module__" 856 hvg,kE P "__firstlineno__" 860<|.int (297) 859,kR P "__init__" 866 485,kR P "is_value" 874 492,kR P "is_deed" 882 499,kR P "is_sign" 890 506,kR P "nothing" 897 513,kR P "join" 906 520,kR P "has_sign" 915 527,kR P "idle" 922 534,kR P "wait_of" 930 541,kR P "behind" 936 546,kR P "made" 946 553,kR P "__static_attributes__" 953 554,kR P "__dict__" 955 557,kR P "__weakref__" 957 558,kE P "__doc__" 958 .none] 4)::
 (nat_lit 556,⟨(.type "type"),none,.cls {name:="Ways",bases:=[(.type "object")],mro:=[(.ref 556),(.type "object")],ns:=555,qualname:="Ways",hasDict:=true,slotNames:=[],subclasses:=[],abstract:=false,collection:=none,hasDel:=false},#[none,none,some<|.str "Ways" 849,some<|.str "Ways" 857,some<|.builtin "object.__new__",some<|.bool true]⟩)::
 (nat_lit 566,hc7 "_law_cell_at" "_law_cell_at" 963 968 338 2 561)::
 (nat_lit 567,kF "_law_cell_at" "_law_cell_at" Vy hvh<|.ref 566)::
 (nat_lit 573,hc7 "_law_mixed" "_law_mixed" 971 977 342 2 568)::
 (nat_lit 574,kF "_law_mixed" "_law_mixed" Re hvh<|.ref 573)::
 (nat_lit 578,hc5 "_law_names" "_law_names" 980 348 2 575)::
 (nat_lit 579,kF "_law_names" "_law_names" UK hvh<|.ref 578)::
 (nat_lit 585,hc7 "_law_two" "_law_two" 986 994 361 4 580)::
 (nat_lit 586,kF "_law_two" "_law_two" Lb hvh<|.ref 585)::
 (nat_lit 590,hc5 "_law_one" "_law_one" 997 372 5 587)::
 (nat_lit 591,kF "_law_one" "_law_one" Ky hvh<|.ref 590)::
 (nat_lit 597,hc7 "_law_order" "_law_order" 1003 1011 385 2 592)::
 (nat_lit 598,kF "_law_order" "_law_order" US hvh<|.ref 597)::
 (nat_lit 604,hc7 "_law_rows" "_law_rows" 1014 1026 391 5 599)::
 (nat_lit 605,kF "_law_rows" "_law_rows" Gk hvh<|.ref 604)::
 (nat_lit 609,hc5 "_law_algebra" "_law_algebra" 1029 399 1 606)::
 (nat_lit 610,kF "_law_algebra" "_law_algebra" Vt hvh<|.ref 609)::
 (nat_lit 616,hc7 "_law_come" "_law_come" 1035 1042 415 2 611)::
 (nat_lit 617,kF "_law_come" "_law_come" P9 hvh<|.ref 616)::
 (nat_lit 621,hc5 "_law_made" "_law_made" 1045 422 3 618)::
 (nat_lit 622,kF "_law_made" "_law_made" T7 hvh<|.ref 621)::
 (nat_lit 628,hc7 "_law_gone" "_law_gone" 1051 1059 425 2 623)::
 (nat_lit 629,kF "_law_gone" "_law_gone" Tq hvh<|.ref 628)::
 (nat_lit 635,hc7 "_law_place" "_law_place" 1062 1070 438 3 630)::
 (nat_lit 636,kF "_law_place" "_law_place" U7 hvh<|.ref 635)::
 (nat_lit 642,hc7 "_law_changed" "_law_changed" 1073 1087 442 5 637)::
 (nat_lit 643,kF "_law_changed" "_law_changed" Vz hvh<|.ref 642)::
 (nat_lit 649,hc7 "_law_first" "_law_first" 1090 1098 455 4 644)::
 (nat_lit 650,kF "_law_first" "_law_first" UL hvh<|.ref 649)::
 (nat_lit 656,hc7 "_law_same" "_law_same" 1101 1120 460 5 651)::
 (nat_lit 657,kF "_law_same" "_law_same" P_ hvh<|.ref 656)::
 (nat_lit 661,hc5 "law" "law" 1123 476 1 658)::
 (nat_lit 662,kF "law" "law" Mv hvh<|.ref 661)::
 []
def kA:List Addr:=[3,131,132,138,139,145,146,152,153,159,160,166,167,173,174,180,181,194,195,197,198,208,209,215,216,222,223,229,230,236,237,243,244,250,251,257,258,264,265,271,272,278,279,285,286,292,293,299,300,306,307,313,314,320,321,327,328,334,335,348,349,355,356,362,363,369,370,376,377,383,384,390,391,397,398,404,405,411,412,418,419,425,426,432,433,439,440,446,447,453,454,460,461,463,464,472,473,484,485,491,492,498,499,505,506,512,513,519,520,526,527,540,541,545,546,552,553,555,556,566,567,573,574,578,579,585,586,590,591,597,598,604,605,609,610,616,617,621,622,628,629,635,636,642,643,649,650,656,657,661,662]
def qv:Program:={hpg with main:={hpg.main with body:=[0,2,3,4,5,6,7,8,9,11,13,14,15,16,17,18,19,21,22,23,24,25,26,27,28,29,30,31,32,33,34,35,36,37,38,40,41,42,43,45,46,48,49,50,51,52,53,54,55,56,57,58,59,60,61,62,63].map top}}
theorem kAe(P:Params):kA=(K P).map (·.1):=by kernel_rfl
set_option maxRecDepth 100000
theorem ws:PySem.Challenge.rw_stretchdeeds_k94_whole_one_row_by_two_ro.wellSaid=true:=by kernel_rfl
abbrev Xt(s:Shared):Bool:=xlAt qv [] s&&recOk (RowW.records<|OpenRow.toRowW PySem.Challenge.rw_stretchdeeds_k94_whole_one_row_by_two_ro.row) s
abbrev hk:Hook:=kHook K kA kAe
def htp(l:List Value):Obj:=⟨.type "tuple",none,.seq l.toArray 0,#[]⟩
def htx:Nat->List Str->List Value
 |_,[]=>[]
 |t,x::l=>.str x t::htx (t+1) l
noncomputable def hfO(a t:Nat)(r:Str)(v:Value)(s:Stmt):List Obj:=match s with
 | .FunctionDef n p b _ _ _ c _ _ o=>
  let q:=r++n;let S:Obj:=⟨.none,none,.func {name:=n,qualname:=q,params:=p,body:=.stmts b,scope:=c,globals:=0,closure:=[],defaults:=.none,kwdefaults:=.none},#[]⟩
  match localNames p c (.stmts b) with
  |some (x,_)=>[htp [],hfl .none [],htp<|htx (t+3) x,htp [],S,hc7 n q t (t+3+x.length) o.line p.args.length a,kF n q s v<|.ref<|a+5]
  |none=>[htp [],hfl .none [],S,hc5 n q t o.line p.args.length a,kF n q s v<|.ref<|a+3]
 |_=>[]
noncomputable def htk(s:Stmt):Nat:=match s with
 | .FunctionDef _ p b _ _ _ c _ _ _=>match localNames p c (.stmts b) with
  |some (x,_)=>6+x.length
  |none=>6
 |_=>0
noncomputable def hms(P:Params)(c:Str)(v:Value):Nat->Nat->List Stmt->List Obj×List DictEntry×List Value×Nat
 |_,t,[]=>([],[],[],t)
 |a,t,s::r=>match s with
  | .FunctionDef n _ _ _ _ _ _ _ _ o=>let f:=hfO a t (c++".") v s;let l:=a+f.length;let u:=t+htk s;let z:=hms P c v l u r;(f++z.1,kR P n (u-1) (l-1)::z.2.1,.int o.line 0:: .int 4 0:: .ref (l-2)::z.2.2.1,z.2.2.2)
  |_=>hms P c v a t r
def hfm(a b:Addr)(v:Value):Obj:=⟨.type "frame",none,.plain,#[some<|.ref a,some<|.ref 3,some<|.ref b,none,some v,none,some<|.ref 0]⟩
def hbf(x:String)(v:Value):Obj:=hfl (.type "builtin_function_or_method") [.builtin x,v]
def hgd(x:Str)(t:Nat)(c:Addr)(g s:Value):Obj:=hfl (.type "getset_descriptor") [.str x t,.ref c,g,s]
noncomputable def hcO(P:Params)(a t:Nat)(v:Value)(bv mr sb:List Value)(nw:String)(d:Nat)(s:Stmt):List Obj:=match s with
 | .ClassDef n _ _ b _ _ _ _ _ sa o=>
  let m:=hms P n v (a+7) (t+12) b;let e:=a+7+m.1.length;let k:=m.2.2.2+sa.length;let z:=k+1;let C:=e+2
  let x:=kE P "__module__" (t+7) v;let f:=kE P "__firstlineno__" (t+11)<|.int o.line<|t+10;let y:=kR P "__static_attributes__" k e
  let W:=λt:Nat=>hgd "__weakref__" t C (.builtin "ExceptionGroup.__weakref__") .none
  let D:List DictEntry×List Obj:=match d with
   |0=>([],[])
   |1=>([kR P "__weakref__" (z+1)<|C+1],[W z])
   |_=>([kR P "__dict__" (z+1)<|C+1,kR P "__weakref__" (z+3)<|C+2],[hgd "__dict__" z C (.builtin "function.__dict__")<|.builtin "function.__dict__#set",W<|z+2])
  [htp bv,hbf "type.__prepare__" (.type "type"),kD (x::kE P "__qualname__" (t+9) (.str n<|t+8)::f::m.2.1++[y])<|4+m.2.1.length,htp [],hfl .none m.2.2.1,hco n n (t+2) (t+5) o.line 0 0 false (a+3) .none .none .none,hfm (a+5) (a+2) v]++m.1++[htp<|htx m.2.2.2 sa,kD (x::f::m.2.1++y::D.1++[kE P "__doc__" (z+2*d) .none])<|2+d,⟨.type "type",none,.cls {name:=n,bases:=if bv.isEmpty then [.type "object"] else bv,mro:=.ref C::mr,ns:=e+1,qualname:=n,hasDict:=true,slotNames:=[],subclasses:=sb},#[if bv.isEmpty then none else some<|.ref a,none,some<|.str n t,some<|.str n<|t+8,some<|.builtin nw,some<|.bool true]⟩]++D.2++[hfl (.type "super") [.ref C,.ref C,.ref C],hbf "object.__init_subclass__" (.ref C)]
 |_=>[]
def hcs:List (Int×Addr):=[(1,20),(5,27),(7,40),(12,59),(14,71),(16,83),(18,95),(20,107),(22,119),(25,131),(28,138),(30,145),(37,152),(46,159),(57,166),(66,173),(73,180),(78,187),(89,208),(91,215),(93,222),(100,229),(102,236),(104,243),(110,250),(118,257),(122,264),(131,271),(140,278),(145,285),(152,292),(158,299),(164,306),(170,313),(182,320),(196,327),(199,334),(202,341),(295,472),(297,479),(338,566),(342,573),(348,578),(361,585),(372,590),(385,597),(391,604),(399,609),(415,616),(422,621),(425,628),(438,635),(442,642),(455,649),(460,656),(476,661)]
noncomputable def hhp(P:Params)(v:Value)(g c:Nat)(l:List Obj):Heap:=⟨⟨boot_o_0 P::boot_o_1 P::boot_o_2 P::kD (kE P "__name__" 165 v::(hen P).take g) (g+1)::boot_o_4 P::boot_o_5 P::boot_o_6 P::boot_o_7 P::boot_o_8 P::boot_o_9 P::boot_o_10 P::htp []::hfl .none ((hcs.take c).flatMap λp=>[.int p.1 0,.int 0 0,.ref p.2])::hco "<module>" "<module>" 182 185 1 0 0 false 11 .none .none .none::hfm 13 3 (.str "__main__" 164)::l⟩,(boot_heap P).life⟩
abbrev hbd:=behindTheImports hpg
abbrev hev:Env:={scope:=hpg.main.scope,locals:=mainNs,globals:=mainNs,cells:=[],code:=.ref 13,frame:=some 14}
abbrev hcd:Code:=.body hbd hev
noncomputable abbrev hSh(t:Nat)(h:Heap)(o:OsState):Shared:=⟨h,⟨[]⟩,boot_drawn,t,o⟩
def hl0(P:Params):List Obj:=hfO 15 187 "" hva (top 0)++hcO P 22 196 hvb [(.type "ValueError")] hem [(.ref 51),(.ref 63),(.ref 75),(.ref 87),(.ref 99),(.ref 111),(.ref 123)] "ValueError.__new__" 1 (top 2)++hcO P 35 214 hvb [(.ref 31)] ((.ref 31)::hem) [] "ValueError.__new__" 0 (top 3)++hcO P 54 239 hvb [(.ref 31)] ((.ref 31)::hem) [] "ValueError.__new__" 0 (top 4)++hcO P 66 255 hvb [(.ref 31)] ((.ref 31)::hem) [] "ValueError.__new__" 0 (top 5)++hcO P 78 271 hvb [(.ref 31)] ((.ref 31)::hem) [] "ValueError.__new__" 0 (top 6)++hcO P 90 287 hvb [(.ref 31)] ((.ref 31)::hem) [] "ValueError.__new__" 0 (top 7)++hcO P 102 303 hvb [(.ref 31)] ((.ref 31)::hem) [] "ValueError.__new__" 0 (top 8)++hcO P 114 319 hvb [(.ref 31)] ((.ref 31)::hem) [] "ValueError.__new__" 0 (top 9)
def hl1(P:Params):List Obj:=hl0 P++hfO 126 337 "" hvc (top 11)++hfO 133 346 "" hvd (top 13)++hfO 140 355 "" hvd (top 14)++hfO 147 365 "" hvd (top 15)++hfO 154 377 "" hvd (top 16)++hfO 161 393 "" hvd (top 17)++hfO 168 404 "" hvd (top 18)++hfO 175 412 "" hvd (top 19)++hcO P 182 422 hve [] [(.type "object")] [] "object.__new__" 2 (top 21)++hfO 203 463 "" hve (top 22)++hfO 210 470 "" hve (top 23)++hfO 217 479 "" hve (top 24)++hfO 224 488 "" hve (top 25)++hfO 231 495 "" hve (top 26)++hfO 238 503 "" hve (top 27)++hfO 245 512 "" hve (top 28)++hfO 252 523 "" hve (top 29)++hfO 259 531 "" hve (top 30)++hfO 266 541 "" hve (top 31)++hfO 273 556 "" hve (top 32)++hfO 280 565 "" hve (top 33)++hfO 287 574 "" hve (top 34)++hfO 294 585 "" hve (top 35)++hfO 301 596 "" hve (top 36)
def hl2(P:Params):List Obj:=hl1 P++hfO 308 605 "" hve (top 37)++hfO 315 615 "" hve (top 38)++hfO 322 631 "" hvf (top 41)++hfO 329 640 "" hvf (top 42)++hcO P 336 647 hvf [] [(.type "object")] [] "object.__new__" 2 (top 43)++hfO 469 843 "" hvg (top 45)
def hl3(P:Params):List Obj:=hl2 P++hcO P 474 849 hvg [] [(.type "object")] [] "object.__new__" 2 (top 46)++hfO 561 963 "" hvh (top 48)++hfO 568 971 "" hvh (top 49)++hfO 575 980 "" hvh (top 50)++hfO 580 986 "" hvh (top 51)++hfO 587 997 "" hvh (top 52)++hfO 592 1003 "" hvh (top 53)++hfO 599 1014 "" hvh (top 54)++hfO 606 1029 "" hvh (top 55)++hfO 611 1035 "" hvh (top 56)++hfO 618 1045 "" hvh (top 57)++hfO 623 1051 "" hvh (top 58)++hfO 630 1062 "" hvh (top 59)++hfO 637 1073 "" hvh (top 60)++hfO 644 1090 "" hvh (top 61)
def hl4(P:Params):List Obj:=hl3 P++hfO 651 1101 "" hvh (top 62)++hfO 658 1123 "" hvh (top 63)
theorem hr0(w:World)(o:OsState):topGo treeTable hpg w 11 (some<|.ref 6) 12 (hSh boot_toks (boot_heap w.params) o) (topStub hpg)=some (hSh 187 (hhp w.params (.str "__main__" 164) 8 0 []) o,⟨denote treeTable hcd,hcd,⟨0,0,0,0⟩,[topFrame ⟨0,0,0,0⟩]⟩):=by kernel_rfl
theorem hr1(w:World)(o:OsState):segRun treeTable hpg w 11 (some<|.ref 6) 1 1 (hSh 187 (hhp w.params (.str "__main__" 164) 8 0 []) o) (blockOf hbd hev hcd ⟨0,0,0,0⟩ [topFrame ⟨0,0,0,0⟩])=some (.next,hSh 187 (hhp w.params (.str "__main__" 164) 8 0 []) o,hcd,⟨0,0,0,0⟩):=by kernel_rfl
theorem hs0(w:World)(o:OsState):segRun treeTable hpg w 11 (some<|.ref 6) 1 1748 (hSh 187 (hhp w.params (.str "__main__" 164) 8 0 []) o) (piecesOf (hbd.take 10) hev hcd ⟨0,0,0,0⟩ [topFrame ⟨0,0,0,0⟩])=some (.next,hSh 335 (hhp w.params hvb 17 9<|hl0 w.params) o,hcd,⟨22,0,23,8⟩):=by kernel_rfl
abbrev hb0:=hbd.drop 10
theorem hs1(w:World)(o:OsState):segRun treeTable hpg w 11 (some<|.ref 6) 1 991 (hSh 335 (hhp w.params hvb 17 9<|hl0 w.params) o) (piecesOf (hb0.take 27) hev hcd ⟨22,0,23,8⟩ [topFrame ⟨0,0,0,0⟩])=some (.next,hSh 605 (hhp w.params hve 41 33<|hl1 w.params) o,hcd,⟨164,0,169,35⟩):=by kernel_rfl
abbrev hb1:=hb0.drop 27
theorem hs2(w:World)(o:OsState):segRun treeTable hpg w 11 (some<|.ref 6) 1 951 (hSh 605 (hhp w.params hve 41 33<|hl1 w.params) o) (piecesOf (hb1.take 9) hev hcd ⟨164,0,169,35⟩ [topFrame ⟨0,0,0,0⟩])=some (.next,hSh 849 (hhp w.params hvg 48 39<|hl2 w.params) o,hcd,⟨295,0,296,46⟩):=by kernel_rfl
abbrev hb2:=hb1.drop 9
theorem hs3(w:World)(o:OsState):segRun treeTable hpg w 11 (some<|.ref 6) 1 989 (hSh 849 (hhp w.params hvg 48 39<|hl2 w.params) o) (piecesOf (hb2.take 16) hev hcd ⟨295,0,296,46⟩ [topFrame ⟨0,0,0,0⟩])=some (.next,hSh 1101 (hhp w.params hvh 63 54<|hl3 w.params) o,hcd,⟨455,0,459,15⟩):=by kernel_rfl
abbrev hb3:=hb2.drop 16
theorem hs4(w:World)(o:OsState):topRun treeTable hpg w 11 (some<|.ref 6) 73 (hSh 1101 (hhp w.params hvh 63 54<|hl3 w.params) o) (restOf hb3 hev hcd ⟨455,0,459,15⟩ [topFrame ⟨0,0,0,0⟩])=some (hSh 1129 (hhp w.params hvh 65 56<|hl4 w.params) o):=by kernel_rfl
theorem hpa{w:World}{n N t t':Nat}{h h':Heap}{o:OsState}{r:Shared}{b:List Stmt}(m:Nat){p p':Pos}(x:segRun treeTable hpg w 11 (some<|.ref 6) 1 n (hSh t h o) (piecesOf (b.take m) hev hcd p [topFrame ⟨0,0,0,0⟩])=some (.next,hSh t' h' o,hcd,p'))(y:topRun treeTable hpg w 11 (some<|.ref 6) N (hSh t' h' o) (restOf (b.drop m) hev hcd p' [topFrame ⟨0,0,0,0⟩])=some r):topRun treeTable hpg w 11 (some<|.ref 6) (n+N) (hSh t h o) (restOf b hev hcd p [topFrame ⟨0,0,0,0⟩])=some r:=by
 have z:=piece_app x y;rwa[List.take_append_drop] at z
theorem hhr(w:World)(o:OsState):topRun treeTable hpg w 11 (some<|.ref 6) (12+(1+(1748+(991+(951+(989+73)))))) (hSh boot_toks (boot_heap w.params) o) (topStub hpg)=some (hSh 1129 (hhp w.params hvh 65 56<|hl4 w.params) o):=go_top (hr0 w o)<|piece_block (hr1 w o)<|hpa _ (hs0 w o)<|hpa _ (hs1 w o)<|hpa _ (hs2 w o)<|hpa _ (hs3 w o)<|hs4 w o
def hhf(P:Params):Heap:=hhp P hvh 65 56<|hl4 P
theorem hbz:PySem.Challenge.pw_stretchdeeds_k94_whole_one_row_by_two_ro.bare:=⟨rfl,rfl,rfl,rfl,rfl,by decide +kernel⟩
theorem hhq(w:World):(λo=>((staticsOk (importedModules hpg.main.body) (boot_heap w.params) (hhf w.params)&&namesBound hpg (hhf w.params)&&gensDone (hSh 1129 (hhf w.params) o)&&laidKept (boot_heap w.params) (hhf w.params)),openSeen qv [] (importedModules hpg.main.body) Xt true<|hSh 1129 (hhf w.params) o,hk.obs<|hSh 1129 (hhf w.params) o))=λ_=>(true,openGood qv [],hk.val w):=by kernel_rfl
theorem hl:LeftO PySem.Challenge.pw_stretchdeeds_k94_whole_one_row_by_two_ro qv [] Xt hk.obs hk.val 6000:=LeftO.of_pieces (H₀:=boot_heap) (H₁:=hhf) (boot_open (by kernel_rfl) rfl λ_=>by kernel_rfl) (λ_=>by kernel_rfl) hhr rfl hhq
end G94
end
section
namespace PF
open PySem PySem.Spec PyProof.Rows L2
abbrev St:=L2.St
structure KD where
 d:Addr->List (Key×V)->Prop
 c:Str->Addr
instance:CoeFun KD (λ_=>Addr->List (Key×V)->Prop):=⟨KD.d⟩
inductive D where
 |non|bl (b:Bool)|int (i:Int)|str (x:Str)|tup (ds:List D)|lst (ds:List D)|dct (kvs:List (Key×D))|cl (c:Str)|ob (c:Str) (ns:List Str) (ds:List D)
mutual
inductive Rp(K:zzA)(kd:KD)(O:Addr->Prop)(H:Hp):V->D->Prop
 |non:Rp K kd O H .non .non
 |bl (b:Bool):Rp K kd O H (.bl b) (.bl b)
 |int (i:Int):Rp K kd O H (.int i) (.int i)
 |str (x:Str):Rp K kd O H (.str x) (.str x)
 |tup {a:Addr}{vs:List V}{ds:List D}:¬O a->Rd H a (.tup vs)->RpL K kd O H vs ds->Rp K kd O H (.ref a) (.tup ds)
 |tupK {a:Addr}{o:Obj}{its:Array Value}{n:Nat}{vs:List V}{ds:List D}:K.lookup a=some o->o.cls = .type "tuple"->o.data = .seq its n->its.size<=sizeLine->zQ vs its.toList->RpL K kd O H vs ds->Rp K kd O H (.ref a) (.tup ds)
 |lst {a:Addr}{vs:List V}{ds:List D}:¬O a->Rd H a (.lst vs)->RpL K kd O H vs ds->Rp K kd O H (.ref a) (.lst ds)
 |lstK {a:Addr}{its:Array Value}{n:Nat}{vs:List V}{ds:List D}:K.lookup a=some {cls:=.type "list",data:=.seq its n}->its.size<=sizeLine->zQ vs its.toList->RpL K kd O H vs ds->Rp K kd O H (.ref a) (.lst ds)
 |dct {a:Addr}{kvs:List (Key×V)}{ds:List (Key×D)}:¬O a->Rd H a (.dK kvs)->RpM K kd O H kvs ds->Rp K kd O H (.ref a) (.dct ds)
 |dctK {a:Addr}{kvs:List (Key×V)}{ds:List (Key×D)}:kd a kvs->RpM K kd O H kvs ds->Rp K kd O H (.ref a) (.dct ds)
 |cl (c:Str):Rp K kd O H (.ref (kd.c c)) (.cl c)
 |ob {a dx:Addr}{c:Str}{ns:List Str}{vs:List V}{ds:List D}:¬O a->H a=some (.ins (kd.c c) dx (ns.zip vs))->ns.length=vs.length->RpL K kd O H vs ds->Rp K kd O H (.ref a) (.ob c ns ds)
inductive RpL(K:zzA)(kd:KD)(O:Addr->Prop)(H:Hp):List V->List D->Prop
 |nil:RpL K kd O H [] []
 |cons {v:V}{d:D}{vs:List V}{ds:List D}:Rp K kd O H v d->RpL K kd O H vs ds->RpL K kd O H (v::vs) (d::ds)
inductive RpM(K:zzA)(kd:KD)(O:Addr->Prop)(H:Hp):List (Key×V)->List (Key×D)->Prop
 |nil:RpM K kd O H [] []
 |cons {k:Key}{v:V}{d:D}{vs:List (Key×V)}{ds:List (Key×D)}:Rp K kd O H v d->RpM K kd O H vs ds->RpM K kd O H ((k,v)::vs) ((k,d)::ds)
end
structure Grow(W:Addr->Prop)(H:Hp)(W':Addr->Prop)(H':Hp):Prop where
 keep:∀b o,H b=some o->¬W b->H' b=some o
 own:∀b,W' b->W b\/H b=none
def Grow.refl:Grow W H W H:=⟨λ_ _ h _=>h,λ_ h=>.inl h⟩
def Grow.trans(a:Grow W H W1 H1)(b:Grow W1 H1 W2 H2):Grow W H W2 H2 where
 keep:=λx o h n=>b.keep x o (a.keep x o h n) λq=>(a.own x q).elim n λz=>by rw[z]at h;cases h
 own:=λx q=>by
  rcases b.own x q with h|h
  . exact a.own x h
  . cases e:H x with
    |none=>exact .inr rfl
    |some o=>
     refine .inl<|Classical.byContradiction λn=>?_;rw[a.keep x o e n]at h;cases h
def Grow.less(h:∀a,W' a->W a):Grow W H W' H:=⟨λ_ _ q _=>q,λb q=>.inl<|h b q⟩
abbrev Wj(F W:Addr->Prop):Addr->Prop:=λa=>F a\/W a
section
variable{K:zzA}{kd:KD}{F W W':Addr->Prop}{H H':Hp}
def W8(g:Grow W H W' H')(n:¬W a)(h:Rd H a u):Rd H' a u:=by
 rcases h with h|⟨o,h⟩
 . exact .inl<|g.keep _ _ h n
 . exact .inr ⟨o,g.keep _ _ h n⟩
def D0(h:Rd H a u):H a≠none:=by
 rcases h with h|⟨o,h⟩<;>(rw[h];simp)
def QE(g:Grow W H W' H')(n:¬Wj F W a)(h:Rd H a u):¬Wj F W' a:=λq=>
 q.elim (λz=>n<|.inl z) λz=>(g.own a z).elim (λy=>n<|.inr y) λy=>D0 h y
def Rp.grow(g:Grow W H W' H')(h:Rp K kd (Wj F W) H v d):Rp K kd (Wj F W') H' v d:=
 Rp.rec .non .bl .int .str (λn h _ r=>.tup (QE g n h) (W8 g (λz=>n<|.inr z) h) r) (λa b c e f _ r=>.tupK a b c e f r) (λn h _ r=>.lst (QE g n h) (W8 g (λz=>n<|.inr z) h) r) (λa e f _ r=>.lstK a e f r) (λn h _ r=>.dct (QE g n h) (W8 g (λz=>n<|.inr z) h) r) (λh _ r=>.dctK h r) .cl (λn h l _ r=>.ob (QE g n<|.inl h) (g.keep _ _ h λz=>n<|.inr z) l r) .nil (λ_ _ h r=>.cons h r) .nil (λ_ _ h r=>.cons h r) h
def RpL.ind{P:List V->List D->Prop}(h0:P [] [])(h1:∀{v d vs ds},Rp K kd O H v d->RpL K kd O H vs ds->P vs ds->P (v::vs) (d::ds))(h:RpL K kd O H vs ds):P vs ds:=
 RpL.rec (motive_1:=λ_ _ _=>True) (motive_3:=λ_ _ _=>True) ⋯ ⋯ ⋯ ⋯ (λ_ _ _ _=>⋯) (λ_ _ _ _ _ _ _=>⋯) (λ_ _ _ _=>⋯) (λ_ _ _ _ _=>⋯) (λ_ _ _ _=>⋯) (λ_ _ _=>⋯) ⋯ (λ_ _ _ _ _=>⋯) h0 (λa r _ ih=>h1 a r ih) ⋯ (λ_ _ _ _=>⋯) h
def RpM.ind{P:List (Key×V)->List (Key×D)->Prop}(h0:P [] [])(h1:∀{k v d vs ds},Rp K kd O H v d->RpM K kd O H vs ds->P vs ds->P ((k,v)::vs) ((k,d)::ds))(h:RpM K kd O H vs ds):P vs ds:=
 RpM.rec (motive_1:=λ_ _ _=>True) (motive_2:=λ_ _ _=>True) ⋯ ⋯ ⋯ ⋯ (λ_ _ _ _=>⋯) (λ_ _ _ _ _ _ _=>⋯) (λ_ _ _ _=>⋯) (λ_ _ _ _ _=>⋯) (λ_ _ _ _=>⋯) (λ_ _ _=>⋯) ⋯ (λ_ _ _ _ _=>⋯) ⋯ (λ_ _ _ _=>⋯) h0 (λa r _ ih=>h1 a r ih) h
theorem RpL.grow(g:Grow W H W' H'){vs:List V}(h:RpL K kd (Wj F W) H vs ds):RpL K kd (Wj F W') H' vs ds:=RpL.ind .nil (λa _ r=>.cons (Rp.grow g a) r) h
theorem RpM.grow(g:Grow W H W' H'){vs:List (Key×V)}(h:RpM K kd (Wj F W) H vs ds):RpM K kd (Wj F W') H' vs ds:=RpM.ind .nil (λa _ r=>.cons (Rp.grow g a) r) h
def Rp.less(g:∀a,O' a->O a)(h:Rp K kd O H v d):Rp K kd O' H v d:=
 Rp.rec .non .bl .int .str (λn h _ r=>.tup (λz=>n<|g _ z) h r) (λa b c e f _ r=>.tupK a b c e f r) (λn h _ r=>.lst (λz=>n<|g _ z) h r) (λa e f _ r=>.lstK a e f r) (λn h _ r=>.dct (λz=>n<|g _ z) h r) (λh _ r=>.dctK h r) .cl (λn h l _ r=>.ob (λz=>n<|g _ z) h l r) .nil (λ_ _ h r=>.cons h r) .nil (λ_ _ h r=>.cons h r) h
theorem RpL.less{O O':Addr->Prop}(g:∀a,O' a->O a)(h:RpL K kd O H vs ds):RpL K kd O' H vs ds:=RpL.ind .nil (λa _ r=>.cons (Rp.less g a) r) h
theorem RpM.less{O O':Addr->Prop}(g:∀a,O' a->O a)(h:RpM K kd O H vs ds):RpM K kd O' H vs ds:=RpM.ind .nil (λa _ r=>.cons (Rp.less g a) r) h
theorem RpL.length{O:Addr->Prop}(h:RpL K kd O H vs ds):vs.length=ds.length:=RpL.ind (P:=λa b=>a.length=b.length) rfl (λ_ _ r=>congrArg _ r) h
theorem RpM.length{O:Addr->Prop}(h:RpM K kd O H vs ds):vs.length=ds.length:=RpM.ind (P:=λa b=>a.length=b.length) rfl (λ_ _ r=>congrArg _ r) h
def RpL.get{vs:List V}{i:Nat}(h:RpL K kd O H vs ds)(e:ds[i]? = some d):∃v,vs[i]? = some v/\Rp K kd O H v d:=
 RpL.ind (P:=λb c=>∀i,c[i]? = some d->∃v,b[i]? = some v/\Rp K kd O H v d) (λi e=>by cases e) (λa _ f i e=>by
  cases i with
  |zero=>cases e;exact⟨_,rfl,a⟩
  |succ i=>exact f i e) h i e
def RpL.append{O:Addr->Prop}(h:RpL K kd O H vs ds)(r:RpL K kd O H ws es):RpL K kd O H (vs++ws) (ds++es):=RpL.ind (P:=λb c=>RpL K kd O H (b++ws)<|c++es) r (λa _ t=>.cons a t) h
theorem RpL.take{O:Addr->Prop}(n:Nat)(h:RpL K kd O H vs ds):RpL K kd O H (vs.take n) (ds.take n):=
 RpL.ind (P:=λb c=>∀n,RpL K kd O H (b.take n)<|c.take n) (λn=>by rw[List.take_nil,List.take_nil];exact .nil) (λa _ d n=>by
  cases n with
  |zero=>exact .nil
  |succ n=>exact .cons a (d n)) h n
theorem RpL.drop{O:Addr->Prop}(n:Nat)(h:RpL K kd O H vs ds):RpL K kd O H (vs.drop n) (ds.drop n):=
 RpL.ind (P:=λc d=>∀n,RpL K kd O H (c.drop n)<|d.drop n) (λn=>by rw[List.drop_nil,List.drop_nil];exact .nil) (λa b e n=>by
  cases n with
  |zero=>exact .cons a b
  |succ n=>exact e n) h n
theorem RpL.rep(h:RpL K kd O H vs ds):∀k:Nat,RpL K kd O H (List.replicate k vs).flatten (List.replicate k ds).flatten
 |0=>.nil
 |k+1=>h.append<|RpL.rep h k
end
inductive Vw(K:zzA)(kd:KD)(O:Addr->Prop)(H:Hp):V->D->Prop
 |non:Vw K kd O H .non .non
 |bl (b:Bool):Vw K kd O H (.bl b) (.bl b)
 |int (i:Int):Vw K kd O H (.int i) (.int i)
 |str (x:Str):Vw K kd O H (.str x) (.str x)
 |tup {a:Addr}{vs:List V}{ds:List D}:Rp K kd O H (.ref a) (.tup ds)->V_ K H a vs->RpL K kd O H vs ds->Vw K kd O H (.ref a) (.tup ds)
 |lst {a:Addr}{vs:List V}{ds:List D}:OP K H a vs->RpL K kd O H vs ds->Vw K kd O H (.ref a) (.lst ds)
 |dct {a:Addr}{kvs:List (Key×V)}{ds:List (Key×D)}:(Rd H a (.dK kvs)\/kd a kvs)->RpM K kd O H kvs ds->Vw K kd O H (.ref a) (.dct ds)
 |cl (c:Str):Vw K kd O H (.ref (kd.c c)) (.cl c)
 |ob {a dx:Addr}{c:Str}{ns:List Str}{vs:List V}{ds:List D}:H a=some (.ins (kd.c c) dx (ns.zip vs))->ns.length=vs.length->RpL K kd O H vs ds->Vw K kd O H (.ref a) (.ob c ns ds)
def Rp.vw{K}(h:Rp K kd O H v d):Vw K kd O H v d:=by
 cases h with
 |non=>exact .non
 |bl b=>exact .bl b
 |int i=>exact .int i
 |str x=>exact .str x
 |tup n h r=>exact .tup (.tup n h r) (.inl h) r
 |tupK a b c e f r=>exact .tup (.tupK a b c e f r) (.inr ⟨_,_,_,a,b,c,e,f⟩) r
 |lst n h r=>exact .lst (.inl h) r
 |lstK a e f r=>exact .lst (.inr ⟨_,_,a,e,f⟩) r
 |dct n h r=>exact .dct (.inl h) r
 |dctK h r=>exact .dct (.inr h) r
 |cl c=>exact .cl c
 |ob n h l r=>exact .ob h l r
def _root_.L2.OP.sq{K}(h:OP K H a xs):Pc K H a xs:=by
 rcases h with h|⟨b,n,k,z,r⟩
 . exact .inl h
 . exact .inr ⟨_,b,n,k,rfl,rfl,rfl,z,r⟩
def Bj(I:Inv X pins σ H s)(h:OP X.K H a xs):
 xs.length<=sizeLine/\∃(its:List Value) (n:Nat),zQ xs its/\s.heap.get? a=some {cls:=.type "list",data:=.seq its.toArray n}:=by
 rcases h with h|⟨b,n,k,z,r⟩
 . exact h.ok I.hok
 . refine⟨by rw[r.length];simpa using z,b.toList,n,r,by simpa using I.kIn _ _ k⟩
def Rp.cl_eq{K}(h:Rp K kd O H (.ref C) (.cl c)):C=kd.c c:=by
 cases h;rfl
def zE:D->Bool
 | .non=>true | .bl _=>true | .int _=>true | .str _=>true|_=>false
def Rp.flat{K}(h:Rp K kd O H v d)(e:zE d=true):Rp K kd O' H' v d:=by
 cases h with
 |non=>exact .non
 |bl b=>exact .bl b
 |int i=>exact .int i
 |str x=>exact .str x
 |_=>cases e
inductive Kind where
 |ls|tp|dc (ks:List Key)|ob (c:Str) (ns:List Str)
inductive O where
 |lf (st:Bool) (d:D)|nd (k:Kind) (os:List O)
abbrev OH(st:Bool)(d:D):O:=.lf (zE d||st) d
mutual
inductive Ro(L:Bool->V->D->Prop)(N:Addr->Prop)(H:Hp):V->O->List Addr->Prop
 |lf {st:Bool}{v:V}{d:D}:L st v d->Ro L N H v (.lf st d) []
 |ls {a:Addr}{vs:List V}{os:List O}{fp:List Addr}:H a=some (.lst vs)->RoL L N H vs os fp->Ro L N H (.ref a) (.nd .ls os) (a::fp)
 |dc {a:Addr}{ks:List Key}{vs:List V}{os:List O}{fp:List Addr}:H a=some (.dK (ks.zip vs))->ks.length=vs.length->RoL L N H vs os fp->Ro L N H (.ref a) (.nd (.dc ks) os) (a::fp)
 |ob {a dx C:Addr}{c:Str}{ns:List Str}{vs:List V}{os:List O}{fp:List Addr}:L true (.ref C) (.cl c)->H a=some (.ins C dx (ns.zip vs))->ns.length=vs.length->RoL L N H vs os fp->Ro L N H (.ref a) (.nd (.ob c ns) os) (a::fp)
 |tp {a:Addr}{vs:List V}{os:List O}{fp:List Addr}:N a->H a=some (.tup vs)->RoL L N H vs os fp->Ro L N H (.ref a) (.nd .tp os) fp
inductive RoL(L:Bool->V->D->Prop)(N:Addr->Prop)(H:Hp):List V->List O->List Addr->Prop
 |nil:RoL L N H [] [] []
 |cons {v:V}{o:O}{vs:List V}{os:List O}{fp fq:List Addr}:Ro L N H v o fp->RoL L N H vs os fq->RoL L N H (v::vs) (o::os) (fp++fq)
end
mutual
def O.toD:O->D
 | .lf _ d=>d
 | .nd .ls os=>.lst<|O.toDs os
 | .nd .tp os=>.tup<|O.toDs os
 | .nd (.dc ks) os=>.dct<|ks.zip<|O.toDs os
 | .nd (.ob c ns) os=>.ob c ns<|O.toDs os
def O.toDs:List O->List D
 | []=>[]
 |o::r=>o.toD::O.toDs r
end
mutual
def O.str:O->Bool
 | .lf st _=>st
 | .nd _ os=>O.strs os
def O.strs:List O->Bool
 | []=>true
 |o::r=>o.str&&O.strs r
end
section
variable{L L':Bool->V->D->Prop}{N N':Addr->Prop}{H H':Hp}{K:zzA}{kd:KD}{Ob:Addr->Prop}
def Ro.mono(hL:∀st v d,L st v d->L' st v d)(hN:∀a vs,N a->H a=some (.tup vs)->N' a/\H' a=some (.tup vs))(k:∀a ∈ fp,∀u,H a=some u->H' a=some u)(h:Ro L N H v o fp):Ro L' N' H' v o fp:=
 Ro.rec (motive_2:=λvs os fp _=>_->RoL L' N' H' vs os fp)
  (λh _=>.lf<|hL _ _ _ h) (λh _ r k=>.ls (k _ zzF _ h)<|r λa m=>k a<|zzD _ m) (λh l _ r k=>.dc (k _ zzF _ h) l<|r λa m=>k a<|zzD _ m) (λc h l _ r k=>.ob (hL _ _ _ c) (k _ zzF _ h) l<|r λa m=>k a<|zzD _ m) (λn h _ r k=>.tp (hN _ _ n h).1 (hN _ _ n h).2<|r k)
  (λ_=>.nil) (λ_ _ h r k=>.cons (h λa m=>k a<|zzP _ m)<|r λa m=>k a<|zzL _ m) h k
def RoL.ind{P:List V->List O->List Addr->Prop}(h0:P [] [] [])(h1:∀{v o vs os fp fq},Ro L N H v o fp->RoL L N H vs os fq->P vs os fq->P (v::vs) (o::os) (fp++fq)){os}(h:RoL L N H vs os fp):P vs os fp:=
 RoL.rec (motive_1:=λ_ _ _ _=>True) (λ_=>⋯) (λ_ _ _=>⋯) (λ_ _ _ _=>⋯) (λ_ _ _ _ _=>⋯) (λ_ _ _ _=>⋯) h0 (λa r _ ih=>h1 a r ih) h
theorem RoL.mono(hL:∀st v d,L st v d->L' st v d)(hN:∀a vs,N a->H a=some (.tup vs)->N' a/\H' a=some (.tup vs)){vs:List V}{os}(k:∀a ∈ fp,∀u,H a=some u->H' a=some u)(h:RoL L N H vs os fp):RoL L' N' H' vs os fp:=
 RoL.ind (P:=λc e b=>(∀a ∈ b,∀u,H a=some u->H' a=some u)->RoL L' N' H' c e b) (λ_=>.nil) (λh _ r k=>.cons (Ro.mono hL hN (λa m=>k a<|zzP _ m) h)<|r λa m=>k a<|zzL _ m) h k
theorem RW:∀{ks:List Key}{vs:List V}{ds:List D},RpL K kd Ob H vs ds->ks.length=vs.length->RpM K kd Ob H (ks.zip vs) (ks.zip ds)
 | [],_,_,_,_=>.nil
 |_::_,_,_,.nil,e=>by simp at e
 |_::_,_,_,.cons h r,e=>.cons h (RW r<|by simpa using e)
def Ro.rp(b)(hL:∀st v d,(b=true->st=true)->L st v d->Rp K kd Ob H v d)(hN:∀a,N a->¬Ob a){v}(s:b=true->o.str=true)(k:∀a ∈ fp,¬Ob a)(h:Ro L N H v o fp):Rp K kd Ob H v o.toD:=
 Ro.rec (motive_2:=λi g f _=>_->_->RpL K kd Ob H i _)
  (λh s _=>hL _ _ _ s h) (λh _ r s k=>.lst (k _ zzF) (.inl h)<|r s λa m=>k a<|zzD _ m) (λh l _ r s k=>.dct (k _ zzF) (.inl h)<|RW (r s λa m=>k a<|zzD _ m) l) (λc h l _ r s k=>by
   have e:=(hL _ _ _ (λ_=>rfl) c).cl_eq;subst e;exact .ob (k _ zzF) h l<|r s λa m=>k a<|zzD _ m) (λn h _ r s k=>.tup (hN _ n) (.inl h)<|r s k)
  (λ_ _=>.nil) (λ_ _ h r s k=>.cons (h (λz=>((zyB _ _).mp<|s z).1) λa m=>k a<|zzP _ m)<|r (λz=>((zyB _ _).mp<|s z).2) λa m=>k a<|zzL _ m) h s k
theorem RoL.rp(b:Bool)(hL:∀st v d,(b=true->st=true)->L st v d->Rp K kd Ob H v d)(hN:∀a,N a->¬Ob a){os}(s:b=true->O.strs os=true)(k:∀a ∈ fp,¬Ob a)(h:RoL L N H vs os fp):RpL K kd Ob H vs (O.toDs os):=
 RoL.ind (P:=λe c f=>(b=true->O.strs c=true)->(∀a ∈ f,¬Ob a)->RpL K kd Ob H e (O.toDs c)) (λ_ _=>.nil) (λh _ r s k=>.cons (Ro.rp b hL hN (λz=>((zyB _ _).mp<|s z).1) (λa m=>k a<|zzP _ m) h)<|r (λz=>((zyB _ _).mp<|s z).2) λa m=>k a<|zzL _ m) h s k
theorem RoL.length{vs:List V}{os}(h:RoL L N H vs os fp):vs.length=os.length:=RoL.ind (P:=λa b _=>a.length=b.length) rfl (λ_ _ r=>congrArg _ r) h
theorem UU:∀os:List O,(O.toDs os).length=os.length
 | []=>rfl
 |_::r=>congrArg _<|UU r
def RoL.append{vs ws:List V}{os ps}(h:RoL L N H vs os f)(r:RoL L N H ws ps g):RoL L N H (vs++ws) (os++ps) (f++g):=RoL.ind (P:=λa b f=>RoL L N H (a++ws) (b++ps)<|f++g) r (λh _ t=>by rw[zxB];exact .cons h t) h
def RoL.one(h:Ro L N H v o f):RoL L N H [v] [o] f:=by
 have:=RoL.cons h<|RoL.nil
 rwa [zyD]at this
def RoL.at_:∀{vs:List V}{os:List O}{fp:List Addr},RoL L N H vs os fp->os[k]? = some o->∃v f fo g,vs[k]? = some v/\fp=f++(fo++g)/\Ro L N H v o fo/\RoL L N H (vs.take k) (os.take k) f/\RoL L N H (vs.drop<|k+1) (os.drop<|k+1) g:=by
 induction k with
 |zero=>
  intro a b c h e;cases h with
  |nil=>cases e
  |cons h r=>
   cases e;exact⟨_,[],_,_,rfl,rfl,h,.nil,r⟩
 |succ k d=>
  intro a b c h e;cases h with
  |nil=>cases e
  |cons h r=>
   obtain⟨v,f,i,g,j,l,m,n,p⟩:=d r e;subst l;exact⟨v,_,i,g,j,(zxB _ _ _).symm,m,.cons h n,p⟩
def UX(l:List α)(k:Nat):l.eraseIdx k=l.take k++l.drop (k+1):=List.eraseIdx_eq_take_drop_succ l k
end
abbrev AS:=List<|Option O
abbrev Ad:=Nat->List Addr
def Gw(T:List Addr)(ad:Ad):Addr->Prop:=λa=>a ∈ T\/∃i,a ∈ ad i
abbrev Lv(F B G:Addr->Prop)(st:Bool):Addr->Prop:=Wj (λa=>(st=true/\F a)\/B a) G
abbrev Lf(K:zzA)(kd:KD)(F B G:Addr->Prop)(H:Hp):Bool->V->D->Prop:=λst v d=>Rp K kd (Lv F B G st) H v d
abbrev Nf(F B G:Addr->Prop):Addr->Prop:=λa=>¬Lv F B G true a
abbrev vN(K:zzA)(kd:KD)(F B G:Addr->Prop)(H:Hp):V->O->List Addr->Prop:=Ro (Lf K kd F B G H) (Nf F B G) H
abbrev wb(K:zzA)(kd:KD)(F B G:Addr->Prop)(H:Hp):List V->List O->List Addr->Prop:=RoL (Lf K kd F B G H) (Nf F B G) H
def P1(K:zzA)(kd:KD)(F B G:Addr->Prop)(H:Hp):Option O->Option (Option V)->List Addr->Prop
 |none,_,fp=>fp=[]
 |some o,s,fp=>∃v,s=some (some v)/\vN K kd F B G H v o fp
structure Rel(K:zzA)(kd:KD)(F B:Addr->Prop)(T:List Addr)(ad:Ad)(as:AS)(σ:St)(H:Hp):Prop where
 len:as.length=σ.length
 out:∀i,as.length<=i->ad i=[]
 nd:∀i,(ad i).Nodup
 inj:∀i j a,a ∈ ad i->a ∈ ad j->i=j
 tnd:T.Nodup
 dis:∀i a,a ∈ ad i->a ∉ T
 ftr:∀a,F a->H a≠none
 btr:∀a,B a->H a≠none/\¬F a/\¬Gw T ad a
 gtr:∀a,Gw T ad a->H a≠none/\¬F a
 sl:∀i s,as[i]? = some s->P1 K kd F B (Gw T ad) H s σ[i]? (ad i)
inductive RV where
 |ow (o:O)|bo (i:Nat)
def xq(K:zzA)(kd:KD)(F B:Addr->Prop)(T:List Addr)(ad:Ad)(σ:St)(H:Hp)(v:V):RV->Prop
 | .ow o=>vN K kd F B (Gw T ad) H v o T
 | .bo i=>T=[]/\σ[i]? = some (some v)
def O.frz(o:O):O:=.lf o.str o.toD
def RV.frz:RV->RV
 | .ow o=>.ow o.frz
 | .bo i=>.bo i
def O.isLf:O->Bool
 | .lf _ _=>true
 |_=>false
def O.kl:O->Option Bool
 | .lf st _=>some st
 | .nd _ os=>if os.all O.isLf=true then some (O.strs os)else none
def RV.view(as:AS):RV->Option (D×Option Bool)
 | .ow o=>some (o.toD,some o.str)
 | .bo i=>match as[i]? with
  |some (some o)=>some (o.toD,o.kl)
  |_=>none
def U6(F B G:Addr->Prop):Option Bool->Addr->Prop
 |some st=>Lv F B G st
 |none=>λ_=>False
section
variable{K:zzA}{kd:KD}{F B F' B':Addr->Prop}{G G':Addr->Prop}{T T':List Addr}{ad ad1:Ad}{as as1:AS}{σ:St}{H H1 H':Hp}{v:V}{r:RV}{o:O}{fp:List Addr}{vs:List V}{os:List O}
theorem vN.grow(g:Grow G H G' H')(k:∀a ∈ fp,∀u,H a=some u->H' a=some u)(h:vN K kd F B G H v o fp):vN K kd F B G' H' v o fp:=
 Ro.mono (λst v d r=>Rp.grow g r) (λa vs n e=>⟨λz=>z.elim (λy=>n<|.inl y) λy=>(g.own a y).elim (λw=>n<|.inr w) λw=>(by rw[w]at e;cases e),g.keep a _ e λw=>n<|.inr w⟩) k h
theorem wb.grow(g:Grow G H G' H')(k:∀a ∈ fp,∀u,H a=some u->H' a=some u)(h:wb K kd F B G H vs os fp):wb K kd F B G' H' vs os fp:=
 RoL.mono (λst v d r=>Rp.grow g r) (λa vs n e=>⟨λz=>z.elim (λy=>n<|.inl y) λy=>(g.own a y).elim (λw=>n<|.inr w) λw=>(by rw[w]at e;cases e),g.keep a _ e λw=>n<|.inr w⟩) k h
def vN.lv(g:∀st a,Lv F' B' G' st a->Lv F B G st a)(h:vN K kd F B G H v o fp):vN K kd F' B' G' H v o fp:=
 Ro.mono (λst v d r=>r.less<|g st) (λa vs n e=>⟨λz=>n<|g true a z,e⟩) (λ_ _ _ e=>e) h
def wb.lv(g:∀st a,Lv F' B' G' st a->Lv F B G st a)(h:wb K kd F B G H vs os fp):wb K kd F' B' G' H vs os fp:=
 RoL.mono (λst v d r=>r.less<|g st) (λa vs n e=>⟨λz=>n<|g true a z,e⟩) (λ_ _ _ e=>e) h
def vN.less(g:∀a,G' a->G a)(h:vN K kd F B G H v o fp):vN K kd F B G' H v o fp:=vN.lv (λ_ a z=>z.elim .inl λy=>.inr<|g a y) h
def Gw.drop:∀a,Gw [] ad a->Gw T ad a:=λ_ h=>h.elim ⋯ .inr
def Rel.trk(R:Rel K kd F B T ad as σ H)(st):∀a,Lv F B (Gw T ad) st a->H a≠none:=λa h=>by
 rcases h with(h|h)|h
 . exact R.ftr a h.2
 . exact(R.btr a h).1
 . exact(R.gtr a h).1
def Rel.tr(R:Rel K kd F B T ad as σ H)(lv):∀a,U6 F B (Gw T ad) lv a->H a≠none:=λa h=>by
 cases lv with
 |none=>exact h.elim
 |some st=>exact R.trk st a h
theorem P1.lv(g:∀st a,Lv F' B' G' st a->Lv F B G st a)(h:P1 K kd F B G H s x fp):P1 K kd F' B' G' H s x fp:=by
 cases s with
 |none=>exact h
 |some o=>obtain⟨v,e,r⟩:=h;exact⟨v,e,vN.lv g r⟩
def P1.less(g:∀a,G' a->G a)(h:P1 K kd F B G H s x fp):P1 K kd F B G' H s x fp:=h.lv λ_ a z=>z.elim .inl λy=>.inr<|g a y
theorem P1.grow(g:Grow G H G' H')(k:∀a ∈ fp,∀u,H a=some u->H' a=some u)(h:P1 K kd F B G H s x fp):P1 K kd F B G' H' s x fp:=by
 cases s with
 |none=>exact h
 |some o=>obtain⟨v,e,r⟩:=h;exact⟨v,e,vN.grow g k r⟩
theorem Rel.drop(R:Rel K kd F B T ad as σ H):Rel K kd F B [] ad as σ H where
 len:=R.len
 out:=R.out
 nd:=R.nd
 inj:=R.inj
 tnd:=zyI
 dis:=λ_ _ _ z=>nomatch z
 ftr:=R.ftr
 btr:=λa h=>let⟨h1,h2,h3⟩:=R.btr a h;⟨h1,h2,λz=>h3<|Gw.drop a z⟩
 gtr:=λa h=>R.gtr a (Gw.drop a h)
 sl:=λi s e=>(R.sl i s e).less Gw.drop
def FA(R:Rel K kd F B T ad as σ H)(h:vN K kd F B (Gw T ad) H v o T):Rp K kd (Lv F B (Gw [] ad) o.str) H v o.toD:=
 Ro.rp o.str (λst v d hs r=>r.less λa z=>z.elim (λy=>.inl<|y.elim (λx=>.inl ⟨hs x.1,x.2⟩) .inr) λy=>.inr<|Gw.drop a y)
  (λa n z=>n<|z.elim (λy=>.inl<|y.elim (λx=>.inl ⟨rfl,x.2⟩) .inr) λy=>.inr<|Gw.drop a y) id
  (λa m z=>by
   rcases z with(z|z)|z|⟨i,z⟩
   . exact(R.gtr a<|.inl m).2 z.2
   . exact(R.btr a z).2.2<|.inl m
   . cases z
   . exact R.dis i a z m) h
def xq.drop(R:Rel K kd F B T ad as σ H)(h:xq K kd F B T ad σ H v r):xq K kd F B [] ad σ H v r.frz:=by
 cases r with
 |ow o=>exact .lf (FA R h)
 |bo i=>exact⟨rfl,h.2⟩
theorem xq.grow(g:Grow (Gw [] ad) H (Gw [] ad1) H1)(h:xq K kd F B [] ad σ H v r):xq K kd F B [] ad1 σ H1 v r:=by
 cases r with
 |ow o=>exact vN.grow g ⋯ h
 |bo i=>exact h
def OU(h:wb K kd F B G H vs os fp):os.all O.isLf=true->fp=[]:=
 RoL.ind (P:=λ_ os fp=>os.all O.isLf=true->fp=[]) ⋯ (λh _ ih e=>by
  rw[List.all_cons,zyB]at e;rw[ih e.2];cases h with
  |lf=>rfl
  |ls=>cases e.1
  |dc=>cases e.1
  |ob=>cases e.1
  |tp=>cases e.1) h
def Pi{st}(hs:b=true->st=true):∀a,Lv F B G b a->Lv F B G st a:=λa z=>z.elim (λy=>.inl<|y.elim (λx=>.inl ⟨hs x.1,x.2⟩) .inr) .inr
def Ub(h:wb K kd F B G H vs os fp)(e:os.all O.isLf=true):RpL K kd (Lv F B G<|O.strs os) H vs (O.toDs os):=by
 have:=OU h e;subst this;exact RoL.rp _ (λst v d hs r=>r.less<|Pi hs) (λa n z=>n<|Pi ⋯ a z) id ⋯ h
def QX(h:wb K kd F B G H vs os fp):RpL K kd (λ_=>False) H vs (O.toDs os):=RoL.rp false (λst v d _ r=>r.less λ_ z=>z.elim) (λ_ _ z=>z) ⋯ (λ_ _ z=>z) h
def Pu(h:vN K kd F B G H v o fp):Rp K kd (λ_=>False) H v o.toD:=Ro.rp false (λst v d _ r=>r.less λ_ z=>z.elim) (λ_ _ z=>z) ⋯ (λ_ _ z=>z) h
def PC(h:vN K kd F B G H v o []):Rp K kd (Lv F B G o.str) H v o.toD:=
 Ro.rp o.str (λst v d hs r=>r.less<|Pi hs) (λa n z=>n<|Pi ⋯ a z) id ⋯ h
theorem vN.vw(h:vN K kd F B G H v o fp):Vw K kd (U6 F B G o.kl) H v o.toD:=by
 cases h with
 |lf h=>exact h.vw
 |ls hH r=>
  rename_i a vs' os' fp';show Vw K kd (U6 F B G (if os'.all O.isLf=true then some _ else none)) H _ _
  by_cases e:os'.all O.isLf=true
  . rw[if_pos e];exact .lst (.inl<|.inl hH)<|Ub r e
  . rw[if_neg e];exact .lst (.inl<|.inl hH) (QX r)
 |dc hH l r=>
  rename_i a ks vs' os' fp';show Vw K kd (U6 F B G (if os'.all O.isLf=true then some _ else none)) H _ _
  by_cases e:os'.all O.isLf=true
  . rw[if_pos e];exact .dct (.inl<|.inl hH)<|RW (Ub r e) l
  . rw[if_neg e];exact .dct (.inl<|.inl hH) (RW (QX r) l)
 |ob hc hH l r=>
  rename_i a dx C c ns vs' os' fp';have ec:=hc.cl_eq;subst ec;show Vw K kd (U6 F B G (if os'.all O.isLf=true then some _ else none)) H _ _
  by_cases e:os'.all O.isLf=true
  . rw[if_pos e];exact .ob hH l<|Ub r e
  . rw[if_neg e];exact .ob hH l (QX r)
 |tp n hH r=>
  rename_i a vs' os';show Vw K kd (U6 F B G (if os'.all O.isLf=true then some _ else none)) H _ _
  by_cases e:os'.all O.isLf=true
  . rw[if_pos e];have rl:=Ub r e;exact .tup (.tup (λz=>n<|Pi (λ_=>rfl) _ z) (.inl hH) rl) (.inl<|.inl hH) rl
  . rw[if_neg e];exact .tup (.tup (λz=>z) (.inl hH)<|QX r) (.inl<|.inl hH)<|QX r
theorem xq.vw(R:Rel K kd F B [] ad as σ H)(h:xq K kd F B [] ad σ H v r)(e:r.view as=some (d,lv)):Vw K kd (U6 F B (Gw [] ad) lv) H v d:=by
 cases r with
 |ow o=>
  cases e;exact(PC h).vw
 |bo i=>
  have e:(match as[i]? with|some (some o)=>some _|_=>none)=some _:=e;cases k:as[i]? with
  |none=>rw[k]at e;cases e
  |some s=>
   cases s with
   |none=>rw[k]at e;cases e
   |some o=>
    rw[k]at e;cases e;obtain⟨w,hw,ro⟩:=R.sl i _ k;rw[h.2]at hw;cases hw;exact ro.vw
def Rel.add(R:Rel K kd F B T ad as σ H)(hn:N.Nodup)(hl:∀a ∈ N,H a=none)(k:∀b u,H b=some u->H' b=some u)(h1:∀a ∈ N,H' a≠none):Rel K kd F B (N++T) ad as σ H'/\Grow (Gw T ad) H (Gw (N++T) ad) H':=by
 have g:Grow (Gw T ad) H (Gw _ ad) H':=⟨λb u h _=>k b u h,λb h=>by
  rcases h with h|h
  . rcases zzM.mp h with h|h
    . exact .inr<|hl b h
    . exact .inl<|.inl h
  . exact .inl<|.inr h⟩
 have kn:∀a,H a≠none->H' a≠none:=λa z=>by
  cases e:H a with
  |none=>exact absurd e z
  |some u=>rw[k a u e];simp
 refine⟨⟨R.len,R.out,R.nd,R.inj, ?_,λi a m z=>?_,λa z=>kn a<|R.ftr a z,λa z=>?_,λa z=>?_,λi s e=>(R.sl i s e).grow g λa _ u h=>k a u h⟩,g⟩
 . refine zxD.mpr ⟨hn,R.tnd,λa m b m' e=>?_⟩;subst e;exact(R.gtr a<|.inl m').1<|hl a m
 . rcases zzM.mp z with z|z
   . exact(R.gtr a<|.inr ⟨i,m⟩).1<|hl a z
   . exact R.dis i a m z
 . obtain⟨b1,b2,b3⟩:=R.btr a z;refine⟨kn a b1,b2,λy=>?_⟩
   rcases y with y|y
   . rcases zzM.mp y with y|y
     . exact b1<|hl a y
     . exact b3<|.inl y
   . exact b3<|.inr y
 . rcases z with z|z
   . rcases zzM.mp z with z|z
     . exact⟨h1 a z,λf=>R.ftr a f<|hl a z⟩
     . exact⟨kn a (R.gtr a<|.inl z).1,(R.gtr a<|.inl z).2⟩
   . exact⟨kn a (R.gtr a<|.inr z).1,(R.gtr a<|.inr z).2⟩
def Rel.more(R:Rel K kd F B T ad as σ H)(k:∀b u,H b=some u->H' b=some u):Rel K kd F B T ad as σ H'/\Grow (Gw T ad) H (Gw T ad) H':=
 R.add zyI ⋯ k ⋯
def Rel.news(R:Rel K kd F B [] ad as σ H)(hn:T'.Nodup)(hl:∀a ∈ T',H a=none)(k:∀b u,H b=some u->H' b=some u)(h1:∀a ∈ T',H' a≠none):Rel K kd F B T' ad as σ H'/\Grow (Gw [] ad) H (Gw T' ad) H':=by
 have:=R.add hn hl k h1
 rwa [zyD]at this
end
inductive R0 where
 |im (d:D)|fl (ds:List D)|fd (kvs:List (Key×D))
def RQ(K:zzA)(kd:KD)(O:Addr->Prop)(H:Hp)(Q:VK):R0->Prop
 | .im d=>∀v H',(∀b o,H b=some o->H' b=some o)->Rp K kd O H' v d->Q v H'
 | .fl ds=>∀l vs H',H l=none->(∀b o,H b=some o->H' b=some o)->H' l=some (.lst vs)->RpL K kd (Wj O (· = l)) H' vs ds->Q (.ref l) H'
 | .fd ds=>∀l vs H',H l=none->(∀b o,H b=some o->H' b=some o)->H' l=some (.dK vs)->RpM K kd (Wj O (· = l)) H' vs ds->Q (.ref l) H'
def wrap(lv:Option Bool):R0->Option RV
 | .im d=>if(zE d||lv.isSome)=true then some (.ow<|OH (lv.getD false) d)else none
 | .fl ds=>if(ds.all zE||lv.isSome)=true then some (.ow<|.nd .ls<|ds.map<|OH<|lv.getD false)else none
 | .fd kvs=>if((kvs.map (·.2)).all zE||lv.isSome)=true then some (.ow (.nd (.dc (kvs.map (·.1))) ((kvs.map (·.2)).map<|OH<|lv.getD false)))else none
def bS_{α β:Type}{o}{f:α->Option β}{b}(h:o.bind f=some b):∃a,o=some a/\f a=some b:=by
 cases o with
 |none=>cases h
 |some a=>exact⟨a,rfl,h⟩
def ite_some'{α:Type}{c:Prop}[Decidable c]{a}{b:α}(h:(if c then a else none)=some b):c/\a=some b:=by
 by_cases hc:c
 . rw[if_pos hc]at h;exact⟨hc,h⟩
 . rw[if_neg hc]at h;cases h
def zq{α:Type}{c:Prop}[Decidable c]{a b:α}(h:(if c then some a else none)=some b):c/\a=b:=by
 by_cases hc:c
 . rw[if_pos hc]at h;cases h;exact⟨hc,rfl⟩
 . rw[if_neg hc]at h;cases h
section
variable{K:zzA}{kd:KD}{F B:Addr->Prop}{G:Addr->Prop}{ad:Ad}{as:AS}{σ:St}{H H':Hp}{v:V}{r:R0}{rv:RV}{Q:VK}{lv:Option Bool}
def D8(h:zE d=true\/lv.isSome=true)(hO:∀st,lv=some st->∀a,Lv F B G st a->Ob a)(rp:Rp K kd Ob H v d):Lf K kd F B G H (zE d||lv.getD false) v d:=by
 cases e:zE d with
 |true=>exact rp.flat e
 |false=>
  rw[e]at h;cases lv with
  |none=>rcases h with h|h<;>cases h
  |some st=>exact rp.less (hO st rfl)
def Ow(hO:∀st,lv=some st->∀a,Lv F B G st a->Ob a)(e:(ds.all zE||lv.isSome)=true)(h:RpL K kd Ob H vs ds):RoL (Lf K kd F B G H) N H vs (ds.map<|OH<|lv.getD false) []:=
 RpL.ind (P:=λvs ds=>(ds.all zE||lv.isSome)=true->RoL _ N H vs (ds.map _) []) (λ_=>.nil) (λ{v d vs ds} h _ ih e=>by
  rw[List.all_cons]at e;have e1:zE d=true\/lv.isSome=true:=by
   cases h1:lv.isSome<;>cases h2:zE d<;>simp[h1,h2]at e ⊢
  have e2:(ds.all zE||lv.isSome)=true:=by
   cases h1:lv.isSome with
   |true=>simp
   |false=>
    rw[h1,Bool.or_false,zyB]at e;rw[Bool.or_false];exact e.2
  exact RoL.cons (.lf<|D8 e1 hO h)<|ih e2) h e
def Ht{O}(h:RpM K kd O H vs ds):vs=(ds.map (·.1)).zip (vs.map (·.2))/\RpL K kd O H (vs.map (·.2)) (ds.map (·.2)):=
 RpM.ind (P:=λvs ds=>vs=(ds.map _).zip (vs.map _)/\RpL K kd O H (vs.map _) (ds.map _)) ⟨rfl,.nil⟩ (λh _ ih=>by
  obtain⟨h1,h2⟩:=ih;refine⟨?_,.cons h h2⟩
  conv=>lhs;rw[h1]
  rfl) h
def Zm(R:Rel K kd F B [] ad as σ H)(e:wrap lv r=some rv)(q:∀v T' H',Rel K kd F B T' ad as σ H'->xq K kd F B T' ad σ H' v rv->Grow (Gw [] ad) H (Gw T' ad) H'->Q v H'):RQ K kd (U6 F B (Gw [] ad) lv) H Q r:=by
 have hO:∀l st,lv=some st->∀a,Lv F B (Gw l ad) st a->Wj (U6 F B (Gw [] ad) lv) (· ∈ l) a:=by
  intro l st e a z;subst e
  rcases z with z|z|z
  . exact .inl<|.inl z
  . exact .inr z
  . exact .inl<|.inr<|.inr z
 cases r with
 |im d=>
  obtain⟨c,rfl⟩:=zq e;intro v H' k rp;obtain⟨R',g⟩:=R.more k;refine q v [] H' R' (.lf<|D8 ((Bool.or_eq_true _ _).mp c) (λst e a z=>?_) rp) g;exact(hO [] st e a z).elim id λm=>nomatch m
 |fl ds=>
  obtain⟨c,rfl⟩:=zq e;intro l vs H' hl k hl' rp;obtain⟨R',g⟩:=R.news (T':=[l]) ⋯ (λa m=>by rwa [zzR.mp m]) k (λa m=>by rw[zzR.mp m,hl'];simp);exact q _ [l] H' R' (.ls hl'<|Ow (λst e a z=>(hO [l] st e a z).elim .inl λm=>.inr<|zzR.mp m) c rp) g
 |fd ds=>
  obtain⟨c,rfl⟩:=zq e;intro l vs H' hl k hl' rp;obtain⟨R',g⟩:=R.news (T':=[l]) ⋯ (λa m=>by rwa [zzR.mp m]) k (λa m=>by rw[zzR.mp m,hl'];simp);obtain⟨e1,r1⟩:=Ht rp;refine q _ [l] H' R' (.dc (by rw[hl',<-e1]) (by rw[zzB,zzB,rp.length])<|Ow (λst e a z=>(hO [l] st e a z).elim .inl λm=>.inr<|zzR.mp m) c r1) g
end
abbrev EF:=AS->Option (RV×AS)
def al(K:zzA)(kd:KD)(f:EF):TE:=λσ H Q=>∃F B ad as r as',Rel K kd F B [] ad as σ H/\f as=some (r,as')/\
 ∀v T' ad' H',Rel K kd F B T' ad' as' σ H'->xq K kd F B T' ad' σ H' v r->Grow (Gw [] ad) H (Gw T' ad') H'->Q v H'
@[irreducible] def AE(X:Cx)(kd:KD)(e:Expr)(f:EF):Prop:=PE X e<|al X.K kd f
def yb(h:PE X e t)(k:∀σ H Q,t' σ H Q->t σ H Q):PE X e t':=λpins s σ H Q I q=>h pins s σ H Q I<|k σ H Q q
section
variable{K:zzA}{kd:KD}{F B:Addr->Prop}{ad:Ad}{as as1:AS}{σ:St}{H:Hp}{r:RV}{f:EF}{P:VK}
def xS(R:Rel K kd F B [] ad as σ H)(e:f as=some (r,as1))(k:∀v ad1 H1,Rel K kd F B [] ad1 as1 σ H1->xq K kd F B [] ad1 σ H1 v r.frz->Grow (Gw [] ad) H (Gw [] ad1) H1->P v H1):al K kd f σ H P:=
 ⟨F,B,ad,as,r,as1,R,e,λv T' ad' H' R' rv g=>k v ad' H' R'.drop (xq.drop R' rv)<|g.trans<|Grow.less Gw.drop⟩
end
def uP(X:Cx)(kd:KD)(f:Value->Value->Sem Value)(g:D->D->Option R0):Prop:=
 Ra X f (λx y H Q=>∃O d e r,(∀a,O a->H a≠none)/\Vw X.K kd O H x d/\Vw X.K kd O H y e/\g d e=some r/\RQ X.K kd O H Q r)
def ik(X:Cx)(kd:KD)(f:Value->Sem Value)(g:D->Option R0):Prop:=
 l_ X f (λx H Q=>∃O d r,(∀a,O a->H a≠none)/\Vw X.K kd O H x d/\g d=some r/\RQ X.K kd O H Q r)
inductive VwL(K:zzA)(kd:KD)(O:Addr->Prop)(H:Hp):List V->List D->Prop
 |nil:VwL K kd O H [] []
 |cons {v:V}{d:D}{vs:List V}{ds:List D}:Vw K kd O H v d->VwL K kd O H vs ds->VwL K kd O H (v::vs) (d::ds)
def Z8(X:Cx)(kd:KD)(f:Value)(g:List D->Option R0):Prop:=
 YW X f (λxs H Q=>∃O ds r,(∀a,O a->H a≠none)/\VwL X.K kd O H xs ds/\g ds=some r/\RQ X.K kd O H Q r)
def iX(X:Cx)(kd:KD)(g:D->D->Option R0):Prop:=
 m_ X (λx y H Q=>∃O d e r,(∀a,O a->H a≠none)/\Vw X.K kd O H x d/\Vw X.K kd O H y e/\g d e=some r/\RQ X.K kd O H Q r)
def meet:Option Bool->Option Bool->Option Bool
 |some a,some b=>some (a&&b)
 |_,_=>none
def U6.meet1:∀x,U6 F B G (meet a b) x->U6 F B G a x:=λx h=>by
 cases a with
 |none=>cases b<;>exact h.elim
 |some p=>
  cases b with
  |none=>exact h.elim
  |some q=>exact Pi (λz=>((zyB _ _).mp z).1) x h
def U6.meet2:∀x,U6 F B G (meet a b) x->U6 F B G b x:=λx h=>by
 cases a with
 |none=>cases b<;>exact h.elim
 |some p=>
  cases b with
  |none=>exact h.elim
  |some q=>exact Pi ⋯ x h
theorem Vw.less{K O O'}(g:∀a,O' a->O a)(h:Vw K kd O H v d):Vw K kd O' H v d:=by
 cases h with
 |non=>exact .non
 |bl b=>exact .bl b
 |int i=>exact .int i
 |str x=>exact .str x
 |tup r s l=>exact .tup (r.less g) s (l.less g)
 |lst h l=>exact .lst h (l.less g)
 |dct h l=>exact .dct h (l.less g)
 |cl c=>exact .cl c
 |ob h k l=>exact .ob h k (l.less g)
def f2(fa fb:EF)(g:D->D->Option R0):EF:=λas=>(fa as).bind λp=>(fb p.2).bind λq=>(p.1.frz.view q.2).bind λx=>(q.1.frz.view q.2).bind λy=>(g x.1 y.1).bind λr=>(wrap (meet x.2 y.2) r).bind λz=>some (z,q.2)
def Bw{fa fb}{as as':AS}(h:f2 fa fb g as=some (rv,as')):
 ∃p as1 q x y lx ly r,fa as=some (p,as1)/\fb as1=some (q,as')/\p.frz.view as'=some (x,lx)/\q.frz.view as'=some (y,ly)/\g x y=some r/\wrap (meet lx ly) r=some rv:=by
 obtain⟨⟨p,as1⟩,h1,h⟩:=bS_ h;obtain⟨⟨q,as2⟩,h2,h⟩:=bS_ h;obtain⟨⟨x,lx⟩,h3,h⟩:=bS_ h;obtain⟨⟨y,ly⟩,h4,h⟩:=bS_ h;obtain⟨r,h5,h⟩:=bS_ h;obtain⟨z,h6,h⟩:=bS_ h;cases h;exact⟨p,as1,q,x,y,lx,ly,r,h1,h2,h3,h4,h5,h6⟩
section
variable{X:Cx}{kd:KD}{a b c:Expr}{fa fb fc:EF}{pos:Pos}
def kg(hr:∀x y H Q,(∃O d e r,(∀a,O a->H a≠none)/\Vw X.K kd O H x d/\Vw X.K kd O H y e/\g d e=some r/\RQ X.K kd O H Q r)->R2' x y H Q)
 (h:al X.K kd (f2 fa fb g) σ H Q):mX R2' (al X.K kd fa) (al X.K kd fb) σ H Q:=by
 obtain⟨F,B,ad,as,r,as',R,e,q⟩:=h;obtain⟨p,as1,z,x,y,lx,ly,r0,h1,h2,h3,h4,h5,h6⟩:=Bw e;refine xS R h1 λv ad1 H1 R1 rv1 g1=>xS R1 h2 λu ad2 H2 R2 rv2 g2=>hr _ _ _ _ ?_;exact⟨_,x,y,r0,R2.tr _,(xq.vw R2 (rv1.grow g2) h3).less U6.meet1,(xq.vw R2 rv2 h4).less U6.meet2,h5,Zm R2 h6 λw T' H' R' rv' g'=>q w T' ad2 H' R' rv'<|(g1.trans g2).trans g'⟩
def O0(ho:uP X kd (binaryOp op) g)(ha:AE X kd a fa)(hb':AE X kd b fb):AE X kd (.BinOp a op b pos) (f2 fa fb g):=by with_unfolding_all exact(yb (lR ho ha hb') λσ H Q h=>kg (λ_ _ _ _ z=>z) h)
def sA(ho:uP X kd (compareOp op) g)(ha:AE X kd a fa)(hb':AE X kd b fb)(hm:behindInMarks op b=false):AE X kd (.Compare a [op] [b] pos) (f2 fa fb g):=by with_unfolding_all exact(yb (Ao ho ha hb' hm) λσ H Q h=>kg (λ_ _ _ _ z=>z) h)
def n_(ho:iX X kd g)(ha:AE X kd a fa)(hb':AE X kd b fb)(hm:Qb b):AE X kd (.Subscript a b pos) (f2 fa fb g):=by with_unfolding_all exact(yb (OY ho ha hb' hm) λσ H Q h=>kg (λ_ _ _ _ z=>z) h)
def fC(d:D):EF:=λas=>some (.ow<|.lf true d,as)
noncomputable def fV(i:Nat):EF:=λas=>match as[i]? with
 |some (some (.lf st d))=>some (.ow<|.lf st d,as)
 |some (some (.nd _ _))=>some (.bo i,as)
 |_=>none
def TB(h:PE X a (tC v))(hr:∀O H,Rp X.K kd O H v d):AE X kd a (fC d):=by with_unfolding_all exact(yb h λσ H Q h=>by
 obtain⟨F,B,ad,as,r,as',R,e,q⟩:=h;cases e;exact q v [] ad H R (.lf<|hr _ _) Grow.refl)
def sk{i:Nat}(h:PE X a (Y1 i)):AE X kd a (fV i):=by with_unfolding_all exact(yb h λσ H Q h=>by
 obtain⟨F,B,ad,as,r,as',R,e,q⟩:=h;unfold fV at e;cases k:as[i]? with
 |none=>rw[k]at e;cases e
 |some s=>
  rw[k]at e;cases s with
  |none=>cases e
  |some o=>
   obtain⟨v,h1,h2⟩:=R.sl i _ k;cases o with
   |lf st d=>
    cases e;have e0:ad i=[]:=by
     generalize hfp:ad i=fp at h2;cases h2;rfl
    rw[e0]at h2;exact⟨v,h1,q v [] ad H R h2 Grow.refl⟩
   |nd kk os=>
    cases e;exact⟨_,h1,q _ [] ad H R ⟨rfl,h1⟩ Grow.refl⟩)
end
def Zt(ad:Ad)(i:Nat)(x:List Addr):Ad:=λj=>if j=i then x else ad j
section
variable{K:zzA}{kd:KD}{F B:Addr->Prop}{T T1 T2:List Addr}{ad ad1:Ad}{as as1:AS}{σ:St}{H H1:Hp}{v:V}{r:RV}{o:O}{i:Nat}
def zZ:Zt ad i x i=x:=if_pos rfl
def ya{j:Nat}(h:j≠i):Zt ad i x j=ad j:=if_neg h
def ZW:∀a,Gw T (Zt ad i []) a->Gw T ad a:=λa h=>by
 rcases h with h|⟨j,h⟩
 . exact .inl h
 . by_cases e:j=i
   . subst e;rw[zZ]at h;cases h
   . rw[ya e]at h;exact .inr ⟨j,h⟩
def Xi:∀a,Gw [] (Zt ad i T) a->Gw T ad a:=λa h=>by
 rcases h with h|⟨j,h⟩
 . cases h
 . by_cases e:j=i
   . subst e;rw[zZ]at h;exact .inl h
   . rw[ya e]at h;exact .inr ⟨j,h⟩
def BJ:∀st a,Lv F (λa=>B a\/a ∈ T) (Gw [] ad) st a->Lv F B (Gw T ad) st a:=λst a z=>by
 rcases z with(z|z|z)|z
 . exact .inl<|.inl z
 . exact .inl<|.inr z
 . exact .inr<|.inl z
 . exact .inr<|Gw.drop a z
def Q_:∀st a,Lv F B (Gw (T1++T2) ad) st a->Lv F (λa=>B a\/a ∈ T1) (Gw T2 ad) st a:=λst a z=>by
 rcases z with(z|z)|z|z
 . exact .inl<|.inl z
 . exact .inl<|.inr<|.inl z
 . rcases zzM.mp z with z|z
   . exact .inl<|.inr<|.inr z
   . exact .inr<|.inl z
 . exact .inr<|.inr z
def Rel.hide(R:Rel K kd F B T ad as σ H):Rel K kd F (λa=>B a\/a ∈ T) [] ad as σ H where
 len:=R.len
 out:=R.out
 nd:=R.nd
 inj:=R.inj
 tnd:=zyI
 dis:=λ_ _ _ z=>nomatch z
 ftr:=R.ftr
 btr:=λa h=>by
  rcases h with h|h
  . obtain⟨h1,h2,h3⟩:=R.btr a h;exact⟨h1,h2,λz=>h3<|Gw.drop a z⟩
  . exact⟨(R.gtr a<|.inl h).1,(R.gtr a<|.inl h).2,λz=>z.elim ⋯ λ⟨j,y⟩=>R.dis j a y h⟩
 gtr:=λa h=>R.gtr a (Gw.drop a h)
 sl:=λi s e=>(R.sl i s e).lv BJ
def Rel.unhide(hn:T1.Nodup)(hb:∀a ∈ T1,¬B a)(R:Rel K kd F (λa=>B a\/a ∈ T1) T2 ad as σ H):Rel K kd F B (T1++T2) ad as σ H where
 len:=R.len
 out:=R.out
 nd:=R.nd
 inj:=R.inj
 tnd:=zxD.mpr ⟨hn,R.tnd,λa m b m' e=>by subst e;exact(R.btr a<|.inr m).2.2<|.inl m'⟩
 dis:=λi a m z=>by
  rcases zzM.mp z with z|z
  . exact(R.btr a<|.inr z).2.2<|.inr ⟨i,m⟩
  . exact R.dis i a m z
 ftr:=R.ftr
 btr:=λa h=>by
  obtain⟨h1,h2,h3⟩:=R.btr a<|.inl h;refine⟨h1,h2,λz=>?_⟩
  rcases z with z|z
  . rcases zzM.mp z with z|z
    . exact hb a z h
    . exact h3<|.inl z
  . exact h3 (.inr z)
 gtr:=λa h=>by
  rcases h with h|h
  . rcases zzM.mp h with h|h
    . exact⟨(R.btr a<|.inr h).1,(R.btr a<|.inr h).2.1⟩
    . exact R.gtr a<|.inl h
  . exact R.gtr a (.inr h)
 sl:=λi s e=>(R.sl i s e).lv Q_
theorem Rel.frz(R:Rel K kd F B T ad as σ H)(h:as[i]? = some (some o)):
 Rel K kd F B T (Zt ad i []) (as.set i<|some o.frz) σ H/\∃v,σ[i]? = some (some v)/\Rp K kd (Lv F B (Gw T<|Zt ad i []) o.str) H v o.toD:=by
 obtain⟨v,hv,ro⟩:=R.sl i _ h;have rp:Rp K kd (Lv F B (Gw T<|Zt ad i []) o.str) H v o.toD:=
  Ro.rp o.str (λst v d hs r=>r.less λa z=>z.elim (λy=>.inl<|y.elim (λx=>.inl ⟨hs x.1,x.2⟩) .inr) λy=>.inr<|ZW a y)
   (λa n z=>n<|z.elim (λy=>.inl<|y.elim (λx=>.inl ⟨rfl,x.2⟩) .inr) λy=>.inr<|ZW a y) id
   (λa m z=>by
    rcases z with(z|z)|z|⟨j,z⟩
    . exact(R.gtr a<|.inr ⟨i,m⟩).2 z.2
    . exact(R.btr a z).2.2<|.inr ⟨i,m⟩
    . exact R.dis i a m z
    . by_cases e:j=i
      . subst e;rw[zZ]at z;cases z
      . rw[ya e]at z;exact e<|R.inj j i a z m) ro
 have hi:=(zzG.mp h).1;refine⟨⟨by rw[zzU];exact R.len,λj hj=>?_,λj=>?_,λj k a h1 h2=>?_,R.tnd,λj a h1=>?_,R.ftr,λa h1=>?_,λa h1=>R.gtr a<|ZW a h1,λj s e=>?_⟩,v,hv,rp⟩
 . rw[zzU]at hj;rw[ya ⋯];exact R.out j hj
 . by_cases e:j=i
   . subst e;rw[zZ];exact zyI
   . rw[ya e];exact R.nd j
 . by_cases e:j=i
   . subst e;rw[zZ]at h1;cases h1
   . by_cases e':k=i
     . subst e';rw[zZ]at h2;cases h2
     . rw[ya e]at h1;rw[ya e']at h2;exact R.inj j k a h1 h2
 . by_cases e:j=i
   . subst e;rw[zZ]at h1;cases h1
   . rw[ya e]at h1;exact R.dis j a h1
 . obtain⟨b1,b2,b3⟩:=R.btr a h1;exact⟨b1,b2,λz=>b3<|ZW a z⟩
 . by_cases q:j=i
   . subst q;rw[zyJ hi]at e;cases e;rw[zZ];exact⟨v,hv,.lf rp⟩
   . rw[zzX<|Ne.symm q]at e;rw[ya q];exact(R.sl j s e).less ZW
def Rel.put(R:Rel K kd F B T ad as σ H)(hi:i<as.length)(h:vN K kd F B (Gw T ad) H v o T):Rel K kd F B [] (Zt ad i T) (as.set i<|some o) (σ.set i<|some v) H:=by
 have hi':i<σ.length:=by rwa [<-R.len]
 refine⟨by rw[zzU,zzU];exact R.len,λj hj=>?_,λj=>?_,λj k a h1 h2=>?_,zyI,(λ_ _ _ z=>nomatch z),R.ftr,λa h1=>?_,λa h1=>R.gtr a<|Xi a h1,λj s e=>?_⟩
 . rw[zzU]at hj;rw[ya ⋯];exact R.out j hj
 . by_cases e:j=i
   . subst e;rw[zZ];exact R.tnd
   . rw[ya e];exact R.nd j
 . by_cases e:j=i
   . subst e;rw[zZ]at h1
     by_cases e':k=j
     . exact e'.symm
     . rw[ya e']at h2;exact(R.dis k a h2 h1).elim
   . rw[ya e]at h1
     by_cases e':k=i
     . subst e';rw[zZ]at h2;exact(R.dis j a h1 h2).elim
     . rw[ya e']at h2;exact R.inj j k a h1 h2
 . obtain⟨b1,b2,b3⟩:=R.btr a h1;exact⟨b1,b2,λz=>b3<|Xi a z⟩
 . by_cases q:j=i
   . subst q;rw[zyJ hi]at e;cases e;rw[zZ,zyJ hi'];exact⟨v,rfl,h.less Xi⟩
   . rw[zzX<|Ne.symm q]at e;rw[ya q,zzX<|Ne.symm q];exact(R.sl j s e).less Xi
def JS(as:AS):RV->Option (O×AS)
 | .ow o=>some (o,as)
 | .bo i=>match as[i]? with
  |some (some o)=>some (o.frz,as.set i<|some o.frz)
  |_=>none
def PV(R:Rel K kd F B T ad as σ H)(h:xq K kd F B T ad σ H v r)(e:JS as r=some (o,as')):∃ad',Rel K kd F B T ad' as' σ H/\vN K kd F B (Gw T ad') H v o T/\∀a,Gw T ad' a->Gw T ad a:=by
 cases r with
 |ow o'=>cases e;exact⟨ad,R,h,λ_ z=>z⟩
 |bo i=>
  have e:(match as[i]? with|some (some o)=>some _|_=>none)=some _:=e;cases k:as[i]? with
  |none=>rw[k]at e;cases e
  |some s=>
   cases s with
   |none=>rw[k]at e;cases e
   |some o1=>
    rw[k]at e;cases e;obtain⟨hT,hs⟩:=h;subst hT;obtain⟨R',w,hw,rp⟩:=R.frz k;rw[hs]at hw;cases hw;exact⟨_,R',.lf rp,ZW⟩
end
abbrev TF:=AS->Option (Bool×AS)
def Ai(K:zzA)(kd:KD)(f:TF):TT:=λσ H Q=>∃F B ad as b as',Rel K kd F B [] ad as σ H/\f as=some (b,as')/\
 ∀ad' H',Rel K kd F B [] ad' as' σ H'->Grow (Gw [] ad) H (Gw [] ad') H'->Q b H'
@[irreducible] def AT(X:Cx)(kd:KD)(e:Expr)(f:TF):Prop:=PT X e<|Ai X.K kd f
@[irreducible] def AW(X:Cx)(kd:KD)(e:Expr)(f:TF):Prop:=PW X e<|Ai X.K kd f
def truth:D->Option Bool
 | .non=>some false
 | .bl b=>some b
 | .int i=>some<|i != 0
 | .str x=>if x.length<=sizeLine then some ((x.length:Int) != 0)else none
 | .tup ds=>some<|!ds.isEmpty
 | .lst ds=>some (!ds.isEmpty)
 |_=>none
def fT(f:EF):TF:=λas=>(f as).bind λp=>(p.1.frz.view p.2).bind λx=>(truth x.1).bind λb=>some (b,p.2)
def Pv(f g:TF):TF:=λas=>(f as).bind λp=>if p.1=true then g p.2 else some (false,p.2)
def GO(f g:TF):TF:=λas=>(f as).bind λp=>if p.1=true then some (true,p.2)else g p.2
def YC(f:TF):TF:=λas=>(f as).bind λp=>some (!p.1,p.2)
def Fg(c:TF)(f g:EF):EF:=λas=>(c as).bind λp=>if p.1=true then f p.2 else g p.2
def N0:D->Option Int
 | .int i=>some i
 |_=>none
def iE:D->Option Str
 | .str i=>some i
 |_=>none
def qP:D->Option (List D)
 | .lst i=>some i
 |_=>none
def jI:D->Option (List D)
 | .tup i=>some i
 |_=>none
def Pg(e:qP d=some i):d = .lst i:=by
 cases d with
 |lst j=>cases e;rfl
 |_=>cases e
def Ii(e:jI d=some i):d = .tup i:=by
 cases d with
 |tup j=>cases e;rfl
 |_=>cases e
def LR(h:N0 d=some c):d = .int c:=by
 cases d with
 |int i=>cases h;rfl
 |_=>cases h
def iA:D->Option Bool
 | .bl i=>some i
 |_=>none
def rK(h:iA d=some c):d = .bl c:=by
 cases d with
 |bl i=>cases h;rfl
 |_=>cases h
def j8:RV->Option D
 | .ow (.lf _ d)=>some d
 |_=>none
def C7(h:j8 r=some d):∃st,r = .ow (.lf st d):=by
 cases r with
 |bo i=>cases h
 |ow o=>
  cases o with
  |nd k os=>cases h
  |lf st d=>cases h;exact⟨st,rfl⟩
def jW(r:RV):Option Bool:=(j8 r).bind iA
def OD(h:jW r=some c):∃st,r = .ow (.lf st<|.bl c):=by
 obtain⟨d,h1,h⟩:=bS_ h;cases rK h;exact C7 h1
def ko(r:RV):Option Int:=(j8 r).bind N0
def Fl(h:ko r=some c):∃st,r = .ow (.lf st<|.int c):=by
 obtain⟨d,h1,h⟩:=bS_ h;cases LR h;exact C7 h1
def rW{α:Type}:List α->Option (α×α)
 | [a,b]=>some (a,b)
 |_=>none
def BX{α:Type}{os}{p:α×α}(h:rW os=some p):os=[p.1,p.2]:=by
 cases os with
 |nil=>cases h
 |cons x r=>
  cases r with
  |nil=>cases h
  |cons y r=>
   cases r with
   |nil=>cases h;rfl
   |cons _ _=>cases h
def Ff(f g:EF):EF:=λas=>(f as).bind λp=>(jW p.1).bind λc=>if c=true then g p.2 else some (.ow<|.lf true<|.bl false,p.2)
def Je(f:EF):EF:=λas=>(f as).bind λp=>(jW p.1).bind λc=>some (.ow<|.lf true<|.bl<|!c,p.2)
def f1(fa:EF)(g:D->Option R0):EF:=λas=>(fa as).bind λp=>(p.1.frz.view p.2).bind λx=>(g x.1).bind λr=>(wrap x.2 r).bind λz=>some (z,p.2)
section
variable{X:Cx}{kd:KD}{a b c:Expr}{fa fb:EF}{ta tb:TF}{pos:Pos}{es rest:List Expr}
def E3(h:PT X e t)(k:∀σ H Q,t' σ H Q->t σ H Q):PT X e t':=λpins s σ H Q I q=>h pins s σ H Q I<|k σ H Q q
def CH(h:PW X e t)(k:∀σ H Q,t' σ H Q->t σ H Q):PW X e t':=λw pins s σ H Q I q=>h w pins s σ H Q I<|k σ H Q q
def rG{O}(h:Vw X.K kd O H v d)(e:truth d=some k):qR X.K v H k:=by
 cases h with
 |non=>cases e;rfl
 |bl b=>cases e;rfl
 |int i=>cases e;rfl
 |str x=>
  have e:(if x.length<=sizeLine then some _ else none)=some k:=e
  by_cases hl:x.length<=sizeLine
  . rw[if_pos hl]at e;cases e;exact⟨hl,rfl⟩
  . rw[if_neg hl]at e;cases e
 |tup r hs hr=>
  cases e;refine .inr<|.inl ⟨_,hs, ?_⟩;cases hr<;>rfl
 |lst hs hr=>
  cases e;refine .inl ⟨_,hs.sq, ?_⟩;cases hr<;>rfl
 |dct=>cases e
 |cl=>cases e
 |ob=>cases e
def Nr(ha:AE X kd a fa)(he:∀whole,isTrue a X.env whole=(do let v <-whole;standAt a.pos;holding [v] (truthy v))):AT X kd a (fT fa):=by with_unfolding_all exact(E3 (C8 ha he) λσ H Q h=>by
 obtain⟨F,B,ad,as,bb,as',R,e,q⟩:=h;obtain⟨_,h1,e⟩:=bS_<|e;obtain⟨_,h2,e⟩:=bS_ e;obtain⟨k,h3,e⟩:=bS_ e;cases e;exact xS R h1 λv ad1 H1 R1 rv1 g1=>⟨_,rG (xq.vw R1 rv1 h2) h3,q ad1 H1 R1 g1⟩)
def sr(ho:uP X kd (compareOp op) g)(hg:∀x y r,g x y=some r->∃k,r = .im (.bl k))(ha:AE X kd a fa)(hb:AE X kd b fb)(hm:behindInMarks op b=false):
 AT X kd (.Compare a [op] [b] pos) (fT<|f2 fa fb g):=by with_unfolding_all exact(E3 (Di ho ha hb hm) λσ H Q h=>by
 obtain⟨F,B,ad,as,bb,as',R,e,q⟩:=h;obtain⟨⟨p,as1⟩,h1,e⟩:=bS_<|e;obtain⟨_,h2,e⟩:=bS_ e;obtain⟨k,h3,e⟩:=bS_ e;cases e;obtain⟨_,_,_,x,y,_,_,r0,_,_,_,_,hp,hw⟩:=Bw h1;obtain⟨k',rfl⟩:=hg _ _ _ hp;cases hw;cases h2;cases h3;refine kg (λ_ _ _ _ z=>z) ⟨F,B,ad,as,_,_,R,h1,λv T' ad' H' R' rv g'=>?_⟩;cases rv with
 |lf rp=>
  cases rp;exact⟨_,rfl,q ad' H' R' g'⟩)
def Np(ha:AT X kd a ta):AT X kd (.UnaryOp .Not a pos) (YC ta):=by with_unfolding_all exact(E3 (qY ha) λσ H Q h=>by
 obtain⟨F,B,ad,as,bb,as',R,e,q⟩:=h;obtain⟨⟨p,as1⟩,h1,e⟩:=bS_<|e;cases e;exact⟨F,B,ad,as,p,_,R,h1,λad' H' R' g=>q ad' H' R' g⟩)
def Xo(ha:AT X kd a ta):AW X kd (.BoolOp .And [a] pos) ta:=by with_unfolding_all exact(Al ha)
def Vd(ha:AT X kd a ta):AW X kd (.BoolOp .Or [a] pos) ta:=by with_unfolding_all exact(sR ha)
def NU(ha:AT X kd a ta)(hb:AW X kd (.BoolOp .And (b::rest) pos) tb):AW X kd (.BoolOp .And (a::b::rest) pos) (Pv ta tb):=by with_unfolding_all exact(CH (rY ha hb) λσ H Q h=>by
 obtain⟨F,B,ad,as,bb,as',R,e,q⟩:=h;obtain⟨⟨p,as1⟩,h1,e⟩:=bS_<|e;refine⟨F,B,ad,as,p,as1,R,h1,λad' H' R' g=>?_⟩;cases p with
 |true=>exact⟨F,B,ad',as1,bb,as',R',e,λad2 H2 R2 g2=>q ad2 H2 R2<|g.trans g2⟩
 |false=>cases e;exact q ad' H' R' g)
def MR(ha:AT X kd a ta)(hb:AW X kd (.BoolOp .Or (b::rest) pos) tb):AW X kd (.BoolOp .Or (a::b::rest) pos) (GO ta tb):=by with_unfolding_all exact(CH (nG ha hb) λσ H Q h=>by
 obtain⟨F,B,ad,as,bb,as',R,e,q⟩:=h;obtain⟨⟨p,as1⟩,h1,e⟩:=bS_<|e;refine⟨F,B,ad,as,p,as1,R,h1,λad' H' R' g=>?_⟩;cases p with
 |false=>exact⟨F,B,ad',as1,bb,as',R',e,λad2 H2 R2 g2=>q ad2 H2 R2<|g.trans g2⟩
 |true=>cases e;exact q ad' H' R' g)
def AW.at_(h:AW X kd e ta):AT X kd e ta:=by with_unfolding_all exact(PW.pt h)
def lI(hc:AT X kd c ta)(ha:AE X kd a fa)(hb:AE X kd b fb):AE X kd (.IfExp c a b pos) (Fg ta fa fb):=by with_unfolding_all exact(yb (Js hc ha hb) λσ H Q h=>by
 obtain⟨F,B,ad,as,r,as',R,e,q⟩:=h;obtain⟨⟨p,as1⟩,h1,e⟩:=bS_<|e;refine⟨F,B,ad,as,p,as1,R,h1,λad' H' R' g=>?_⟩;cases p with
 |true=>exact⟨F,B,ad',as1,r,as',R',e,λv T2 ad2 H2 R2 rv g2=>q v T2 ad2 H2 R2 rv<|g.trans g2⟩
 |false=>exact⟨F,B,ad',as1,r,as',R',e,λv T2 ad2 H2 R2 rv g2=>q v T2 ad2 H2 R2 rv<|g.trans g2⟩)
def uD{K ad st c}(h:xq K kd F B T ad σ H v (.ow<|.lf st<|.bl c)):T=[]/\v = .bl c:=by
 cases h with
 |lf rp=>cases rp;exact ⋯
def r_(ha:AE X kd a fa):AE X kd (.BoolOp op [a] pos) fa:=by with_unfolding_all exact ⋯
def u6(ha:AE X kd a fa)(hb:AE X kd (.BoolOp .And (b::rest) pos) fb):AE X kd (.BoolOp .And (a::b::rest) pos) (Ff fa fb):=by with_unfolding_all exact(yb (tX ha hb) λσ H Q h=>by
 obtain⟨F,B,ad,as,r,as',R,e,q⟩:=h;obtain⟨⟨p,as1⟩,h1,e⟩:=bS_<|e;refine⟨F,B,ad,as,p,as1,R,h1,λv T' ad' H' R' rv g=>?_⟩;obtain⟨k,e1,e⟩:=bS_ e;obtain⟨st,rfl⟩:=OD e1;obtain⟨rfl,rfl⟩:=uD rv;cases k with
 |true=>exact⟨true,rfl,⟨F,B,ad',as1,r,as',R',e,λv T2 ad2 H2 R2 rv g2=>q v T2 ad2 H2 R2 rv<|g.trans g2⟩⟩
 |false=>
  cases e;exact⟨false,rfl,q _ [] ad' H' R' (.lf<|.bl false) g⟩)
def qW(ha:AE X kd a fa):AE X kd (.UnaryOp .Not a pos) (Je fa):=by with_unfolding_all exact(yb (t7 ha) λσ H Q h=>by
 obtain⟨F,B,ad,as,r,as',R,e,q⟩:=h;obtain⟨⟨p,as1⟩,h1,e⟩:=bS_<|e;refine⟨F,B,ad,as,p,as1,R,h1,λv T' ad' H' R' rv g=>?_⟩;obtain⟨k,e1,e⟩:=bS_ e;obtain⟨st,rfl⟩:=OD e1;obtain⟨rfl,rfl⟩:=uD rv;cases e;exact⟨k,rfl,q _ [] ad' H' R' (.lf<|.bl _) g⟩)
def OS(ho:ik X kd (unaryOp op) g)(ha:AE X kd a fa):AE X kd (.UnaryOp op a pos) (f1 fa g):=by with_unfolding_all exact(yb (oF ho ha) λσ H Q h=>by
 obtain⟨F,B,ad,as,r,as',R,e,q⟩:=h;obtain⟨_,h1,e⟩:=bS_<|e;obtain⟨⟨x,lv⟩,h2,e⟩:=bS_ e;obtain⟨z,h3,e⟩:=bS_ e;obtain⟨y,h4,e⟩:=bS_ e;cases e;refine xS R h1 λv ad1 H1 R1 rv1 g1=>⟨_,x,z,R1.tr _,xq.vw R1 rv1 h2,h3,Zm R1 h4 λw T' H' R' rv' g'=>q w T' ad1 H' R' rv'<|g1.trans g'⟩)
end
abbrev AF:=AS->Option (List RV×AS)
inductive RVs(K:zzA)(kd:KD)(F B:Addr->Prop)(ad:Ad)(σ:St)(H:Hp):List V->List RV->Prop
 |nil:RVs K kd F B ad σ H [] []
 |cons {v:V}{r:RV}{vs:List V}{rs:List RV}:xq K kd F B [] ad σ H v r->RVs K kd F B ad σ H vs rs->RVs K kd F B ad σ H (v::vs) (r::rs)
def AB(K:zzA)(kd:KD)(f:AF):TA:=λσ H Q=>∃F B ad as rs as',Rel K kd F B [] ad as σ H/\f as=some (rs,as')/\
 ∀vs ad' H',Rel K kd F B [] ad' as' σ H'->RVs K kd F B ad' σ H' vs rs->Grow (Gw [] ad) H (Gw [] ad') H'->Q vs H'
@[irreducible] def AA(X:Cx)(kd:KD)(es:List Expr)(f:AF):Prop:=PA X es<|AB X.K kd f
def aN:AF:=λas=>some ([],as)
def aC(fa:EF)(fr:AF):AF:=λas=>(fa as).bind λp=>(fr p.2).bind λq=>some (p.1.frz::q.1,q.2)
def NL(h:PA X e t)(k:∀σ H Q,t' σ H Q->t σ H Q):PA X e t':=λpos pins s σ H Q I q=>h pos pins s σ H Q I<|k σ H Q q
abbrev DF:=AS->Option (List O×AS)
def iQ(K:zzA)(kd:KD)(f:DF):TA:=λσ H Q=>∃F B ad as os as',Rel K kd F B [] ad as σ H/\f as=some (os,as')/\
 ∀vs T' ad' H',Rel K kd F B T' ad' as' σ H'->wb K kd F B (Gw T' ad') H' vs os T'->Grow (Gw [] ad) H (Gw T' ad') H'->Q vs H'
@[irreducible] def AD(X:Cx)(kd:KD)(es:List Expr)(f:DF):Prop:=PA X es<|iQ X.K kd f
def dN:DF:=λas=>some ([],as)
def dC(fa:EF)(fr:DF):DF:=λas=>(fa as).bind λp=>(JS p.2 p.1).bind λx=>(fr x.2).bind λq=>some (x.1::q.1,q.2)
def views(as:AS):List RV->Option (List D×Option Bool)
 | []=>some ([],some true)
 |r::rs=>(r.view as).bind λx=>(views as rs).bind λy=>some (x.1::y.1,meet x.2 y.2)
def fP(fr:AF)(g:List D->Option R0):EF:=λas=>(fr as).bind λp=>(views p.2 p.1).bind λx=>(g x.1).bind λr=>(wrap x.2 r).bind λz=>some (z,p.2)
def ni(as:AS):RV->Option (Bool×D)
 | .ow o=>some (zE o.toD||o.str,o.toD)
 | .bo i=>match as[i]? with
  |some (some o)=>some (false,o.toD)
  |_=>none
def ZE(as:AS):List RV->Option (List<|Bool×D)
 | []=>some []
 |r::rs=>(ni as r).bind λx=>(ZE as rs).bind λy=>some (x::y)
def ze(fr:AF)(g:List (Bool×D)->Option O):EF:=λas=>(fr as).bind λp=>(ZE p.2 p.1).bind λx=>(g x).bind λo=>some (.ow o,p.2)
def jx(K:zzA)(kd:KD)(F:Addr->Prop)(H:Hp)(Q:VK)(o:O):Prop:=
 ∀v T H',T.Nodup->(∀a ∈ T,H a=none)->(∀b u,H b=some u->H' b=some u)->(∀a ∈ T,H' a≠none)->Ro (λ_ v d=>Rp K kd (Wj F (· ∈ T)) H' v d) (λa=>¬Wj F (· ∈ T) a) H' v o T->Q v H'
inductive RpA(K:zzA)(kd:KD)(F:Addr->Prop)(H:Hp):List V->List (Bool×D)->Prop
 |nil:RpA K kd F H [] []
 |cons {v:V}{st:Bool}{d:D}{vs:List V}{ds:List (Bool×D)}:Rp K kd (λa=>st=true/\F a) H v d->RpA K kd F H vs ds->RpA K kd F H (v::vs) ((st,d)::ds)
def XX(K:zzA)(kd:KD)(g:List (Bool×D)->Option O):Sp:=λvs H Q _=>∃F ds o,(∀a,F a->H a≠none)/\RpA K kd F H vs ds/\g ds=some o/\jx K kd F H Q o
def XC(os:List O):O:=if os.all O.isLf=true then .lf (O.strs os) (.tup<|O.toDs os)else .nd .tp os
def yL(fr:DF):EF:=λas=>(fr as).bind λp=>if p.1.length<=sizeLine then some (.ow<|XC p.1,p.2)else none
def yJ(fr:DF):EF:=λas=>(fr as).bind λp=>if p.1.length<=sizeLine then some (.ow<|.nd .ls p.1,p.2)else none
section
variable{X:Cx}{kd:KD}{a b c:Expr}{fa fb:EF}{ta tb:TF}{pos:Pos}{es rest:List Expr}{fr:AF}{fd:DF}
theorem RpA.length{K}(h:RpA K kd F H vs ds):vs.length=ds.length:=by
 induction h with
 |nil=>rfl
 |cons _ _ ih=>exact congrArg _ ih
def zS:AA X kd [] aN:=by with_unfolding_all exact(NL Us λσ H Q h=>by
 obtain⟨F,B,ad,as,rs,as',R,e,q⟩:=h;cases e;exact q [] ad H R .nil Grow.refl)
def Au(ha:AE X kd a fa)(hr:AA X kd es fr)(hs:starEach (a::es) X.env=(false,eval a X.env)::starEach es X.env):AA X kd (a::es) (aC fa fr):=by with_unfolding_all exact(NL (Xp ha hr hs) λσ H Q h=>by
 obtain⟨F,B,ad,as,rs,as',R,e,q⟩:=h;obtain⟨⟨p,as1⟩,h1,e⟩:=bS_<|e;obtain⟨⟨z,as2⟩,h2,e⟩:=bS_ e;cases e;refine xS R h1 λv ad1 H1 R1 rv1 g1=>⟨F,B,ad1,as1,z,_,R1,h2,λvs ad2 H2 R2 rv2 g2=>?_⟩;exact q _ ad2 H2 R2 (.cons (rv1.grow g2) rv2)<|g1.trans g2)
def vE:AD X kd [] dN:=by with_unfolding_all exact(NL Us λσ H Q h=>by
 obtain⟨F,B,ad,as,rs,as',R,e,q⟩:=h;cases e;exact q [] [] ad H R .nil Grow.refl)
def J3(ha:AE X kd a fa)(hr:AD X kd es fd)(hs:starEach (a::es) X.env=(false,eval a X.env)::starEach es X.env):AD X kd (a::es) (dC fa fd):=by with_unfolding_all exact(NL (Xp ha hr hs) λσ H Q h=>by
 obtain⟨F,B,ad,as,rs,as',R,e,q⟩:=h;obtain⟨⟨p,as1⟩,h1,e⟩:=bS_<|e;obtain⟨⟨o,as2⟩,h2,e⟩:=bS_ e;obtain⟨⟨os,as3⟩,h3,e⟩:=bS_ e;cases e;refine⟨F,B,ad,as,p,as1,R,h1,λv T1 ad1 H1 R1 rv1 g1=>?_⟩;obtain⟨ad2,R2,ro2,le2⟩:=PV R1 rv1 h2;refine⟨F,_,ad2,as2,os,_,R2.hide,h3,λvs T3 ad3 H3 R3 ro3 g3=>?_⟩;have kT:=λa m u e=>g3.keep a u e λz=>z.elim ⋯ λ⟨i,y⟩=>R2.dis i a y m;have r1:=vN.lv Q_<|vN.grow g3 kT<|vN.lv BJ ro2;have r3:=wb.lv Q_ ro3;refine q _ _ ad3 H3 (R3.unhide R2.tnd λa m z=>(R2.btr a z).2.2<|.inl m) (.cons r1 r3)<|(g1.trans<|Grow.less le2).trans ⟨λb u e n=>g3.keep b u e λz=>n<|Gw.drop b z,λb z=>?_⟩
 rcases z with z|z
 . rcases zzM.mp z with z|z
   . exact .inl<|.inl z
   . exact(g3.own b<|.inl z).elim (λy=>.inl<|Gw.drop b y) .inr
 . exact(g3.own b<|.inr z).elim (λy=>.inl<|Gw.drop b y) .inr)
def Wr(h:AD X kd es fd):AE X kd (.Tuple es x1 pos) (yL fd):=by with_unfolding_all exact(yb (rZ h) λσ H Q h=>by
 obtain⟨F,B,ad,as,r,as',R,e,q⟩:=h;obtain⟨⟨os,as1⟩,h1,e⟩:=bS_<|e;obtain⟨hz,e⟩:=zq e;cases e;refine⟨F,B,ad,as,os,_,R,h1,λvs T1 ad1 H1 R1 ro1 g1=>⟨by rw[ro1.length];exact hz,λp hp=>?_⟩⟩;have k:∀b o,H1 b=some o->upd H1 p (.tup vs) b=some o:=λb o hb=>by rwa [zF<|zY hb hp]
 obtain⟨R2,g2⟩:=R1.more k;have ro2:=wb.grow g2 (λa _ u h=>k a u h) ro1;have np:=λst z=>R1.trk st p z hp;refine q _ T1 ad1 _ R2 ?_<|g1.trans g2;unfold XC
 by_cases hl:os.all O.isLf=true
 . rw[if_pos hl];have:=OU ro2 hl;subst this;exact .lf<|.tup (np _) (.inl z8)<|Ub ro2 hl
 . rw[if_neg hl];exact .tp (np _) z8 ro2)
def Ws(h:AD X kd es fd):AE X kd (.List es pos) (yJ fd):=by with_unfolding_all exact(yb (sJ h) λσ H Q h=>by
 obtain⟨F,B,ad,as,r,as',R,e,q⟩:=h;obtain⟨⟨os,as1⟩,h1,e⟩:=bS_<|e;obtain⟨hz,e⟩:=zq e;cases e;refine⟨F,B,ad,as,os,_,R,h1,λvs T1 ad1 H1 R1 ro1 g1=>⟨by rw[ro1.length];exact hz,λp hp=>?_⟩⟩;have k:∀b o,H1 b=some o->upd H1 p (.lst vs) b=some o:=λb o hb=>by rwa [zF<|zY hb hp]
 obtain⟨R2,g2⟩:=R1.add (N:=[p]) ⋯ (λa m=>by rwa [zzR.mp m]) k (λa m=>by rw[zzR.mp m,z8];simp);exact q _ _ ad1 _ R2 (.ls z8<|wb.grow g2 (λa _ u h=>k a u h) ro1)<|g1.trans g2)
theorem VwL.less{K O O'}(g:∀a,O' a->O a)(h:VwL K kd O H vs ds):VwL K kd O' H vs ds:=by
 induction h with
 |nil=>exact .nil
 |cons h _ ih=>exact .cons (h.less g) ih
def Vb{K ad}(R:Rel K kd F B [] ad as σ H)(h:RVs K kd F B ad σ H vs rs)(e:views as rs=some (ds,lv)):VwL K kd (U6 F B (Gw [] ad) lv) H vs ds:=by
 induction h generalizing ds lv with
 |nil=>cases e;exact .nil
 |cons h t ih=>
  obtain⟨_,h1,e⟩:=bS_<|e;obtain⟨_,h2,e⟩:=bS_ e;cases e;exact .cons ((xq.vw R h h1).less U6.meet1)<|(ih h2).less U6.meet2
def il{R':List V->Hp->VK->Prop}(hr:∀vs H Q,(∃O ds r,(∀a,O a->H a≠none)/\VwL X.K kd O H vs ds/\g ds=some r/\RQ X.K kd O H Q r)->R' vs H Q)
 (h:al X.K kd (fP fr g) σ H Q):AB X.K kd fr σ H λvs H1=>R' vs H1 Q:=by
 obtain⟨F,B,ad,as,r,as',R,e,q⟩:=h;obtain⟨⟨p,as1⟩,h1,e⟩:=bS_<|e;obtain⟨⟨ds,lv⟩,h2,e⟩:=bS_ e;obtain⟨z,h3,e⟩:=bS_ e;obtain⟨y,h4,e⟩:=bS_ e;cases e;exact⟨F,B,ad,as,p,_,R,h1,λvs ad1 H1 R1 rv1 g1=>hr _ _ _ ⟨_,ds,z,R1.tr _,Vb R1 rv1 h2,h3,Zm R1 h4 λw T' H' R' rv' g'=>q w T' ad1 H' R' rv'<|g1.trans g'⟩⟩
def RX{K ad}(R:Rel K kd F B [] ad as σ H)(h:RVs K kd F B ad σ H vs rs)(e:ZE as rs=some ds):RpA K kd (Lv F B (Gw [] ad) true) H vs ds:=by
 induction h generalizing ds with
 |nil=>cases e;exact .nil
 |cons h t ih=>
  rename_i v r vs rs;obtain⟨_,h1,e⟩:=bS_<|e;obtain⟨ds,h2,e⟩:=bS_ e;cases e;refine .cons ?_<|ih h2;cases r with
  |ow o=>
   cases h1;cases hf:zE o.toD with
   |true=>exact(Pu h).flat hf
   |false=>
    refine(PC h).less λa z=>?_;have zs:o.str=true:=z.1;rw[zs];exact z.2
  |bo i=>
   have e:(match as[i]? with|some (some o)=>some _|_=>none)=some _:=h1;cases k:as[i]? with
   |none=>rw[k]at e;cases e
   |some s=>
    cases s with
    |none=>rw[k]at e;cases e
    |some o=>
     rw[k]at e;cases e;obtain⟨w,hw,ro⟩:=R.sl i _ k;rw[h.2]at hw;cases hw;exact(Pu ro).less λa z=>nomatch z.1
def FO{K ad}(R:Rel K kd F B [] ad as σ H)(q:∀v T' H',Rel K kd F B T' ad as σ H'->xq K kd F B T' ad σ H' v (.ow o)->Grow (Gw [] ad) H (Gw T' ad) H'->Q v H'):
 jx K kd (Lv F B (Gw [] ad) true) H Q o:=λv T H' hn hl k h1 ro=>by
 obtain⟨R',g⟩:=R.news hn hl k h1;have le:∀st a,Lv F B (Gw T ad) st a->Wj (Lv F B (Gw [] ad) true) _ a:=λst a z=>by
  rcases z with(z|z)|z|z
  . exact .inl<|.inl<|.inl ⟨rfl,z.2⟩
  . exact .inl<|.inl<|.inr z
  . exact .inr z
  . exact .inl<|.inr<|.inr z
 exact q v T H' R' (Ro.mono (λst v d r=>r.less<|le st) (λa vs n e=>⟨λz=>n<|le true a z,e⟩) (λ_ _ _ e=>e) ro) g
def qG(h:al X.K kd (ze fr g) σ H Q):CL (XX X.K kd g) [] E (AB X.K kd fr) σ H Q:=by
 obtain⟨F,B,ad,as,r,as',R,e,q⟩:=h;obtain⟨⟨p,as1⟩,h1,e⟩:=bS_<|e;obtain⟨ds,h2,e⟩:=bS_ e;obtain⟨o,h3,e⟩:=bS_ e;cases e;refine⟨F,B,ad,as,p,_,R,h1,λvs ad1 H1 R1 rv1 g1=>?_⟩;show XX X.K kd g _ H1 Q E;rw[zyD];exact⟨_,ds,o,R1.trk true,RX R1 rv1 h2,h3,FO R1 λw T' H' R' rv' g'=>q w T' ad1 H' R' rv'<|g1.trans g'⟩
end
inductive Out where
 |nx (as:AS)|rt (o:O)|bk (as:AS)|ct (as:AS)
abbrev SF:=AS->Option Out
structure RetOk(K:zzA)(kd:KD)(F:Addr->Prop)(T:List Addr)(H:Hp)(v:V)(o:O):Prop where
 nd:T.Nodup
 tr:∀a ∈ T,H a≠none
 ro:Ro (λ_ v d=>Rp K kd (Wj F (· ∈ T)) H v d) (λa=>¬Wj F (· ∈ T) a) H v o T
def Sd(K:zzA)(kd:KD)(F B:Addr->Prop)(ad:Ad)(H:Hp)(D:Ends):Out->Prop
 | .nx as'=>∀σ' ad' H',Rel K kd F B [] ad' as' σ' H'->Grow (Gw [] ad) H (Gw [] ad') H'->D.nx σ' H'
 | .bk as'=>∀σ' ad' H',Rel K kd F B [] ad' as' σ' H'->Grow (Gw [] ad) H (Gw [] ad') H'->D.bk σ' H'
 | .ct as'=>∀σ' ad' H',Rel K kd F B [] ad' as' σ' H'->Grow (Gw [] ad) H (Gw [] ad') H'->D.ct σ' H'
 | .rt o=>∀v T H',RetOk K kd F T H' v o->Grow (Gw [] ad) H (· ∈ T) H'->D.rt v H'
def be(K:zzA)(kd:KD)(f:SF):TS:=λD σ H=>∃F B ad as o,Rel K kd F B [] ad as σ H/\f as=some o/\Sd K kd F B ad H D o
@[irreducible] def Ld(X:Cx)(kd:KD)(st:Stmt)(f:SF):Prop:=PS X st<|be X.K kd f
@[irreducible] def Sx(X:Cx)(kd:KD)(st:List Stmt)(f:SF):Prop:=Nv X st<|be X.K kd f
def xm(h:PS X e t)(k:∀D σ H,t' D σ H->t D σ H):PS X e t':=λa s σ H D I q=>h a s σ H D I<|k D σ H q
def ZQ(h:Nv X e t)(k:∀D σ H,t' D σ H->t D σ H):Nv X e t':=λa s σ H D I q=>h a s σ H D I<|k D σ H q
def Sd.pre{K ad ad1 D}(g:Grow (Gw [] ad) H (Gw [] ad1) H1)(h:Sd K kd F B ad H D o):Sd K kd F B ad1 H1 D o:=by
 cases o with
 |nx as=>exact λσ' ad' H' R g'=>h σ' ad' H' R (g.trans g')
 |bk as=>exact λσ' ad' H' R g'=>h σ' ad' H' R (g.trans g')
 |ct as=>exact λσ' ad' H' R g'=>h σ' ad' H' R (g.trans g')
 |rt r=>exact λv T H' R g'=>h v T H' R<|g.trans g'
noncomputable def xj:SF:=λas=>some<|.nx as
def zl(f g:SF):SF:=λas=>(f as).bind λo=>match o with | .nx as'=>g as'|o=>some o
def xg(c:TF)(f g:SF):SF:=λas=>(c as).bind λp=>if p.1=true then f p.2 else g p.2
def yw(f:EF):SF:=λas=>(f as).bind λp=>some<|.nx p.2
def I_(as:AS):RV->Option O
 | .ow o=>if o.str=true then some o else none
 | .bo i=>match as[i]? with
  |some (some o)=>if o.str=true then some o else none
  |_=>none
def zv(f:EF):SF:=λas=>(f as).bind λp=>(I_ p.2 p.1).bind λo=>some<|.rt o
def zr(z:Bool)(i:Nat)(f:EF):SF:=λas=>(f as).bind λp=>(JS p.2 (if z=true then p.1.frz else p.1)).bind λx=>if i<x.2.length then some (.nx<|x.2.set i<|some x.1)else none
def Ro.strong(h:Ro L N H v o fp)(e:o.str=true):Ro (λst v d=>st=true/\L st v d) N H v o fp:=
 Ro.rec (motive_2:=λvs os fp _=>O.strs os=true->RoL _ N H vs os fp)
  (λh e=>.lf ⟨e,h⟩) (λh _ r e=>.ls h<|r e) (λh l _ r e=>.dc h l<|r e) (λc h l _ r e=>.ob ⟨rfl,c⟩ h l<|r e) (λn h _ r e=>.tp n h<|r e) (λ_=>.nil) (λ_ _ h r e=>.cons (h ((zyB _ _).mp e).1)<|r ((zyB _ _).mp e).2) h e
section
variable{K:zzA}{kd:KD}{F B:Addr->Prop}{T:List Addr}{ad ad1:Ad}{as as1:AS}{σ:St}{H H1:Hp}{v:V}{r:RV}{o:O}
def LM(R:Rel K kd F B T ad as σ H)(hn:T'.Nodup)(hs:∀a ∈ T',Gw T ad a)(h:vN K kd F B (Gw T ad) H v o T')(e:o.str=true):RetOk K kd F T' H v o:=by
 have b:∀a,Wj F _ a->Lv F B _ true a:=λa z=>z.elim (λy=>.inl<|.inl ⟨rfl,y⟩) λy=>.inr<|hs a y;exact⟨hn,λa m=>(R.gtr a<|hs a m).1,Ro.mono (λc v d r=>by obtain⟨rfl,r⟩:=r;exact r.less b) (λa f n e=>⟨λz=>n<|b a z,e⟩) (λ_ _ _ e=>e)<|Ro.strong h e⟩
def Rel.ret(R:Rel K kd F B T ad as σ H)(hr:xq K kd F B T ad σ H v r)(e:I_ as r=some o):∃T',RetOk K kd F T' H v o/\∀b ∈ T',Gw T ad b:=by
 cases r with
 |ow g=>
  obtain⟨c,rfl⟩:=zq e;exact⟨T,LM R R.tnd (λa m=>.inl m) hr c,λa m=>.inl m⟩
 |bo i=>
  have e:(match as[i]? with|some (some o)=>if o.str=true then some o else none|_=>none)=some o:=e;cases k:as[i]? with
  |none=>rw[k]at e;cases e
  |some s=>
   cases s with
   |none=>rw[k]at e;cases e
   |some h=>
    rw[k]at e;obtain⟨c,rfl⟩:=zq e;obtain⟨w,d,f⟩:=R.sl i _ k;rw[hr.2]at d;cases d;exact⟨ad i,LM R (R.nd i) (λa m=>.inr ⟨i,m⟩) f c,λa m=>.inr ⟨i,m⟩⟩
end
section
variable{X:Cx}{kd:KD}{st:Stmt}{sts rest:List Stmt}{a b c e:Expr}{fa fb:EF}{ta:TF}{pos:Pos}{f g:SF}
def ZR:Sx X kd [] xj:=by with_unfolding_all exact(ZQ RO λD σ H h=>by
 obtain⟨F,B,a,as,o,R,e,q⟩:=h;cases e;exact q σ a H R Grow.refl)
def yM(h1:Ld X kd st f)(h2:Sx X kd rest g):Sx X kd (st::rest) (zl f g):=by with_unfolding_all exact(ZQ (Yp h1 h2) λD σ H h=>by
 obtain⟨F,B,ad,as,o,R,e,q⟩:=h;obtain⟨o1,e1,e⟩:=bS_<|e;refine⟨F,B,ad,as,o1,R,e1, ?_⟩;cases o1 with
 |nx as1=>exact λσ' ad' H' R' g'=>⟨F,B,ad',as1,o,R',e,q.pre g'⟩
 |bk as1=>cases e;exact q
 |ct as1=>cases e;exact q
 |rt r=>cases e;exact q)
def xi(h1:Ld X kd st f):Sx X kd [st] f:=by with_unfolding_all exact(QM h1)
def Ik:SF:=λ_=>none
def lY:Ld X kd st Ik:=by with_unfolding_all exact(λa s σ H D I h=>by obtain⟨F,B,b,as,o,R,e,q⟩:=h;cases e)
def VJ(hc:AT X kd c ta)(ha:Sx X kd sts f)(hb:Sx X kd rest g):Ld X kd (.If c sts rest pos) (xg ta f g):=by with_unfolding_all exact(xm (BG hc ha hb) λD σ H h=>by
 obtain⟨F,B,i,as,o,R,e,q⟩:=h;obtain⟨⟨p,a⟩,j,e⟩:=bS_<|e;refine⟨F,B,i,as,p,a,R,j,λb k d g=>?_⟩;cases p with
 |true=>exact⟨F,B,b,a,o,d,e,q.pre g⟩
 |false=>exact⟨F,B,b,a,o,d,e,q.pre g⟩)
def DW(he:AE X kd e fa)(hs:swapsWith e none pos.line X.env=pure false):Ld X kd (.Expr e pos) (yw fa):=by with_unfolding_all exact(xm (Qv he hs) λD σ H h=>by
 obtain⟨F,B,c,as,o,R,e,q⟩:=h;obtain⟨⟨p,a⟩,d,e⟩:=bS_<|e;cases e;exact⟨F,B,c,as,p,a,R,d,λv j b f i k g=>q σ b f i.drop<|g.trans<|Grow.less Gw.drop⟩)
def Zv(he:AE X kd e fa):Ld X kd (.Return (some e) pos) (zv fa):=by with_unfolding_all exact(xm (CQ he) λD σ H h=>by
 obtain⟨F,B,b,as,o,R,e,q⟩:=h;obtain⟨⟨p,a⟩,c,e⟩:=bS_<|e;obtain⟨r,d,e⟩:=bS_ e;cases e;refine⟨F,B,b,as,p,a,R,c,λv s f i j k g=>?_⟩;obtain⟨l,m,n⟩:=j.ret k d;exact q v l i m<|g.trans<|Grow.less n)
def ET{K ad}{i:Nat}(R:Rel K kd F B T ad as σ H)(rv:xq K kd F B T ad σ H v r)
 (h2:JS as (if z=true then r.frz else r)=some (o,as2)) (hl:i<as2.length):∃ad',Rel K kd F B [] ad' (as2.set i<|some o) (σ.set i<|some v) H/\∀a,Gw [] ad' a->Gw T ad a:=by
 cases z with
 |true=>
  obtain⟨b,c,d,e⟩:=PV R.drop (xq.drop R rv) h2;exact⟨_,c.put hl d,λa y=>Gw.drop a<|e a<|Xi a y⟩
 |false=>
  obtain⟨b,c,d,e⟩:=PV R rv h2;exact⟨_,c.put hl d,λa y=>e a<|Xi a y⟩
def IY(hN:X.N.Nodup)(hi:X.N[i]? = some x)(hx:Loc X.env.scope x)(he:AE X kd e fa)(hs:swapsWith e (some<|.Name x pos') pos.line X.env=pure false)(hf:X.fn x=true\/X.env.scope.names.lookup x=some .local):
 Ld X kd (.Assign [.Name x pos'] e pos) (zr z i fa):=by with_unfolding_all exact(xm (Of hN hi hx he hs hf) λD σ H h=>by
 obtain⟨F,B,c,as,o,R,e,q⟩:=h;obtain⟨⟨p,a⟩,d,e⟩:=bS_<|e;obtain⟨_,j,e⟩:=bS_ e;obtain⟨k,e⟩:=zq e;cases e;refine⟨F,B,c,as,p,a,R,d,λv t l m n r g=>?_⟩;obtain⟨b,R2,s⟩:=ET n r j k;exact q _ b m R2<|g.trans<|Grow.less s)
end
def vX(n:Nat)(ds:List (Bool×D)):AS:=ds.map (λx=>some<|.lf x.1 x.2)++List.replicate (n-ds.length) none
def jz:Out->Option O
 | .nx _=>some<|.lf true .non
 | .rt o=>some o
 |_=>none
def xZ(n m:Nat)(f:SF)(ds:List (Bool×D)):Option O:=if ds.length=m then(f<|vX n ds).bind jz else none
theorem RpA.get{K}:∀{vs:List V}{ds:List (Bool×D)}{i:Nat}{x:Bool×D},RpA K kd F H vs ds->ds[i]? = some x->∃v,vs[i]? = some v/\Rp K kd (λa=>x.1=true/\F a) H v x.2
 |_,_,_,_,.nil,e=>by simp at e
 |_,_,0,_,.cons h _,e=>by simp at e;subst e;exact⟨_,rfl,h⟩
 |_,_,i+1,_,.cons _ r,e=>by
  obtain⟨v,b,c⟩:=RpA.get r ⋯;exact⟨v,⋯,c⟩
def Hi{K}(ht:∀a,F a->H a≠none)(rp:RpA K kd F H vs ds):
 Rel K kd F (λ_=>False) [] (λ_=>[]) (vX N.length ds) (L2.start N vs) H:=by
 have c:=rp.length;have f:∀a,¬Gw [] (λ_=>[]) a:=λa z=>z.elim ⋯ λ⟨_,y⟩=>nomatch y;refine⟨by unfold vX L2.start;simp[c],λ_ _=>rfl,λ_=>zyI,(λ_ _ _ z=>nomatch z),zyI,(λ_ _ _ z=>nomatch z),ht,⋯,λa z=>(f a z).elim,λi s e=>?_⟩;unfold vX at e;unfold L2.start
 by_cases g:i<ds.length
 . rw[zyO (by rwa [zzB]),zzI]at e;obtain⟨d,h,b⟩:=zzW.mp e;subst b;obtain⟨v,j,k⟩:=rp.get h;rw[zyO (by rwa [zzB,c]),zzI,j];refine⟨v,rfl,.lf<|k.less λa z=>?_⟩
   rcases z with(z|z)|z
   . exact z
   . exact z.elim
   . exact(f a z).elim
 . rw[zyQ<|by rw[zzB];exact q0r g]at e;have:=zzZ e;have b:=(List.mem_replicate.mp this).2;subst b;rfl
section
variable{P:Program}{w:World}{K:zzA}{mg:Str->Option Value}{base:Heap}
def ON(q:jx K kd F H Q o)(ro:RetOk K kd F T H' v o)(g:Grow (Gw [] λ_=>[]) H (· ∈ T) H'):Q v H':=by
 have c:∀a,¬Gw [] (λ_=>[]) a:=λa z=>z.elim ⋯ λ⟨_,y⟩=>nomatch y;exact q v T H' ro.nd (λa m=>(g.own a m).resolve_left<|c a) (λb u h=>g.keep b u h<|c b) ro.tr ro.ro
def O3{st}{k:Nat}(Fn:Fun K x qual st f fd)(S:FnScope N ps (zR st))
 (hb:∀(cdv:Value) (A:Around) (outer:List Env) (s:Shared) (H:Hp) (E:XK),Room k (A.deeper<|envOfC qual (zR st) s.heap.objs.size f cdv)->Sx (RA Ys P w K mg base N qual (zR st) f cdv A outer s H E).nox kd (v7 st) c):
 FnOk P w K mg base Ys (k+1) f fd ps (XX K kd<|xZ N.length ps.length c):=by
 with_unfolding_all (
 refine Fn.ok S (λvs H Q E h=>?_) λcdv A outer s H vs Q E hr h=>⟨_,hb cdv A outer s H E hr, ?_⟩
 . obtain⟨F,ds,r,_,rp,e,_⟩:=h;unfold xZ at e
   by_cases hl:ds.length=ps.length
   . rw[rp.length,hl]
   . rw[if_neg hl]at e;cases e
 . obtain⟨F,ds,r,ht,rp,e,q⟩:=h;unfold xZ at e
   by_cases hl:ds.length=ps.length
   . rw[if_pos hl]at e;obtain⟨o,e1,e⟩:=bS_ e;refine⟨F,λ_=>False,λ_=>[],vX N.length ds,o,Hi ht rp,e1, ?_⟩;cases o with
     |nx as=>cases e;exact λσ' ad' H' R g=>ON q ⟨zyI,⋯,.lf .non⟩ (g.trans<|Grow.less ⋯)
     |rt o=>cases e;exact λv T H' ro g=>ON q ro g
     |bk=>cases e
     |ct=>cases e
   . rw[if_neg hl]at e;cases e)
end
abbrev wB:=Bool×D
abbrev GF:=wB->AS->Option AS
abbrev ub:=List wB->AS->Option AS
def kids(st:Bool)(ds:List D):List wB:=ds.map λd=>(zE d||st,d)
inductive RpI(K:zzA)(kd:KD)(F B G:Addr->Prop)(H:Hp):List V->List wB->Prop
 |nil:RpI K kd F B G H [] []
 |cons {v:V}{x:wB}{vs:List V}{ds:List wB}:Rp K kd (Lv F B G x.1) H v x.2->RpI K kd F B G H vs ds->RpI K kd F B G H (v::vs) (x::ds)
def ke(K:zzA)(kd:KD)(S:List Nat)(g:GF):TG:=λv σ H Q=>∃F B ad as x as',Rel K kd F B [] ad as σ H/\Rp K kd (Lv F B (Gw [] ad) x.1) H v x.2/\g x as=some as'/\
 ∀σ' ad' H',Rel K kd F B [] ad' as' σ' H'->Grow (Gw [] ad) H (Gw [] ad') H'->(∀j,j ∉ S->σ'[j]? = σ[j]?)->Q σ' H'
def jr(K:zzA)(kd:KD)(S:List Nat)(g:ub):tD:=λvs σ H Q=>∃F B ad as ds as',Rel K kd F B [] ad as σ H/\RpI K kd F B (Gw [] ad) H vs ds/\g ds as=some as'/\
 ∀σ' ad' H',Rel K kd F B [] ad' as' σ' H'->Grow (Gw [] ad) H (Gw [] ad') H'->(∀j,j ∉ S->σ'[j]? = σ[j]?)->Q σ' H'
@[irreducible] def AG(X:Cx)(kd:KD)(tg:Expr)(S:List Nat)(g:GF):Prop:=PG X tg<|ke X.K kd S g
@[irreducible] def uv(X:Cx)(kd:KD)(tg:List Expr)(S:List Nat)(g:ub):Prop:=um X tg<|jr X.K kd S g
def qy(h:PG X e t)(k:∀v σ H Q,t' v σ H Q->t v σ H Q):PG X e t':=λa s σ H v u Q I r q=>h a s σ H v u Q I r<|k v σ H Q q
def So(h:um X e t)(k:∀v σ H Q,t' v σ H Q->t v σ H Q):um X e t':=λa s σ H v u Q I r q=>h a s σ H v u Q I r<|k v σ H Q q
def gN(i:Nat):GF:=λx as=>if i<as.length then some (as.set i<|some<|.lf x.1 x.2)else none
def Ej:ub:=λds as=>match ds with | []=>some as|_::_=>none
def Wp(g:GF)(gs:ub):ub:=λds as=>match ds with | []=>none|d::r=>(g d as).bind λas1=>gs r as1
def gT(n:Nat)(gs:ub):GF:=λx as=>match x.2 with
 | .tup ds=>if ds.length=n then gs (kids x.1 ds) as else none
 | .lst ds=>if ds.length=n then gs (kids x.1 ds) as else none
 |_=>none
section
variable{K:zzA}{kd:KD}{F B G G':Addr->Prop}{H H':Hp}
theorem RpI.length(h:RpI K kd F B G H vs ds):vs.length=ds.length:=by
 induction h with
 |nil=>rfl
 |cons _ _ a=>exact congrArg _ a
theorem RpI.grow(g:Grow G H G' H')(h:RpI K kd F B G H vs ds):RpI K kd F B G' H' vs ds:=by
 induction h with
 |nil=>exact .nil
 |cons h _ a=>exact .cons (Rp.grow g h) a
def RpI.get{i:Nat}(h:RpI K kd F B G H vs ds)(e:ds[i]? = some x):∃v,vs[i]? = some v/\Rp K kd (Lv F B G x.1) H v x.2:=by
 induction h generalizing i with
 |nil=>simp at e
 |cons h r a=>
  cases i with
  |zero=>simp at e;subst e;exact⟨_,rfl,h⟩
  |succ i=>
   obtain⟨v,b,c⟩:=a ⋯;exact⟨v,⋯,c⟩
def W5{st}(h:RpL K kd (Lv F B G st) H vs ds):RpI K kd F B G H vs (kids st ds):=
 RpL.ind (P:=λa b=>RpI K kd F B G H a<|kids st b) .nil (λ{v d a b} h _ c=>by
  refine .cons (x:=(zE d||st,d)) ?_ c;cases e:zE d with
  |true=>exact h.flat e
  |false=>exact h) h
end
section
variable{prog:Program}{w:World}{A:Around}{E:Value->Shared->Prop}{s:Shared}
theorem K1(hne:l≠it):∀(n i:Nat) (s:Shared) (Q:List Value->Shared->Prop),s.heap.IsListIter it l i->s.heap.IsList l items->i+n<=items.size->
 (∀h',h'.IsListIter it l (i+n)->Heap.SameBut it s.heap h'->Q ((items.toList.drop i).take n) {s with heap:=h'})->wpAny (model prog w) A (draw (.ref it) n) Q E s
 |0,i,s,Q,a,_,_,f=>zxF (by simpa using f s.heap a (Heap.SameBut.refl ..))
 |n+1,i,s,Q,a,h,j,f=>by
  have b:i<items.size:=⋯;refine zxE<|wpAny_pyNext_list_item a h (x:=items[i]) ⋯ λo c d=>?_;refine zxE<|zxJ<|K1 hne n _ _ _ c (h.extBut d.extBut hne) ⋯ λk e g=>zxF ?_;have m:items.toList.drop i=items[i]::items.toList.drop (i+1):=by simp[zyP,b]
  have:=f k (by rwa [show i+_=i+1+n from q0j])<|d.trans g
  rwa [m]at this
def Eb(hh:A.handled=none)(ht:s.heap.IsList l items)
 (hn:targets.length=items.size) (hstar:targets.findIdx? (·.1)=none)
 (h:∀h',Heap.ExtBut s.heap.objs.size s.heap h'->wpAny (model prog w) A (assignInOrder (targets.map (·.2)) items.toList) Q E {s with heap:=h'}):
 wpAny (model prog w) A (unpack (.ref l) targets) Q E s:=by
 unfold unpack;rw[hn,hstar];refine zxE<|zxJ ?_;have a:l≠s.heap.objs.size:=by obtain⟨o,k,_⟩:=ht;exact zzQ<|zxH k
 refine zxE ?_;refine zxE<|wpAny_specialOf ht.typeIs PySem.F.slot_list_iter.lookup ?_;refine zxF ?_;refine zxE<|zxJ<|wpAny_pyIter_list ht ?_;refine zxE<|zxJ<|K1 a items.size 0 _ _ ⟨_,zxI _ rfl,rfl,rfl⟩ (ht.push _) ⋯ λm c d=>?_;have f:List.take items.size (List.drop 0 items.toList)=items.toList:=List.take_of_length_le ⋯;rw[f];rw[if_neg ⋯];have g:=(ht.push _).extBut d.extBut a;refine zxE<|zxJ<|wpAny_pyNext_list_end hh c g ⋯ λn i=>?_;exact zxF<|h n λb o j e=>i b o j<|d.extBut b o j<|zxG _ e
end
section
variable{X:Cx}{kd:KD}{a b c e tg iter:Expr}{es:List Expr}{body:List Stmt}{fa fb:EF}{pos:Pos}{g:GF}{gs:ub}{f:SF}{ta:TF}{S S1 S2:List Nat}
def kH(K:zzA)(n:Nat)(t:tD):TG:=λv σ H Q=>∃a xs,v = .ref a/\Pc K H a xs/\xs.length=n/\t xs σ H Q
def Jt(hc:X.calm=true)(h:um X es t)(hn:(assignEach es X.env).length=n)(hst:(assignEach es X.env).findIdx? (·.1)=none):PG X (.Tuple es k pos) (kH X.K n t):=by
 intro c s σ H v u Q I r d;obtain⟨a,g,i,j,l,d⟩:=d;subst i;cases r;obtain⟨m,f,p,y⟩:=I.list j;refine zxE<|wpAny_standAt<|Eb (I.ok.hd hc) p.isList (by simp[hn,<-l,f.length]) hst λq w=>?_;have x:=I.kept (t':=s.toks) λb o e=>w b o (zzQ<|zxH e) e;exact h c _ σ H g _ Q x ⋯ d
def SB(hN:X.N.Nodup)(hi:X.N[i]? = some x)(hx:Loc X.env.scope x)(hf:X.fn x=true\/X.env.scope.names.lookup x=some .local):AG X kd (.Name x pos) [i] (gN i):=by with_unfolding_all exact(qy (J0 hN hi hx hf) λv σ H Q h=>by
 obtain⟨F,B,f,as,y,a,R,b,e,q⟩:=h;obtain⟨c,e⟩:=zq e;cases e;exact q _ _ H (R.put c<|.lf b) (Grow.less Xi) λj d=>zzX λz=>d<|by rw[z];simp)
def Va:uv X kd [] [] Ej:=by with_unfolding_all exact(So DM λd σ H Q h=>by
 obtain⟨F,B,a,as,f,b,R,c,e,q⟩:=h;cases c with
 |nil=>cases e;exact⟨rfl,q σ a H R Grow.refl λ_ _=>rfl⟩
 |cons=>cases e)
def xQ(h1:AG X kd a S1 g)(h2:uv X kd es S2 gs)(hs:(assignEach (a::es) X.env).map (·.2)=assign a X.env::(assignEach es X.env).map (·.2)):uv X kd (a::es) (S1++S2) (Wp g gs):=by with_unfolding_all exact(So (Ol h1 h2 hs) λx σ H Q h=>by
 obtain⟨F,B,l,as,y,c,R,m,e,q⟩:=h;cases m with
 |nil=>cases e
 |cons r n=>
  obtain⟨b,o,e⟩:=bS_<|e;refine⟨_,_,rfl,F,B,l,as,_,b,R,r,o,λA d C p i s=>?_⟩;exact⟨F,B,d,b,_,c,p,n.grow i,e,λt f u R2 v w=>q t f u R2 (i.trans v) λj k=>(w j λz=>k<|zzL _ z).trans<|s j λz=>k<|zzP _ z⟩)
def Ul{k n:Nat}(hc:X.calm=true)(h:uv X kd es S gs)(hn:(assignEach es X.env).length=n)(hst:(assignEach es X.env).findIdx? (·.1)=none):AG X kd (.Tuple es k pos) S (gT n gs):=by
 with_unfolding_all (
 intro pins s σ H v u Q I r hw;obtain⟨F,B,ad,as,⟨st,d⟩,as',R,rp,e,q⟩:=hw;cases d with
 |tup ds=>
  have e:(if ds.length=n then gs _ as else none)=some as':=e
  by_cases hl:ds.length=n
  . rw[if_pos hl]at e;have go:∃a xs,v = .ref a/\V_ X.K H a xs/\RpL X.K kd (Lv F B (Gw [] ad) st) H xs ds:=by
     cases rp with
     |tup n h r=>exact⟨_,_,rfl,.inl h,r⟩
     |tupK a b c e f r=>exact⟨_,_,rfl,.inr ⟨_,_,_,a,b,c,e,f⟩,r⟩
    obtain⟨a,xs,rfl,hs,rl⟩:=go;exact ql hc h hn hst pins s σ H _ u Q I r ⟨a,xs,rfl,hs,by rw[rl.length,hl],F,B,ad,as,_,as',R,W5 rl,e,q⟩
  . rw[if_neg hl]at e;cases e
 |lst ds=>
  have e:(if ds.length=n then gs _ as else none)=some as':=e
  by_cases hl:ds.length=n
  . rw[if_pos hl]at e;cases rp with
    |lstK a b c r'=>exact Jt hc h hn hst pins s σ H _ u Q I r ⟨_,_,rfl,.inr ⟨_,_,_,a,rfl,rfl,rfl,b,c⟩,by rw[r'.length,hl],F,B,ad,as,_,as',R,W5 r',e,q⟩
    |lst n h' r'=>exact Jt hc h hn hst pins s σ H _ u Q I r ⟨_,_,rfl,.inl h',by rw[r'.length,hl],F,B,ad,as,_,as',R,W5 r',e,q⟩
  . rw[if_neg hl]at e;cases e
 |_=>cases e)
def Y8(as:AS)(r:RV):Option (wB×AS):=(JS as r.frz).bind λx=>match x.1 with | .lf st d=>some ((st,d),x.2)|_=>none
def ZV{K ad}(R:Rel K kd F B T ad as σ H)(h:xq K kd F B T ad σ H v r)(e:Y8 as r=some (x,as')):
 ∃ad',Rel K kd F B [] ad' as' σ H/\Rp K kd (Lv F B (Gw [] ad') x.1) H v x.2/\∀a,Gw [] ad' a->Gw T ad a:=by
 obtain⟨⟨o,c⟩,f,e⟩:=bS_ e;obtain⟨b,g,i,j⟩:=PV R.drop (xq.drop R h) f;cases o with
 |lf l d=>
  cases e;refine⟨b,g, ?_,λa y=>Gw.drop a<|j a y⟩;have:=PC i;exact this
 |nd k m=>cases e
def XW(f:EF)(g:GF):SF:=λas=>(f as).bind λp=>(Y8 p.2 p.1).bind λq=>(g q.1 q.2).bind λas'=>some<|.nx as'
def L_(he:AE X kd e fa)(hg:AG X kd tg S g)(hs:swapsWithSole [tg] e pos.line X.env=pure false)(hw:swappedStores [tg] e X.env=pure none)(h1:(assignEach [tg] X.env).map (·.2)=[assign tg X.env]):
 Ld X kd (.Assign [tg] e pos) (XW fa g):=by with_unfolding_all exact(xm (Lw he hg hs hw h1) λD σ H h=>by
 obtain⟨F,B,ad,as,o,R,e,q⟩:=h;obtain⟨⟨p,as1⟩,h1,e⟩:=bS_<|e;obtain⟨⟨x,as2⟩,h2,e⟩:=bS_ e;obtain⟨as3,h3,e⟩:=bS_ e;cases e;refine⟨F,B,ad,as,p,as1,R,h1,λv T' ad' H' R' rv g1=>?_⟩;obtain⟨ad2,R2,rp,le⟩:=ZV R' rv h2;exact⟨F,B,ad2,as2,_,as3,R2,rp,h3,λσ' ad' H' R' g' _=>q σ' ad' H' R'<|(g1.trans<|Grow.less le).trans g'⟩)
structure ItOk(K:zzA)(kd:KD)(F B:Addr->Prop)(ad:Ad)(H:Hp)(J:It)(ds:List wB):Prop where
 all:∀(ad2:Ad) (H2:Hp),Grow (Gw [] ad) H (Gw [] ad2) H2->(∀st a,Lv F B (Gw [] ad2) st a->H2 a≠none)->∀i,(i<ds.length->J.go i H2)/\(ds.length<=i->J.stop i H2)/\
  ∀v H3,J.yld i H2 v H3->(∀b o,H2 b=some o->H3 b=some o)/\∀x,ds[i]? = some x->Rp K kd (Lv F B (Gw [] ad2) x.1) H3 v x.2
abbrev IF:=AS->Option (List wB×AS)
def gP(K:zzA)(kd:KD)(f:IF):TI:=λσ H R=>∃F B ad as ds as',Rel K kd F B [] ad as σ H/\f as=some (ds,as')/\
 ∀J ad' H',Rel K kd F B [] ad' as' σ H'->Grow (Gw [] ad) H (Gw [] ad') H'->ItOk K kd F B ad' H' J ds->R J H'
@[irreducible] def AI(X:Cx)(kd:KD)(tg iter:Expr)(f:IF):Prop:=PI X tg iter<|gP X.K kd f
def forL(g:GF)(f:SF):List wB->AS->Option Out
 | [],as=>some (.nx as)
 |d::r,as=>(g d as).bind λas1=>(f as1).bind λo=>match o with
  | .nx as'=>forL g f r as'
  | .ct as'=>forL g f r as'
  | .bk as'=>some<|.nx as'
  | .rt r=>some<|.rt r
def y9(fi:IF)(g:GF)(f:SF):SF:=λas=>(fi as).bind λp=>forL g f p.1 p.2
def NA(hp:PassesOwn (model X.prog X.w) X.A X.env X.xe)(hc:X.calm=true)(hi:AI X kd tg iter fi)(hg:AG X kd tg S g)(hb:Sx X kd body f)(hs:∀x,foldedSetIterable iter X.env x=pure x):
 Ld X kd (.For tg iter body [] pos) (y9 fi g f):=by with_unfolding_all exact(xm (OI hp hc hi hg hb hs) λD σ H h=>by
 obtain⟨F,B,ad,as,o,R,e,q⟩:=h;obtain⟨⟨ds,as1⟩,h1,e⟩:=bS_<|e;refine⟨F,B,ad,as,ds,as1,R,h1,λJ ad1 H1 R1 g1 it=>?_⟩;refine⟨λi m σ2 H2=>m+i=ds.length/\∃ad2 as2,Rel X.K kd F B [] ad2 as2 σ2 H2/\Grow _ H1 (Gw [] ad2) H2/\forL g f (ds.drop i) as2=some o,⟨ds.length,rfl,ad1,as1,R1,Grow.refl,e⟩, ?_⟩
 rintro i m σ2 H2 ⟨hm,ad2,as2,R2,g2,e2⟩
 obtain⟨k1,k2,k3⟩:=it.all ad2 H2 g2 R2.trk i
 by_cases hi:i<ds.length
 . refine .inr ⟨k1 hi,λσ3 H3=>∃ad3 as3,Rel X.K kd F B [] ad3 as3 σ3 H3/\Grow _ H1 _ H3/\forL g f _ as3=some o,λσ3 H3 ⟨ad3,as3,R3,g3,e3⟩=>⟨m-1,⋯,⋯,ad3,as3,R3,g3,e3⟩,λv H3 hy=>?_⟩;obtain⟨kp,rp⟩:=k3 v H3 hy;rw[zyP hi]at e2;obtain⟨as3,e3,e2⟩:=bS_<|e2;obtain⟨o3,e4,e2⟩:=bS_ e2;obtain⟨R3,g3⟩:=R2.more kp;refine⟨F,B,ad2,as2,_,as3,R3,rp _<|zzE hi,e3,λσ4 ad4 H4 R4 g4 _=>?_⟩;refine⟨F,B,ad4,as3,o3,R4,e4, ?_⟩;have gg:=(g2.trans g3).trans g4;cases o3 with
   |nx as5=>exact λσ5 ad5 H5 R5 g5=>⟨ad5,as5,R5,gg.trans g5,e2⟩
   |ct as5=>exact λσ5 ad5 H5 R5 g5=>⟨ad5,as5,R5,gg.trans g5,e2⟩
   |bk as5=>
    cases e2;exact λσ5 ad5 H5 R5 g5=>q σ5 ad5 H5 R5 (g1.trans<|gg.trans g5)
   |rt r=>
    cases e2;exact λv T H5 ro g5=>q v T H5 ro<|g1.trans<|gg.trans g5
 . refine .inl ⟨k2 ⋯, ?_⟩;rw[List.drop_eq_nil_of_le ⋯]at e2;cases e2;exact q σ2 ad2 H2 R2<|g1.trans g2)
def PZ:wB->Option (List wB)
 |(st,.lst ds)=>some (kids st ds)
 |(st,.tup ds)=>some (kids st ds)
 |_=>none
def Yd(f:EF):IF:=λas=>(f as).bind λp=>(Y8 p.2 p.1).bind λq=>(PZ q.1).bind λds=>some (ds,q.2)
def SK{K ad a}(hs:∀(ad3:Ad) (H3:Hp),Grow (Gw [] ad) H (Gw [] ad3) H3->Pc K H3 a vs)(r:RpI K kd F B (Gw [] ad) H vs ds):ItOk K kd F B ad H (kq K a) ds:=⟨λc j h _ i=>by
 have b:=hs c j h;have e:=r.grow h;refine⟨λf=>?_,λf=>⟨_,b,by rwa [r.length]⟩,λv o k=>?_⟩
 . obtain⟨u,g,_⟩:=r.get<|zzE f;exact⟨_,u,b,g⟩
 . obtain⟨rfl,l⟩:=k;refine⟨λ_ _ z=>z,λd m=>?_⟩;obtain⟨u,g,n⟩:=e.get m;have:=l _ b;rw[g]at this;cases this;exact n⟩
def sL{K ad a}(hs:∀(ad3:Ad) (H3:Hp),Grow (Gw [] ad) H (Gw [] ad3) H3->V_ K H3 a vs)(r:RpI K kd F B (Gw [] ad) H vs ds):ItOk K kd F B ad H (kB K a) ds:=⟨λc j h _ i=>by
 have b:=hs c j h;have e:=r.grow h;refine⟨λf=>?_,λf=>⟨_,b,by rwa [r.length]⟩,λv o k=>?_⟩
 . obtain⟨u,g,_⟩:=r.get<|zzE f;exact⟨_,u,b,g⟩
 . obtain⟨rfl,l⟩:=k;refine⟨λ_ _ z=>z,λd m=>?_⟩;obtain⟨u,g,n⟩:=e.get m;have:=l _ b;rw[g]at this;cases this;exact n⟩
def Lz(he:AE X kd e fa):AI X kd tg e (Yd fa):=by
 with_unfolding_all (
 intro pins s σ H R I h;obtain⟨F,B,ad,as,ds,as',Rl,e,q⟩:=h;obtain⟨⟨p,as1⟩,h1,e⟩:=bS_<|e;obtain⟨⟨⟨st,x⟩,as2⟩,h2,e⟩:=bS_ e;obtain⟨ys,h3,e⟩:=bS_ e;cases e;cases x with
 |lst xs=>
  cases h3;refine NK he pins s σ H R I ⟨F,B,ad,as,p,as1,Rl,h1,λv T1 ad1 H1 R1 rv1 g1=>?_⟩;obtain⟨ad2,R2,rp,le⟩:=ZV R1 rv1 h2;cases rp with
  |lst hn hr rl=>exact⟨_,rfl,⟨_,.inl hr⟩,q _ ad2 H1 R2 (g1.trans<|Grow.less le)<|SK (λad3 H3 g3=>.inl<|W8 g3 (λz=>hn<|.inr z) hr)<|W5 rl⟩
  |lstK a b c rl=>exact⟨_,rfl,⟨_,.inr ⟨_,_,_,a,rfl,rfl,rfl,b,c⟩⟩,q _ ad2 H1 R2 (g1.trans<|Grow.less le)<|SK (λad3 H3 g3=>.inr ⟨_,_,_,a,rfl,rfl,rfl,b,c⟩)<|W5 rl⟩
 |tup xs=>
  cases h3;refine Fp he pins s σ H R I ⟨F,B,ad,as,p,as1,Rl,h1,λv T1 ad1 H1 R1 rv1 g1=>?_⟩;obtain⟨ad2,R2,rp,le⟩:=ZV R1 rv1 h2;have go:∃a ys,v = .ref a/\(∀ad3 H3,Grow (Gw [] ad2) H1 (Gw [] ad3) H3->V_ X.K H3 a ys)/\RpL X.K kd (Lv F B (Gw [] ad2) st) H1 ys xs:=by
   cases rp with
   |tup n h r=>exact⟨_,_,rfl,λad3 H3 g3=>.inl<|W8 g3 (λz=>n<|.inr z) h,r⟩
   |tupK a b c e f r=>exact⟨_,_,rfl,λad3 H3 g3=>.inr ⟨_,_,_,a,b,c,e,f⟩,r⟩
  obtain⟨a,ys,rfl,hs,rl⟩:=go;exact⟨_,rfl,⟨_,hs ad2 H1 Grow.refl⟩,q _ ad2 H1 R2 (g1.trans<|Grow.less le)<|sL hs<|W5 rl⟩
 |_=>cases h3)
def yY(lo:Int)(n:Nat):List wB:=(List.range n).map λ(i:Nat)=>(true,D.int<|lo+(i:Int))
def CV{K ad}(lo)(n:Nat):ItOk K kd F B ad H (q8 lo n) (yY lo n):=⟨λe h g _ i=>by
 have c:(yY lo n).length=n:=by unfold yY;simp
 refine⟨λa=>by rw[c]at a;exact a,λa=>by rw[c]at a;exact a,λv j f=>?_⟩;obtain⟨rfl,rfl⟩:=f;refine⟨λ_ _ z=>z,λd b=>?_⟩;have a:i<n:=by rw[<-c];exact(zzG.mp b).1
 unfold yY at b;rw[zzI,List.getElem?_range a]at b;cases b;exact .int _⟩
def pX:List D->Option D
 | [x]=>some x
 |_=>none
def Aw(h:pX ds=some d):ds=[d]:=by
 cases ds with
 |nil=>cases h
 |cons x r=>
  cases r with
  |nil=>cases h;rfl
  |cons _ _=>cases h
def xa(ds:List D):Option (List wB):=((pX ds).bind N0).bind λj=>if -(2 ^ 62)<=j/\j<2 ^ 62 then some (yY 0 j.toNat)else none
def BQ(h:xa ds=some xs):∃j,ds=[.int j]/\(if -(2 ^ 62)<=j/\j<2 ^ 62 then some (yY 0 j.toNat)else none)=some xs:=by
 obtain⟨j,a,h⟩:=bS_ h;obtain⟨d,b,a⟩:=bS_ a;cases LR a;exact⟨j,Aw b,h⟩
def Df:List D->Option (List wB)
 | [.int i,.int j]=>if -(2 ^ 62)<=i/\i<2 ^ 62 /\ -(2 ^ 62)<=j/\j<2 ^ 62 then some (yY i (j-i).toNat)else none
 |_=>none
def yK(fr:AF)(h:List D->Option (List wB)):IF:=λas=>(fr as).bind λp=>(views p.2 p.1).bind λds=>(h ds.1).bind λxs=>some (xs,p.2)
def HQ(hg:Gl X "range")(hm:X.mg "range"=none)(ha:AA X kd [a] fr)(hs:starEach [a] X.env=[(false,eval a X.env)]):AI X kd tg (.Call (.Name "range" p) [a] [] pos) (yK fr xa):=by
 with_unfolding_all (
 intro b s σ H R I h;obtain⟨F,B,k,as,A,l,m,e,q⟩:=h;obtain⟨⟨n,o⟩,r,e⟩:=bS_<|e;obtain⟨⟨C,D⟩,t,e⟩:=bS_ e;obtain⟨E,c,e⟩:=bS_ e;cases e;obtain⟨j,rfl,c⟩:=BQ c
 . obtain⟨g,u⟩:=zq c;cases u;refine Kz hg hm ha hs b s σ H R I ⟨F,B,k,as,n,_,m,r,λG d v i f w=>?_⟩;have x:=Vb i f t;cases x with
   |cons y z=>
    cases z;cases y;exact⟨j,rfl,g.1,g.2,q _ d v i w<|CV 0 _⟩)
def S4(hg:Gl X "range")(hm:X.mg "range"=none)(ha:AA X kd [a,b] fr)(hs:starEach [a,b] X.env=[(false,eval a X.env),(false,eval b X.env)])(hs2:starEach [b] X.env=[(false,eval b X.env)]):AI X kd tg (.Call (.Name "range" p) [a,b] [] pos) (yK fr Df):=by
 with_unfolding_all (
 intro c s σ H R I h;obtain⟨F,B,n,as,o,r,t,e,q⟩:=h;obtain⟨⟨u,v⟩,w,e⟩:=bS_<|e;obtain⟨⟨x,J⟩,d,e⟩:=bS_ e;obtain⟨K,f,e⟩:=bS_ e;cases e
 match x,f,d with
 | [.int i,.int j],f,d=>
  obtain⟨y,z⟩:=zq<|f;cases z;refine HV hg hm ha hs hs2 c s σ H R I ⟨F,B,n,as,u,_,t,w,λL g A m k C=>?_⟩;have D:=Vb m k d;cases D with
  |cons E l=>
   cases l with
   |cons l G=>
    cases G;cases E;cases l;exact⟨i,j,rfl,y,q _ g A m C<|CV i _⟩)
def Rel.mut{K ad}{i:Nat}(R:Rel K kd F B T ad as σ H)(hi:i<as.length)(hl:ad i=l::fp)(hs:σ[i]? = some (some<|.ref l))
 (hsub:∀a ∈ fp'++fo,a ∈ fp++T) (hnd:(fp'++fo).Nodup) (hu:H l≠none)
 (ro:∀(H':Hp) (G':Addr->Prop),H' l=some u->Grow (Gw T ad) H G' H'->(∀a ∈ fp',∀w,H a=some w->H' a=some w)->vN K kd F B G' H' (.ref l) n (l::fp')):
 Rel K kd F B fo (Zt ad i (l::fp')) (as.set i<|some n) σ (upd H l u)/\Grow (Gw T ad) H (Gw fo<|Zt ad i (l::fp')) (upd H l u):=by
 have hli:l ∈ ad i:=by rw[hl];exact zzF
 have lT:=R.dis i l hli;have lfp:l ∉ fp:=by have:=R.nd i;rw[hl]at this;exact(zzV.mp this).1
 have lsub:∀a ∈ fp'++fo,a≠l:=λa m e=>by
  subst e
  rcases zzM.mp (hsub _ m)with z|z
  . exact lfp z
  . exact lT z
 have sub:∀a ∈ fp'++fo,Gw T ad a:=λa m=>by
  rcases zzM.mp (hsub a m)with z|z
  . exact .inr ⟨i,by rw[hl];exact zzD _ z⟩
  . exact .inl z
 have gsub:∀a,Gw fo (Zt ad i (l::fp')) a->Gw T ad a:=λa z=>by
  rcases z with z|⟨j,z⟩
  . exact sub a<|zzL _ z
  . by_cases e:j=i
    . subst e;rw[zZ]at z
      rcases zzC.mp z with z|z
      . subst z;exact .inr ⟨j,hli⟩
      . exact sub a<|zzP _ z
    . rw[ya e]at z;exact .inr ⟨j,z⟩
 have g:Grow _ H _ (upd H l u):=⟨λb w h n=>by rw[zF λe=>n<|by subst e;exact .inr ⟨i,hli⟩];exact h,λb z=>.inl<|gsub b z⟩;have kn:∀a,H a≠none->upd H l u a≠none:=λa z=>by
  by_cases e:a=l
  . subst e;rw[z8];simp
  . rwa [zF e]
 obtain⟨hnd1,hnd2,hnd3⟩:=zxD.mp hnd;have inT:∀j a,j≠i->a ∈ ad j->a ∈ fp'++fo->False:=λj a hj m m'=>by
  rcases zzM.mp (hsub a m')with z|z
  . exact hj (R.inj j i a m<|by rw[hl];exact zzD _ z)
  . exact R.dis j a m z
 refine⟨⟨by rw[zzU];exact R.len,λj hj=>?_,λj=>?_,λj k a h1 h2=>?_,hnd2,λj a h1 h2=>?_,λa z=>kn a<|R.ftr a z,λa z=>?_,λa z=>⟨kn a (R.gtr a<|gsub a z).1,(R.gtr a<|gsub a z).2⟩,λj s e=>?_⟩,g⟩
 . rw[zzU]at hj;rw[ya<|by omega];exact R.out j hj
 . by_cases e:j=i
   . subst e;rw[zZ];exact zzV.mpr ⟨λm=>lsub l (zzP _ m) rfl,hnd1⟩
   . rw[ya e];exact R.nd j
 . by_cases e:j=i
   . subst e
     by_cases e':k=j
     . exact e'.symm
     . rw[zZ]at h1;rw[ya e']at h2
       rcases zzC.mp h1 with z|z
       . subst z;exact R.inj j k a hli h2
       . exact(inT k a e' h2<|zzP _ z).elim
   . rw[ya e]at h1
     by_cases e':k=i
     . subst e';rw[zZ]at h2
       rcases zzC.mp h2 with z|z
       . subst z;exact R.inj j k a h1 hli
       . exact(inT j a e h1<|zzP _ z).elim
     . rw[ya e']at h2;exact R.inj j k a h1 h2
 . by_cases e:j=i
   . subst e;rw[zZ]at h1
     rcases zzC.mp h1 with z|z
     . subst z;exact lsub a (zzL _ h2) rfl
     . exact hnd3 a z a h2 rfl
   . rw[ya e]at h1;exact inT j a e h1<|zzL _ h2
 . obtain⟨b1,b2,b3⟩:=R.btr a z;exact⟨kn a b1,b2,λy=>b3<|gsub a y⟩
 . by_cases q:j=i
   . subst q;rw[zyJ hi]at e;cases e;rw[zZ];refine⟨_,hs,ro _ _ z8 g λa m w h=>?_⟩
     rwa [zF<|lsub a<|zzP _ m]
   . rw[zzX<|Ne.symm q]at e;rw[ya q];refine(R.sl j s e).grow g λa m w h=>?_
     rwa [zF λz=>q<|R.inj j i l (by rwa [<-z]) hli]
abbrev MG:=List O->List O->Option (List O×O)
def Yu(i:Nat)(fr:DF)(g:MG):EF:=λas=>match as[i]? with
 |some (some (.nd .ls _))=>(fr as).bind λp=>match p.2[i]? with
  |some (some (.nd .ls os))=>(g os p.1).bind λz=>some (.ow z.2,p.2.set i<|some<|.nd .ls z.1)
  |_=>none
 |_=>none
def ku(X:Cx)(kd:KD)(r:V->List V->Hp->VK->Prop)(g:MG):Prop:=
 ∀(F B G:Addr->Prop) (l:Addr) (vs ws:List V) (os es os':List O) (o:O) (fp fq:List Addr) (H:Hp) (Q:VK),H l=some (.lst vs)->wb X.K kd F B G H vs os fp->wb X.K kd F B G H ws es fq->(fp++fq).Nodup->g os es=some (os',o)->
  (∀v vs' fp' fo,wb X.K kd F B G H vs' os' fp'->vN X.K kd F B G H v o fo->(∀a ∈ fp'++fo,a ∈ fp++fq)->(fp'++fo).Nodup->Q v (upd H l<|.lst vs'))->r (.ref l) ws H Q
def mJ{i:Nat}{fr g r}(hr:ku X kd r g)
 (h:al X.K kd (Yu i fr g) σ H Q):iu X.K "list" r (Y1 i) (iQ X.K kd fr) σ H Q:=by
 obtain⟨F,B,U,as,z,as',R,e,q⟩:=h;unfold Yu at e;cases k:as[i]? with
 |none=>rw[k]at e;cases e
 |some a0=>
  rw[k]at e
  match a0,e,k with
  |some (.nd .ls os0),e,k=>
   obtain⟨⟨G,s⟩,h1,e⟩:=bS_<|e;obtain⟨v0,f,t⟩:=R.sl i _ k;generalize W:U i=fp0 at t;cases t with
   |ls I rl0=>
   rename_i l vs0 Y;refine⟨_,f,.inl ⟨rfl,_,.inl<|.inl I⟩,F,B,U,as,G,s,R,h1,λws J x L j M g1=>?_⟩;cases p:s[i]? with
   |none=>rw[p]at e;cases e
   |some a2=>
    rw[p]at e
    match a2,e,p with
    |some (.nd .ls Z),e,p=>
     obtain⟨⟨y,o⟩,h3,e⟩:=bS_<|e;cases e;obtain⟨v1,A,C⟩:=j.sl i _ p;rw[f]at A;cases A;generalize c:x i=fp1 at C;cases C with
     |ls hH rl=>
     rename_i vs fp;have N:=zxD.mpr ⟨by have:=j.nd i;rw[c]at this;exact(zzV.mp this).2,j.tnd,λa m b m' e=>by
          subst e;exact j.dis i a (by rw[c];exact zzD _ m) m'⟩
     refine hr F B _ _ vs ws Z G y o fp J L Q hH rl M N h3 λv D fp' fo O P d E=>?_;obtain⟨R3,g3⟩:=j.mut (zzG.mp p).1 c f d E (by rw[hH];simp) λH' G' S gr kp=>.ls S<|wb.grow gr kp O;have T:∀a ∈ fo,∀w,L a=some w->upd L l (.lst D) a=some w:=λa m w h=>by
          rw[zF λe=>?_]
          . exact h
          . subst e
            rcases zzM.mp (d _<|zzL _ m)with z|z
            . have:=j.nd i;rw[c]at this;exact(zzV.mp this).1 z
            . exact j.dis i _ (by rw[c];exact zzF) z
     exact q v fo _ _ R3 (vN.grow g3 T P)<|g1.trans g3
end
end PF
end
section
set_option exponentiation.threshold 5000
namespace PF
open PySem PySem.Spec PyProof.Rows L2
section
variable{K:zzA}{kd:KD}{O:Addr->Prop}{H:Hp}{Q:VK}
def yk(q:RQ K kd O H Q (.im d))(r:Rp K kd O H v d):Q v H:=q v H (λ_ _ z=>z) r
def Bs(hp:H p=none)(r:RpL K kd O H vs ds):RpL K kd (Wj O (· = p)) (upd H p o) vs ds:=
 RpL.grow ⟨λb u q _=>by rw[zF<|zY q hp];exact q,λb z=>.inr<|by rwa [z]⟩ (r.less λa z=>z.elim id False.elim)
def AX(hp:H p=none)(r:RpM K kd O H vs ds):RpM K kd (Wj O (· = p)) (upd H p o) vs ds:=
 RpM.grow ⟨λb u q _=>by rw[zF<|zY q hp];exact q,λb z=>.inr<|by rwa [z]⟩ (r.less λa z=>z.elim id False.elim)
def Yk{p o}(hp:H p=none):∀b u,H b=some u->upd H p o b=some u:=λb u q=>by rwa [zF<|zY q hp]
def We{vs ds}(q:RQ K kd O H Q (.fl ds))(r:RpL K kd O H vs ds):∀p,H p=none->Q (.ref p) (upd H p<|.lst vs):=λp hp=>
 q p vs _ hp (Yk hp) z8 (Bs hp r)
def OA{vs ds}(q:RQ K kd O H Q (.fd ds))(r:RpM K kd O H vs ds):∀p,H p=none->Q (.ref p) (upd H p<|.dK vs):=λp hp=>
 q p vs _ hp (Yk hp) z8 (AX hp r)
def NC{vs ds}(ht:∀a,O a->H a≠none)(q:RQ K kd O H Q (.im<|.tup ds))(r:RpL K kd O H vs ds):∀p,H p=none->Q (.ref p) (upd H p<|.tup vs):=λp hp=>
 q _ _ (Yk hp) (.tup (λz=>ht p z hp) (.inl z8)<|(Bs hp r).less λa z=>.inl z)
end
def big:Nat:=2 ^ 4000
def Mx(h:i.natAbs<big):Builtin.Int.intBits i<=2 ^ 20:=by
 unfold Builtin.Int.intBits
 split
 . exact Nat.zero_le _
 . have:i.natAbs.log2<4000:=by
    rcases Nat.eq_zero_or_pos i.natAbs with a|b
    . rw[a];decide
    . exact(Nat.log2_lt<|Nat.ne_of_gt b).mpr h
   omega
def DP{i}(h:i.natAbs<2 ^ 64):Builtin.Int.intBits i<=64:=by
 unfold Builtin.Int.intBits
 split
 . exact Nat.zero_le _
 . rcases Nat.eq_zero_or_pos i.natAbs with h0|hp
   . rw[h0];decide
   . exact(Nat.log2_lt<|Nat.ne_of_gt hp).mpr h
def A6(f:Int->Int->Option R0)(x y:D):Option R0:=(N0 x).bind λi=>(N0 y).bind λj=>f i j
def kK(x y:D):Option R0:=match x with
 | .int i=>(N0 y).bind λj=>some<|.im<|.int<|i+j
 | .str x=>(iE y).bind λy=>if x.length+y.length<=sizeLine then some (.im<|.str<|x++y)else none
 | .lst xs=>(qP y).bind λys=>if xs.length+ys.length<=sizeLine then some (.fl<|xs++ys)else none
 | .tup xs=>(jI y).bind λys=>if xs.length+ys.length<=sizeLine then some (.im<|.tup<|xs++ys)else none
 |_=>none
def jd(x y:D):Option R0:=match x with
 | .int i=>(N0 y).bind λj=>if(i.natAbs<big/\j.natAbs<big)\/j.natAbs<2 ^ 64 then some (.im<|.int<|i*j)else none
 | .lst xs=>(N0 y).bind λk=>if -(2 ^ 63)<=k/\k<2 ^ 63/\xs.length*k.toNat<=sizeLine then some (.fl (List.replicate k.toNat xs).flatten)else none
 | .tup xs=>(N0 y).bind λk=>if 1<=k/\k<2 ^ 63/\xs.length≠0/\xs.length*k.toNat<=sizeLine then some (.im<|.tup (List.replicate k.toNat xs).flatten)else none
 |_=>none
def YV(o:Operator)(x y:D):Option R0:=match o with
 | .Add=>kK x y
 | .Sub=>A6 (λi j=>some<|.im<|.int<|i-j) x y
 | .Mult=>jd x y
 | .FloorDiv=>A6 (λi j=>if 0<j/\j.natAbs<big then some (.im<|.int<|i/j)else none) x y
 | .Mod=>A6 (λi j=>if 0<j then some (.im<|.int<|i%j)else none) x y
 | .Pow=>A6 (λi j=>if 0<=j/\j<=1000000/\i.natAbs<2 ^ 64 then some (.im<|.int<|i ^ j.toNat)else none) x y
 |_=>none
def Xk{K kd O H v d i}(h:Vw K kd O H v d)(e:N0 d=some i):d = .int i/\v = .int i:=by
 cases h with
 |int j=>cases e;exact ⋯
 |_=>cases e
def sD{K kd O H v d i}(h:Vw K kd O H v d)(e:iE d=some i):d = .str i/\v = .str i:=by
 cases h with
 |str j=>cases e;exact ⋯
 |_=>cases e
def YM{K kd O H v w d e f r}(vx:Vw K kd O H v d)(vy:Vw K kd O H w e)(h:A6 f d e=some r):∃i j,v = .int i/\w = .int j/\f i j=some r:=by
 obtain⟨i,a,h⟩:=bS_<|h;obtain⟨j,b,h⟩:=bS_ h;exact⟨i,j,(Xk vx a).2,(Xk vy b).2,h⟩
section
variable{X:Cx}{kd:KD}
def JD:Ra X (binaryOp .Add) (λx y H Q=>∃l b xs zs,x = .ref l/\y = .ref b/\OP X.K H l xs/\OP X.K H b zs/\xs.length+zs.length<=sizeLine/\∀p,H p=none->Q (.ref p) (upd H p<|.lst<|xs++zs)):=by
 intro d s σ H x y v u Q I g i h;obtain⟨l,b,w,A,rfl,rfl,j,k,B,q⟩:=h;cases g;cases i;obtain⟨z,c,n,r,e⟩:=Bj I j;obtain⟨C,a,D,f,m⟩:=Bj I k;have E:=r.length;have o:=f.length;refine PySem.P.add_list e m ?_ (by rw[zzH,zzH];omega);have t:c.toArray++a.toArray=(c++a).toArray:=⋯;rw[t];exact⟨.ref _,_,I.lnew (t':=s.toks) (r.append f) (by rw[zzJ];omega),rfl,q _ I.fresh⟩
def JY:Ra X (binaryOp .Mult) (λx y H Q=>∃l k xs,x = .ref l/\y = .int k/\OP X.K H l xs /\ -(2 ^ 63)<=k/\k<2 ^ 63/\xs.length*k.toNat<=sizeLine/\
 ∀p,H p=none->Q (.ref p) (upd H p<|.lst (List.replicate k.toNat xs).flatten)):=by
 intro w s σ H x y v u Q I B C h;obtain⟨l,k,N,rfl,rfl,D,E,G,A,q⟩:=h;cases B;obtain⟨t,rfl⟩:=C;obtain⟨z,b,n,r,e⟩:=Bj I D;have J:=r.length;have d:b.toArray.size*k.toNat<=sizeLine:=by rwa [zzH,<-J]
 have f:¬b.toArray.size*k.toNat > (2 ^ 63-1)/8:=by
  have:sizeLine<=(2 ^ 63-1)/8:=by decide
  omega
 have g:¬(!Builtin.List.listFitsIndex k)=true:=by
  rw[fitsIndex_both E G];exact zyU
 have c:¬Builtin.List.listTooLong (b.toArray.size*k.toNat)=true:=by
  rw[Cc d];exact zyU
 have i:List.foldl (λj o=>j++o) #[] (List.replicate (if b.toArray.isEmpty=true then 0 else k.toNat) b.toArray)=(List.replicate k.toNat b).flatten.toArray:=by
  have L:=λm=>by
   have:=foldl_rep b m []
   rwa [List.nil_append]at this
  rw[L];cases b with
  |nil=>simp
  |cons a O=>rw[if_neg<|by simp]
 refine wpAny_binaryOp_repeat_ref (by decide) ⟨_,e,rfl⟩ (λM=>typeIs_int M k t) noFill_list_mul F.fills_int_mul F.slot_int_rmul repeat_list F.slot_int_index.lookup
  (call_meets F.slot_int_rmul ⋯ F.entry_int_rmul ⋯ (int___rmul___int_list k t l b.toArray n)
   ⟨e,rfl,⟨_,e,rfl⟩,call_meets F.slot_list_mul ⟨_,e,rfl⟩ F.entry_list_mul (F.args_list_mul_2 _ _) (AutoListH.list___mul___list_int_3 l b.toArray n k t g f c) ⟨e, ?_⟩⟩)
 rw[i];refine⟨.ref _,_,I.lnew (t':=s.toks) (r.rep k.toNat) ?_,rfl,q _ I.fresh⟩
 rwa [len_rep,Nat.mul_comm]
def tuple_addW0(l b)(items items2)(n n2:Nat)(dd dd2)(sl sl2)(h0:items.isEmpty=true):
 Meets (Builtin.«tuple.__add__» {pos:=[.ref l,.ref b]}) (λ_ R s=>s.heap.get? l=some {cls:=.type "tuple",dict:=dd,data:=.seq items n,slots:=sl}/\s.heap.get? b=some {cls:=.type "tuple",dict:=dd2,data:=.seq items2 n2,slots:=sl2}/\R (.ok<|.ret<|.ref b) s):=
 .of_wp λa w A R s h=>by
  obtain⟨c,e,h⟩:=h;have f2:=AutoSeq1.sub_tuple_tuple
  wp_walk using wpAny_loadPart' c,wpAny_loadPart' e
  exact⟨_,rfl,h⟩
def M5(l)(items)(n:Nat)(dd)(sl)(u):
 Meets (Builtin.«tuple.__mul__» {pos:=[.ref l,.int 1 u]}) (λ_ R s=>s.heap.get? l=some {cls:=.type "tuple",dict:=dd,data:=.seq items n,slots:=sl}/\R (.ok<|.ret<|.ref l) s):=
 .of_wp λa w A R s h=>by
  obtain⟨b,h⟩:=h
  wp_walk using wpAny_loadPart' b
  exact⟨_,rfl,h⟩
def Ek(l)(items its2:Array Value)(n:Nat)(dd)(sl)(x)(u)(c1:¬(decide (x < -2 ^ 63)||decide (x ≥ 2 ^ 63))=true)(c2:¬(items.isEmpty||x==1)=true)(c3:¬(decide (x<=0)||items.isEmpty)=true)
 (hcap:¬(items.size:Int)*x > (2 ^ 63-1)/8) (ht:¬Builtin.Tuple.tupleTooMany (items.size*x)=true) (hz:¬(List.foldl (λx1 x2=>x1++x2) #[] (List.replicate x.toNat items)).size > sizeLine):
 Meets (Builtin.«tuple.__mul__» {pos:=[.ref l,.int x u]}) (λ_ R s=>s.heap.get? l=some {cls:=.type "tuple",dict:=dd,data:=.seq items n,slots:=sl}/\R (.ok<|.ret<|.ref s.heap.objs.size) {s with heap:=s.heap.push {cls:=.type "tuple",data:=.seq (List.foldl (λx1 x2=>x1++x2) #[] (List.replicate x.toNat items))}}):=
 .of_wp λa w A R s h=>by
  obtain⟨b,h⟩:=h
  wp_walk using wpAny_loadPart' b
  rw[if_neg c1]
  wp_walk using wpAny_loadPart' b
  rw[if_neg hcap]
  wp_walk
  exact⟨_,rfl,h⟩
def Uj:fillsNumberSlot (Value.type "tuple") "mul"=pure false:=⋯
def NN:seqRepeat? (Value.type "tuple")=pure (some<|Value.builtin "tuple.__mul__"):=⋯
def TR(a)(t)(l)(items)(n:Nat)(dd)(sl):
 Meets (Builtin.«int.__rmul__» {pos:=[.int a t,.ref l]}) (λ_ R s=>s.heap.get? l=some {cls:=.type "tuple",dict:=dd,data:=.seq items n,slots:=sl}/\R (.ok<|.ret .notImplemented) s):=
 .of_wp λb w A R s h=>by
  obtain⟨c,h⟩:=h
  wp_walk using wpAny_load' c,wpAny_loadPart' c
  exact⟨_,rfl,h⟩
def JI:Ra X (binaryOp .Add) (λx y H Q=>∃a b ys,x = .ref a/\y = .ref b/\V_ X.K H a []/\V_ X.K H b ys/\Q (.ref b) H):=by
 intro j s σ H x y v u Q I t w h;obtain⟨a,b,M,rfl,rfl,z,A,q⟩:=h;cases t;cases w;obtain⟨B,C,D,_⟩:=I.tuple z;obtain⟨k,N,E,_⟩:=I.tuple A;cases C;obtain⟨⟨cls,G,l,J⟩,m,o,n,p⟩:=id D;obtain⟨⟨r,f,g,i⟩,c,d,L,e⟩:=id E;subst o p d e;exact concat_meets ⟨_,m,rfl⟩ ⟨_,c,rfl⟩ noFill_tuple_add seq_tuple_add PySem.F.slot_tuple_add PySem.F.entry_tuple_add (PySem.F.args_tuple_add_2 _ _) (tuple_addW0 a b _ _ n L G f J i rfl) ⟨m,c,⟨.ref b,H,I,rfl,q⟩⟩
def J2:Ra X (binaryOp .Mult) (λx y H Q=>∃l k xs,x = .ref l/\y = .int k/\V_ X.K H l xs/\xs≠[]/\1<=k/\k<2 ^ 63/\xs.length*k.toNat<=sizeLine/\(k=1->Q (.ref l) H)/\
 (2<=k->∀p,H p=none->Q (.ref p) (upd H p<|.tup (List.replicate k.toNat xs).flatten))):=by
 intro A s σ H x y v u Q I M N h;obtain⟨l,k,B,rfl,rfl,O,i,Y,Z,C,P,R⟩:=h;cases M;obtain⟨t,rfl⟩:=N;obtain⟨c,r,p,_⟩:=I.tuple O;have j:=r.length;have f:c.toArray.size*k.toNat<=sizeLine:=by rwa [zzH,<-j]
 have g:((c.toArray.size:Int)*k)=((c.toArray.size*k.toNat:Nat):Int):=by
  rw[Int.natCast_mul,zyX<|by omega]
 have D:c.toArray.isEmpty=false:=by
  cases c with
  |nil=>rw[List.length_nil]at j;exact absurd (List.length_eq_zero_iff.mp j) i
  |cons a r'=>rfl
 have d:List.foldl (λS V=>S++V) #[] (List.replicate k.toNat c.toArray)=(List.replicate k.toNat c).flatten.toArray:=by
  have:=foldl_rep c k.toNat [];exact this
 obtain⟨⟨cls,m,E,w⟩,e,G,n,J⟩:=id p;subst G J;refine wpAny_binaryOp_repeat_ref (by decide) ⟨_,e,rfl⟩ (λW=>typeIs_int W k t) Uj F.fills_int_mul F.slot_int_rmul NN F.slot_int_index.lookup
  (call_meets F.slot_int_rmul (typeIs_int s k t) F.entry_int_rmul (F.args_int_rmul_2 _ _) (TR k t l c.toArray n m w) ⟨e,rfl,⟨_,e,rfl⟩, ?_⟩)
 by_cases L:k=1
 . subst L;exact call_meets F.slot_tuple_mul ⟨_,e,rfl⟩ F.entry_tuple_mul ⋯ (M5 l c.toArray n m w t) ⟨e,⟨.ref l,H,I,rfl,P rfl⟩⟩
 . have z:(List.replicate k.toNat B).flatten.length<=sizeLine:=by rwa [len_rep,Nat.mul_comm]
   refine call_meets F.slot_tuple_mul ⟨_,e,rfl⟩ F.entry_tuple_mul (F.args_tuple_mul_2 _ _) (Ek l c.toArray #[] n m w k t (by simp;omega) (by rw[D];simpa using L) (by rw[D];simp;omega) ?_ ?_ ?_) ⟨e, ?_⟩
   . rw[g];have:(sizeLine:Int)<=(2 ^ 63-1)/8:=by decide
     omega
   . unfold Builtin.Tuple.tupleTooMany;rw[g];simp only[gt_iff_lt,decide_eq_true_eq];omega
   . rw[d,zzH,len_rep,Nat.mul_comm];rw[zzH]at f;omega
   . rw[d];refine⟨.ref s.heap.objs.size,_,I.laid (t':=s.toks) (λb ob q=>zxG _ q) (zzN _) ?_,rfl,R (by omega) _<|I.hok.fresh<|zzN _⟩;exact⟨z,_,r.rep k.toNat,IsTup.new _ _⟩
def sh(op):uP X kd (binaryOp op) (YV op):=by
 intro pins s σ H x y v u Q I rx ry h;obtain⟨O,d,e,r,ht,vx,vy,he,q⟩:=h;cases op with
 |Add=>
  cases vx with
  |int i=>
   obtain⟨j,h1,he⟩:=bS_<|he;obtain⟨rfl,rfl⟩:=Xk vy h1;cases he;exact tH pins s σ H _ _ v u Q I rx ry ⟨_,_,rfl,rfl,yk q<|.int _⟩
  |str i=>
   obtain⟨j,h1,he⟩:=bS_<|he;obtain⟨rfl,rfl⟩:=sD vy h1;obtain⟨c,rfl⟩:=zq he;exact Bg pins s σ H _ _ v u Q I rx ry ⟨_,_,rfl,rfl,c,yk q<|.str _⟩
  |lst hx rx'=>
   obtain⟨j,h1,he⟩:=bS_<|he;cases Pg h1;obtain⟨c,rfl⟩:=zq he;cases vy with
   |lst hy ry'=>exact JD pins s σ H _ _ v u Q I rx ry ⟨_,_,_,_,rfl,rfl,hx,hy,by rw[rx'.length,ry'.length];exact c,We q<|rx'.append ry'⟩
  | @tup a1 vs1 ds1 r1 hx rx'=>
   obtain⟨j,h1,he⟩:=bS_<|he;cases Ii h1;obtain⟨c,rfl⟩:=zq he;cases vy with
   |tup r2 hy ry'=>
    by_cases h0:vs1=([]:List V)
    . subst h0;cases rx';exact JI pins s σ H _ _ v u Q I rx ry ⟨_,_,_,rfl,rfl,hx,hy,yk q r2⟩
    refine Ak pins s σ H _ _ v u Q I rx ry ⟨_,_,_,_,rfl,rfl,hx,hy,h0,by rw[rx'.length,ry'.length];exact c,λhn=>?_,λhn=>NC ht q<|rx'.append ry'⟩
    . subst hn;cases ry';rw[zyD]at q;exact yk q r1
  |_=>cases he
 |Sub=>
  obtain⟨i,j,rfl,rfl,he⟩:=YM vx vy he;cases he;exact qS pins s σ H _ _ v u Q I rx ry ⟨_,_,rfl,rfl,yk q<|.int _⟩
 |Mult=>
  cases vx with
  |int i=>
   obtain⟨j,h1,he⟩:=bS_<|he;obtain⟨rfl,rfl⟩:=Xk vy h1;obtain⟨c,rfl⟩:=zq he;obtain⟨t,rfl⟩:=rx;obtain⟨t',rfl⟩:=ry;exact mul_int ⟨.int _,H,I.tok _,⟨_,rfl⟩,yk q<|.int _⟩ (c.elim (λc=>IntMulOk.of_bits (Mx c.1)<|Mx c.2) λc=>IntMulOk.of_right<|DP c)
  |lst hx rx'=>
   obtain⟨j,h1,he⟩:=bS_<|he;obtain⟨rfl,rfl⟩:=Xk vy h1;obtain⟨c,rfl⟩:=zq he;exact JY pins s σ H _ _ v u Q I rx ry ⟨_,_,_,rfl,rfl,hx,c.1,c.2.1,by rw[rx'.length];exact c.2.2,We q<|rx'.rep _⟩
  |tup r1 hx rx'=>
   obtain⟨j,h1,he⟩:=bS_<|he;obtain⟨rfl,rfl⟩:=Xk vy h1;obtain⟨c,rfl⟩:=zq he;refine J2 pins s σ H _ _ v u Q I rx ry ⟨_,_,_,rfl,rfl,hx,λe=>?_,c.1,c.2.1,by rw[rx'.length];exact c.2.2.2,λe=>?_,λ_=>NC ht q<|rx'.rep _⟩
   . have:=rx'.length;rw[e]at this;exact c.2.2.1 this.symm
   . subst e;refine yk q ?_;rw[show(1:Int).toNat=1 from rfl,List.replicate_one,List.flatten_cons,List.flatten_nil,zyD];exact r1
  |_=>cases he
 |FloorDiv=>
  obtain⟨i,j,rfl,rfl,he⟩:=YM vx vy he;obtain⟨c,rfl⟩:=zq he;obtain⟨t,rfl⟩:=rx;obtain⟨t',rfl⟩:=ry;refine floordiv_int (by omega) ?_<|.inl<|PyProof.noPylong_of_log2 ?_
  . rw[Int.fdiv_eq_ediv_of_nonneg _<|by omega];exact⟨.int _,H,I.tok _,⟨_,rfl⟩,yk q<|.int _⟩
  . exact zzK ((Nat.log2_lt<|by have:=c.1;omega).mpr<|c.2) (by decide)
 |Mod=>
  obtain⟨i,j,rfl,rfl,he⟩:=YM vx vy he;obtain⟨c,rfl⟩:=zq he;exact uT pins s σ H _ _ v u Q I rx ry ⟨_,_,rfl,rfl,c,yk q<|.int _⟩
 |Pow=>
  obtain⟨i,j,rfl,rfl,he⟩:=YM vx vy he;obtain⟨c,rfl⟩:=zq he;exact qb pins s σ H _ _ v u Q I rx ry ⟨_,_,rfl,rfl,c,yk q<|.int _⟩
 |_=>cases he
end
def JF(f:D->D->Option Bool):List D->List D->Option Bool
 | [],[]=>some true
 |x::r,y::t=>(f x y).bind λb=>(JF f r t).bind λc=>some (b&&c)
 |_,_=>some false
def YS:Nat->D->D->Option Bool
 |0,_,_=>none
 |_+1,.non,.non=>some true
 |_+1,.bl a,.bl b=>some (a==b)
 |_+1,.int a,.int b=>some (a==b)
 |_+1,.str a,.str b=>some (a==b)
 |_+1,.bl a,.int b=>some ((if a then 1 else 0)==b)
 |_+1,.int a,.bl b=>some (a==(if b then 1 else 0))
 |n+1,.lst xs,.lst ys=>JF (YS n) xs ys
 |n+1,.tup xs,.tup ys=>JF (YS n) xs ys
 |_+1,.dct _,_=>none
 |_+1,.cl _,_=>none
 |_+1,.ob _ _ _,_=>none
 |_+1,_,.dct _=>none
 |_+1,_,.cl _=>none
 |_+1,_,.ob _ _ _=>none
 |_+1,_,_=>some false
def Ap(f:D->D->Option Bool)(xs ys:List D)(j:Nat):Bool:=match xs[j]?,ys[j]? with
 |some d,some e=>(f d e).getD false
 |_,_=>false
theorem PR:∀{xs ys:List D}{b:Bool},JF f xs ys=some b->(∀(j:Nat) d e,xs[j]? = some d->ys[j]? = some e->∃c,f d e=some c)/\
 b=((List.range<|min xs.length ys.length).all (Ap f xs ys)&&xs.length==ys.length)
 | [],[],b,h=>by cases h;exact⟨λj d e h=>by simp at h,⋯⟩
 | [],y::t,b,h=>by cases h;exact⟨λj d e h=>by simp at h,⋯⟩
 |x::r,[],b,h=>by cases h;exact⟨λj d e _ h=>by simp at h,⋯⟩
 |x::r,y::t,b,h=>by
  obtain⟨b1,h1,h⟩:=bS_<|h;obtain⟨c1,h2,h⟩:=bS_ h;cases h;obtain⟨k1,k2⟩:=PR h2;refine⟨λj d e hd he=>?_, ?_⟩
  . cases j with
    |zero=>simp at hd he;subst hd he;exact⟨b1,h1⟩
    |succ j=>exact k1 j d e ⋯ ⋯
  . have e0:min (x::r).length (y::t).length=min r.length t.length+1:=by simp only[zzT];omega
    rw[e0,List.range_succ_eq_map,List.all_cons,List.all_map,k2];have e1:Ap f (x::r) (y::t) 0=b1:=by show(f x y).getD false=b1;rw[h1];rfl
    have e2:(Ap f (x::r) (y::t)∘Nat.succ)=Ap f r t:=⋯;have e3:((x::r).length==(y::t).length)=(r.length==t.length):=⋯;rw[e1,e2,e3,Bool.and_assoc]
structure EqAll(A:Around)(s:Shared)(u v:Value)(b:Bool):Prop where
 rc:SeqAt.RcAt A s u v b
 ne:SeqAt.RcNeAt A s u v (!b)
 eq:SeqAt.EqAt A s u v b
section
variable{X:Cx}{kd:KD}{pins:List (Addr×Obj)}{σ:St}{H:Hp}{s:Shared}{O:Addr->Prop}
def Sj(I:Inv X pins σ H s)(h:V_ X.K H a xs)(h':Pc X.K H a ys):False:=by
 obtain⟨_,_,⟨o,e,c,_⟩,_⟩:=I.tuple h;obtain⟨_,_,⟨f,n,b,d,_⟩,_⟩:=I.list h';rw[e]at b;cases b;rw[c]at d;exact absurd d (by decide)
theorem SA(I:Inv X pins σ H s):∀(n:Nat) (v:V) (d e:D) (b:Bool),Vw X.K kd O H v d->Vw X.K kd O H v e->YS n d e=some b->b=true
 |0,_,_,_,_,_,_,h=>by cases h
 |n+1,v,d,e,b,p,f,h=>by
  have lst:∀i (l m:List D) b,RpL X.K kd O H i l->RpL X.K kd O H i m->JF (YS n) l m=some b->b=true:=by
   intro i
   induction i with
   |nil=>intro l m b g a h;cases g;cases a;cases h;rfl
   |cons v i q=>
    intro l m b g a h;cases g with
    |cons r g=>
     cases a with
     | cons t a=>
            obtain⟨y,u,h⟩:=bS_<|h;obtain⟨z,w,h⟩:=bS_ h;cases h;rw[SA I n _ _ _ _ r.vw t.vw u,q _ _ _ g a w];rfl
  cases p with
  |non=>cases f;cases h;rfl
  |bl x=>cases f;cases h;simp
  |int x=>cases f;cases h;simp
  |str x=>cases f;cases h;simp
  |tup g j o=>
   cases f with
   |tup a c k=>
    have:=I.tuple_inj j c;subst this;exact lst _ _ _ _ o k h
   |lst c k=>exact(Sj I j c.sq).elim
   |_=>cases h
  |lst j o=>
   cases f with
   |tup a c k=>exact(Sj I c j.sq).elim
   |lst c k=>
    have:=I.list_inj j.sq c.sq;subst this;exact lst _ _ _ _ o k h
   |_=>cases h
  |_=>cases h
theorem NM(I:Inv X pins σ H s):∀(n:Nat) (A:Around) (x y:V) (d e:D) (u v:Value) (b:Bool),A.units+n<cLine->Vw X.K kd O H x d->Vw X.K kd O H y e->RelV x u->RelV y v->YS n d e=some b->EqAll A s u v b
 |0,_,_,_,_,_,_,_,_,_,_,_,_,_,h=>by cases h
 |n+1,A,x,y,d,e,u,v,b,hu,h1,E,R,k,h=>by
  have f:A.units<cLine:=by omega
  have W:∀{vs ws:List V}{l g:List Value}{S T:List D},RpL X.K kd O H vs S->RpL X.K kd O H ws T->zQ vs l->zQ ws g->(∀(j:Nat) d e,S[j]? = some d->T[j]? = some e->∃c,YS n d e=some c)->
   ∀j h1 (E:j<g.toArray.size),SeqAt.EqAt A.in1 s l.toArray[j] g.toArray[j] (Ap (YS n) S T j):=by
   intro vs ws l g S T F q v1 v2 hd j j1 j2;have q1:j<S.length:=by rw[<-F.length,v1.length];simpa using j1
   have q2:j<T.length:=by rw[<-q.length,v2.length];simpa using j2
   obtain⟨L,ha1,ra1⟩:=F.get<|zzE q1;obtain⟨M,ha2,ra2⟩:=q.get<|zzE q2;obtain⟨u1,hu1,ru1⟩:=v1.get ha1;obtain⟨u2,hu2,ru2⟩:=v2.get ha2;obtain⟨c,hc⟩:=hd j _ _ (zzE q1)<|zzE q2;have e1:l.toArray[j]=u1:=by
    have:=(zzG.mp hu1).2;simpa using this
   have e2:g.toArray[j]=u2:=by
    have:=(zzG.mp hu2).2;simpa using this
   rw[e1,e2];have e3:Ap (YS n) S T j=c:=by
    unfold Ap;rw[zzE q1,zzE q2];show(YS n _ _).getD false=c;rw[hc];rfl
   rw[e3];exact(NM I n A.in1 L M _ _ u1 u2 c (by show A.units+1+n<cLine;omega) ra1.vw ra2.vw ru1 ru2 hc).eq
  have G:∀{a a':Addr},x = .ref a->y = .ref a'->a=a'->b=true:=by
   intro a a' e1 e2 e3;subst e1 e2 e3;exact SA I (n+1) _ _ _ _ h1 E h
  cases h1 with
  |non=>
   cases R;cases E with
   |non=>cases k;cases h;exact⟨SeqAt.RcAt.none_none,SeqAt.RcNeAt.none_none,SeqAt.EqAt.same _⟩
   |bl=>cases k;cases h;exact⟨SeqAt.RcAt.none_bool _,SeqAt.RcNeAt.none_bool _,SeqAt.EqAt.none_bool _⟩
   |int=>obtain⟨t,rfl⟩:=k;cases h;exact⟨SeqAt.RcAt.none_int _ _,SeqAt.RcNeAt.none_int _ _,SeqAt.EqAt.none_int _ _⟩
   |str=>obtain⟨t,rfl⟩:=k;cases h;exact⟨SeqAt.RcAt.none_str _ _,SeqAt.RcNeAt.none_str _ _,SeqAt.EqAt.none_str _ _⟩
   |tup r o q=>
    cases k;cases h;obtain⟨l,J,p,_⟩:=I.tuple o;exact⟨SeqAt.RcAt.none_tuple p f,SeqAt.RcNeAt.none_tuple p f,SeqAt.EqAt.none_tuple p f⟩
   |lst o q=>
    cases k;cases h;obtain⟨l,J,p,_⟩:=I.list o.sq;exact⟨SeqAt.RcAt.none_list p.isList f,SeqAt.RcNeAt.none_list p.isList f,SeqAt.EqAt.none_list p.isList f⟩
   |_=>cases h
  |bl c=>
   cases R;cases E with
   |non=>cases k;cases h;exact⟨SeqAt.RcAt.bool_none _,SeqAt.RcNeAt.bool_none _,SeqAt.EqAt.bool_none _⟩
   |bl=>cases k;cases h;exact⟨SeqAt.RcAt.bool_bool _ _,SeqAt.RcNeAt.bool_bool _ _,SeqAt.EqAt.bool_bool _ _⟩
   |int=>obtain⟨t,rfl⟩:=k;cases h;exact⟨SeqAt.RcAt.bool_int _ _ _,SeqAt.RcNeAt.bool_int _ _ _,SeqAt.EqAt.bool_int _ _ _⟩
   |str=>obtain⟨t,rfl⟩:=k;cases h;exact⟨SeqAt.RcAt.bool_str _ _ _,SeqAt.RcNeAt.bool_str _ _ _,SeqAt.EqAt.bool_str _ _ _⟩
   |tup r o q=>
    cases k;cases h;obtain⟨l,J,p,_⟩:=I.tuple o;exact⟨SeqAt.RcAt.bool_tuple _ p f,SeqAt.RcNeAt.bool_tuple _ p f,SeqAt.EqAt.bool_tuple _ p f⟩
   |lst o q=>
    cases k;cases h;obtain⟨l,J,p,_⟩:=I.list o.sq;exact⟨SeqAt.RcAt.bool_list _ p.isList f,SeqAt.RcNeAt.bool_list _ p.isList f,SeqAt.EqAt.bool_list _ p.isList f⟩
   |_=>cases h
  |int c=>
   obtain⟨t0,rfl⟩:=R;cases E with
   |non=>cases k;cases h;exact⟨SeqAt.RcAt.int_none _ _,SeqAt.RcNeAt.int_none _ _,SeqAt.EqAt.int_none _ _⟩
   |bl=>cases k;cases h;exact⟨SeqAt.RcAt.int_bool _ _ _,SeqAt.RcNeAt.int_bool _ _ _,SeqAt.EqAt.int_bool _ _ _⟩
   |int=>obtain⟨t,rfl⟩:=k;cases h;exact⟨SeqAt.RcAt.int_int _ _ _ _,SeqAt.RcNeAt.int_int _ _ _ _,SeqAt.EqAt.int_int _ _ _ _⟩
   |str=>obtain⟨t,rfl⟩:=k;cases h;exact⟨SeqAt.RcAt.int_str _ _ _ _,SeqAt.RcNeAt.int_str _ _ _ _,SeqAt.EqAt.int_str _ _ _ _⟩
   |tup r o q=>
    cases k;cases h;obtain⟨l,J,p,_⟩:=I.tuple o;exact⟨SeqAt.RcAt.int_tuple _ _ p f,SeqAt.RcNeAt.int_tuple _ _ p f,SeqAt.EqAt.int_tuple _ _ p f⟩
   |lst o q=>
    cases k;cases h;obtain⟨l,J,p,_⟩:=I.list o.sq;exact⟨SeqAt.RcAt.int_list _ _ p.isList f,SeqAt.RcNeAt.int_list _ _ p.isList f,SeqAt.EqAt.int_list _ _ p.isList f⟩
   |_=>cases h
  |str c=>
   obtain⟨t0,rfl⟩:=R;cases E with
   |non=>cases k;cases h;exact⟨SeqAt.RcAt.str_none _ _,SeqAt.RcNeAt.str_none _ _,SeqAt.EqAt.str_none _ _⟩
   |bl=>cases k;cases h;exact⟨SeqAt.RcAt.str_bool _ _ _,SeqAt.RcNeAt.str_bool _ _ _,SeqAt.EqAt.str_bool _ _ _⟩
   |int=>obtain⟨t,rfl⟩:=k;cases h;exact⟨SeqAt.RcAt.str_int _ _ _ _,SeqAt.RcNeAt.str_int _ _ _ _,SeqAt.EqAt.str_int _ _ _ _⟩
   |str=>obtain⟨t,rfl⟩:=k;cases h;exact⟨SeqAt.RcAt.str_str _ _ _ _,SeqAt.RcNeAt.str_str _ _ _ _,SeqAt.EqAt.str_str _ _ _ _⟩
   |tup r o q=>
    cases k;cases h;obtain⟨l,J,p,_⟩:=I.tuple o;exact⟨SeqAt.RcAt.str_tuple _ _ p f,SeqAt.RcNeAt.str_tuple _ _ p f,SeqAt.EqAt.str_tuple _ _ p f⟩
   |lst o q=>
    cases k;cases h;obtain⟨l,J,p,_⟩:=I.list o.sq;exact⟨SeqAt.RcAt.str_list _ _ p.isList f,SeqAt.RcNeAt.str_list _ _ p.isList f,SeqAt.EqAt.str_list _ _ p.isList f⟩
   |_=>cases h
  | @tup L vs1 N r s1 F=>
   cases R;obtain⟨m,z,i,_⟩:=I.tuple s1;cases E with
   |non=>cases k;cases h;exact⟨SeqAt.RcAt.tuple_none i f,SeqAt.RcNeAt.tuple_none i f,SeqAt.EqAt.tuple_none i f⟩
   |bl=>cases k;cases h;exact⟨SeqAt.RcAt.tuple_bool _ i f,SeqAt.RcNeAt.tuple_bool _ i f,SeqAt.EqAt.tuple_bool _ i f⟩
   |int=>obtain⟨t,rfl⟩:=k;cases h;exact⟨SeqAt.RcAt.tuple_int _ _ i f,SeqAt.RcNeAt.tuple_int _ _ i f,SeqAt.EqAt.tuple_int _ _ i f⟩
   |str=>obtain⟨t,rfl⟩:=k;cases h;exact⟨SeqAt.RcAt.tuple_str _ _ i f,SeqAt.RcNeAt.tuple_str _ _ i f,SeqAt.EqAt.tuple_str _ _ i f⟩
   | @tup M vs2 P r' o q=>
    cases k;obtain⟨g,w,B,_⟩:=I.tuple o;obtain⟨k1,k2⟩:=PR h;have Y:=W F q z w k1;have Z:((List.range<|min m.toArray.size g.toArray.size).all (Ap (YS n) N P)&&m.toArray.size==g.toArray.size)=b:=by
     rw[k2,zzH,zzH,<-z.length,<-w.length,F.length,q.length]
    have U:=SeqAt.RcAt.tuples i B f Y;have b2:=SeqAt.RcNeAt.tuples i B f Y;rw[Z]at U b2;refine⟨U,b2, ?_⟩
    by_cases Q:L=M
    . have hb:=G rfl rfl Q;subst Q;rw[hb];exact SeqAt.EqAt.same _
    . exact SeqAt.EqAt.of_refs Q U
   |lst o q=>
    cases k;cases h;obtain⟨l,J,p,_⟩:=I.list o.sq;exact⟨SeqAt.RcAt.tuple_list i p.isList f,SeqAt.RcNeAt.tuple_list i p.isList f,SeqAt.EqAt.tuple_list i p.isList f⟩
   |_=>cases h
  | @lst L vs1 N s1 F=>
   cases R;obtain⟨m,z,i,_⟩:=I.list s1.sq;cases E with
   |non=>cases k;cases h;exact⟨SeqAt.RcAt.list_none i.isList f,SeqAt.RcNeAt.list_none i.isList f,SeqAt.EqAt.list_none i.isList f⟩
   |bl=>cases k;cases h;exact⟨SeqAt.RcAt.list_bool _ i.isList f,SeqAt.RcNeAt.list_bool _ i.isList f,SeqAt.EqAt.list_bool _ i.isList f⟩
   |int=>obtain⟨t,rfl⟩:=k;cases h;exact⟨SeqAt.RcAt.list_int _ _ i.isList f,SeqAt.RcNeAt.list_int _ _ i.isList f,SeqAt.EqAt.list_int _ _ i.isList f⟩
   |str=>obtain⟨t,rfl⟩:=k;cases h;exact⟨SeqAt.RcAt.list_str _ _ i.isList f,SeqAt.RcNeAt.list_str _ _ i.isList f,SeqAt.EqAt.list_str _ _ i.isList f⟩
   |tup r' o q=>
    cases k;cases h;obtain⟨g,w,B,_⟩:=I.tuple o;exact⟨SeqAt.RcAt.list_tuple i.isList B f,SeqAt.RcNeAt.list_tuple i.isList B f,SeqAt.EqAt.list_tuple i.isList B f⟩
   | @lst M vs2 P o q=>
    cases k;obtain⟨g,w,B,_⟩:=I.list o.sq;obtain⟨k1,k2⟩:=PR h;have Y:=W F q z w k1;have ez1:=zzH.trans<|z.length.symm.trans F.length;have ez2:=zzH.trans<|w.length.symm.trans q.length;have C:SeqAt.RcAt A s (.ref L) (.ref M) b/\SeqAt.RcNeAt A s (.ref L) (.ref M) (!b):=by
     by_cases hz:m.toArray.size=g.toArray.size
     . have U:=SeqAt.RcAt.lists i.isList B.isList hz f Y;have b2:=SeqAt.RcNeAt.lists i.isList B.isList hz f Y;have Z:(List.range m.toArray.size).all (Ap (YS n) N P)=b:=by
        rw[k2,<-ez1,<-ez2,<-hz,Nat.min_self];simp
       rw[Z]at U b2;exact⟨U,b2⟩
     . have hz':(m.toArray.size != g.toArray.size)=true:=by simpa using hz
       have Z:b=false:=by
        rw[k2,<-ez1,<-ez2];have:(m.toArray.size==g.toArray.size)=false:=by simpa using hz
        rw[this,Bool.and_false]
       rw[Z];exact⟨SeqAt.RcAt.lists_lengths i.isList B.isList hz' f,SeqAt.RcNeAt.lists_lengths i.isList B.isList hz' f⟩
    refine⟨C.1,C.2, ?_⟩
    by_cases Q:L=M
    . have hb:=G rfl rfl Q;subst Q;rw[hb];exact SeqAt.EqAt.same _
    . exact SeqAt.EqAt.of_refs Q C.1
   |_=>cases h
  |_=>cases h
end
structure DkAt(P:Program)(w:World)(h:Heap)(a:Addr)(kvs:List (Key×V)):Prop where
 le:kvs.length<=sizeLine
 ns:(a==sysModules)=false
 ex:∃vs,KV kvs vs/\h.DictOf (yB P w) a vs
structure KdOk(X:Cx)(kd:KD):Prop where
 inj:∀a k k',kd a k->kd a k'->k=k'
 inK:∀a k,kd a k->∃o,X.K.lookup a=some o
 at_:∀a k h,kd a k->X.K.In h->DkAt X.prog X.w h a k
section
variable{X:Cx}{kd:KD}{pins:List (Addr×Obj)}{σ:St}{H:Hp}{s:Shared}{O:Addr->Prop}
def PN(I:Inv X pins σ H s)(hk:KdOk X kd)(h:Rd H a (.dK kvs)\/kd a kvs):DkAt X.prog X.w s.heap a kvs:=by
 rcases h with h|h
 . obtain⟨z,hd,vs,rel,dd⟩:=uB I.hok h;exact⟨z,hd,vs,rel,dd⟩
 . exact hk.at_ _ _ _ h I.kIn
theorem Iu(I:Inv X pins σ H s):∀(n:Nat) (v:V) (d e x:D) (b c:Bool),Vw X.K kd O H v d->Vw X.K kd O H v e->YS n d x=some b->YS n e x=some c->b=c
 |0,_,_,_,_,_,_,_,_,h,_=>by cases h
 |n+1,v,d,e,x,b,c,h1,h2,h,h'=>by
  have lst:∀vs (ds es xs:List D) (b c:Bool),RpL X.K kd O H vs ds->RpL X.K kd O H vs es->JF (YS n) ds xs=some b->JF (YS n) es xs=some c->b=c:=by
   intro vs
   induction vs with
   |nil=>intro ds es xs b c r1 r2 h h';cases r1;cases r2;exact zzY (h.symm.trans h')
   |cons v vs ih=>
    intro ds es xs b c r1 r2 h h';cases r1 with
    |cons a1 r1=>
     cases r2 with
     | cons a2 r2=>
            cases xs with
            |nil=>cases h;cases h';rfl
            |cons x xs=>
             obtain⟨b1,k1,h⟩:=bS_<|h;obtain⟨c1,k2,h⟩:=bS_ h;obtain⟨b2,k3,h'⟩:=bS_<|h';obtain⟨c2,k4,h'⟩:=bS_ h';cases h;cases h';rw[Iu I n _ _ _ _ _ _ a1.vw a2.vw k1 k3,ih _ _ _ _ _ r1 r2 k2 k4]
  cases h1 with
  |tup r1 s1 l1=>
   cases h2 with
   |tup r2 s2 l2=>
    have:=I.tuple_inj s1 s2;subst this;cases x with
    |tup xs=>exact lst _ _ _ _ _ _ l1 l2 h h'
    |_=>exact zzY (h.symm.trans h')
   |lst s2 l2=>exact(Sj I s1 s2.sq).elim
   |_=>cases h'
  |lst s1 l1=>
   cases h2 with
   |tup r2 s2 l2=>exact(Sj I s2 s1.sq).elim
   |lst s2 l2=>
    have:=I.list_inj s1.sq s2.sq;subst this;cases x with
    |lst xs=>exact lst _ _ _ _ _ _ l1 l2 h h'
    |_=>exact zzY (h.symm.trans h')
   |_=>cases h'
  |dct s1 l1=>cases h
  |cl=>cases h
  |ob=>cases h
  |_=>cases h2;exact zzY<|h.symm.trans h'
end
def Bl:D->Option Key
 | .int i=>some<|.inl i
 | .str x=>some (.inr x)
 |_=>none
def Xq(kvs:List (Key×D))(k:Key):Option D:=(kvs.find? λkv=>decide (kv.1=k)).map (·.2)
def Sk{K O}(k)(h:RpM K kd O H vs ds):(∃v d,V5 vs k=some v/\Xq ds k=some d/\Rp K kd O H v d)\/(V5 vs k=none/\Xq ds k=none):=
 RpM.ind (P:=λvs ds=>(∃v d,V5 vs k=some v/\Xq ds k=some d/\Rp K kd O H v d)\/(V5 vs k=none/\Xq ds k=none)) (.inr ⟨rfl,rfl⟩) (λ{k' v d vs ds} a _ ih=>by
  by_cases e:k'=k
  . left;refine⟨_,_, ?_, ?_,a⟩
    . unfold V5;simp[e]
    . unfold Xq;simp[e]
  . rcases ih with⟨v,d,h1,h2,h3⟩|⟨h1,h2⟩
    . left;refine⟨v,d, ?_, ?_,h3⟩
      . unfold V5 at h1 ⊢;simpa[e]using h1
      . unfold Xq at h2 ⊢;simpa[e]using h2
    . right;refine⟨?_, ?_⟩
      . unfold V5 at h1 ⊢;simpa[e]using h1
      . unfold Xq at h2 ⊢;simpa[e]using h2) h
def anyF(f:D->Option Bool):List D->Option Bool
 | []=>some false
 |x::r=>(f x).bind λb=>(anyF f r).bind λc=>some (b||c)
def Jx(b:Bool):R0:=.im<|.bl b
def gu(x:D):D->Option Bool
 | .lst ys=>anyF (λy=>YS 50 y x) ys
 | .tup ys=>anyF (λy=>YS 50 y x) ys
 | .dct kvs=>(Bl x).bind λk=>some (Xq kvs k).isSome
 |_=>none
def iw:D->D->Option Bool
 |d,.non=>some (match d with | .non=>true|_=>false)
 |_,_=>none
def HF(f:Int->Int->Bool):D->D->Option R0:=A6 λi j=>some<|Jx<|f i j
def zw(o:CmpOp)(d e:D):Option R0:=match o with
 | .Eq=>(YS 60 d e).bind λb=>some<|Jx b
 | .NotEq=>(YS 60 d e).bind λb=>some<|Jx !b
 | .Lt=>HF (λi j=>decide (i<j)) d e
 | .LtE=>HF (λi j=>decide (i<=j)) d e
 | .Gt=>HF (λi j=>decide (j<i)) d e
 | .GtE=>HF (λi j=>decide (j<=i)) d e
 | .In=>(gu d e).bind λb=>some<|Jx b
 | .NotIn=>none
 | .Is=>(iw d e).bind λb=>some<|Jx b
 | .IsNot=>(iw d e).bind λb=>some<|Jx !b
def Qt{o:Option Bool}{f:Bool->Bool}(h:(o.bind λb=>some<|Jx<|f b)=some r):∃k,r = .im (.bl k):=by
 obtain⟨b,_,h⟩:=bS_ h;cases h;exact⟨_,rfl⟩
def RR(h:HF f x y=some r):∃k,r = .im (.bl k):=by
 obtain⟨i,_,h⟩:=bS_<|h;obtain⟨j,_,h⟩:=bS_ h;cases h;exact⟨_,rfl⟩
def Am(op:CmpOp)(x y:D)(r)(h:zw op x y=some r):∃k,r = .im (.bl k):=by
 cases op with
 |Eq=>exact Qt h
 |NotEq=>exact Qt h
 |Lt=>exact RR h
 |LtE=>exact RR h
 |Gt=>exact RR h
 |GtE=>exact RR h
 |In=>exact Qt h
 |NotIn=>cases h
 |Is=>exact Qt h
 |IsNot=>exact Qt h
section
variable{X:Cx}{kd:KD}{pins:List (Addr×Obj)}{σ:St}{H:Hp}{s:Shared}{O:Addr->Prop}
noncomputable def kx(K:zzA)(kd:KD)(O:Addr->Prop)(H:Hp)(n:Nat)(x:D)(u:Value):Bool:=@decide (∃v d,RelV v u/\Rp K kd O H v d/\YS n d x=some true)<|Classical.propDecidable _
def C5(I:Inv X pins σ H s)(hk:KdOk X kd){n:Nat}(r:RelV v u)(p:Rp X.K kd O H v d)(e:YS n d x=some b):kx X.K kd O H n x u=b:=by
 cases b with
 |true=>exact @zyN _ (Classical.propDecidable _) ⟨v,d,r,p,e⟩
 |false=>
  refine @zyF _ (Classical.propDecidable _) λ⟨v',d',r',p',e'⟩=>?_;have:=r.inj r';subst this;exact Bool.noConfusion<|Iu I n _ _ _ _ _ _ p.vw p'.vw e e'
def BD(I:Inv X pins σ H s)(hk:KdOk X kd){n:Nat}(hv:zQ vs us)(h:RpL X.K kd O H vs ds)(e:anyF (λy=>YS n y x) ds=some b):us.any (kx X.K kd O H n x)=b:=
 RpL.ind (P:=λvs ds=>∀us b,zQ vs us->anyF _ ds=some b->us.any _=b) (λus b hv e=>by cases e;cases hv;rfl) (λ{v d vs ds} a _ ih us b hv h=>by
  cases hv with
  |cons r t=>
   obtain⟨b1,h1,h⟩:=bS_<|h;obtain⟨c1,h2,h⟩:=bS_ h;cases h;rw[List.any_cons,C5 I hk r a h1,ih _ _ t h2]) h us b hv e
theorem Tz:∀{ds:List D}{b:Bool},anyF f ds=some b->∀d ∈ ds,∃c,f d=some c
 | [],_,_,d,hd=>by simp at hd
 |x::r,b,h,d,hd=>by
  obtain⟨b1,h1,h⟩:=bS_<|h;obtain⟨c1,h2,h⟩:=bS_ h
  rcases zzC.mp hd with e|e
  . subst e;exact⟨b1,h1⟩
  . exact Tz h2 d e
def BK(I:Inv X pins σ H s)(hk:KdOk X kd){n:Nat}(hu:A.units+n<cLine)(vx:Vw X.K kd O H x d)(rx:RelV x v)(hv:zQ vs us)(h:RpL X.K kd O H vs ds)(k:∀e ∈ ds,∃c,YS n e d=some c):∀u ∈ us,SeqAt.EqAt A s u v (kx X.K kd O H n d u):=
 RpL.ind (P:=λvs ds=>∀us,zQ vs us->(∀e ∈ ds,∃c,YS n e d=some c)->∀u ∈ us,SeqAt.EqAt A s u v<|kx X.K kd O H n d u) (λus hv _ u hu=>by cases hv;simp at hu) (λa q ih us hv h u hm=>by
  cases hv with
  |cons r t=>
   rcases zzC.mp hm with e|e
   . subst e;obtain⟨c,hc⟩:=h _ zzF;rw[C5 I hk r a hc];exact(NM I n A _ _ _ _ _ _ _ hu a.vw vx r rx hc).eq
   . exact ih _ t (λe he=>h e<|zzD _ he) u e) h us hv k
def L6(hk:KdOk X kd)(hu:X.A.units+100<cLine)(op):uP X kd (compareOp op) (zw op):=by
 intro pins s σ H x y v u Q I rx ry h;obtain⟨O,d,e,r,ht,vx,vy,he,q⟩:=h;cases op with
 |Eq=>
  obtain⟨b,h1,he⟩:=bS_<|he;cases he;exact(NM I 60 X.A x y d e v u b (q0V hu) vx vy rx ry h1).rc _ _ _ _ (Wu I (yk q<|.bl _) rfl)
 |NotEq=>
  obtain⟨b,h1,he⟩:=bS_<|he;cases he;exact(NM I 60 X.A x y d e v u b (q0V hu) vx vy rx ry h1).ne _ _ _ _ (Wu I (yk q<|.bl _) rfl)
 |Lt=>
  obtain⟨i,j,rfl,rfl,he⟩:=YM vx vy he;cases he;exact nt pins s σ H _ _ v u Q I rx ry ⟨_,_,rfl,rfl,yk q<|.bl _⟩
 |LtE=>
  obtain⟨i,j,rfl,rfl,he⟩:=YM vx vy he;cases he;exact lr pins s σ H _ _ v u Q I rx ry ⟨_,_,rfl,rfl,yk q<|.bl _⟩
 |Gt=>
  obtain⟨i,j,rfl,rfl,he⟩:=YM vx vy he;cases he;exact nr pins s σ H _ _ v u Q I rx ry ⟨_,_,rfl,rfl,yk q<|.bl _⟩
 |GtE=>
  obtain⟨i,j,rfl,rfl,he⟩:=YM vx vy he;cases he;exact o8 pins s σ H _ _ v u Q I rx ry ⟨_,_,rfl,rfl,yk q<|.bl _⟩
 |In=>
  obtain⟨b,h1,he⟩:=bS_<|he;cases he;cases vy with
  |lst hs rl=>
   cases ry;obtain⟨its,rv,p,_⟩:=I.list hs.sq;refine SeqAt.in_listAt _ p.isList (λw hw=>BK I hk (by show X.A.units+1+50<cLine;exact q0S hu) vx rx rv rl (Tz h1) w<|by simpa using hw) ?_;have:=BD I hk rv rl h1;rw[show its.toArray.any _=b by rw[<-this];simp];exact Wu (I) (yk q<|.bl _) rfl
  |tup rp hs rl=>
   cases ry;obtain⟨its,rv,p,_⟩:=I.tuple hs;refine SeqAt.in_tupleAt _ p (λw hw=>BK I hk (by show X.A.units+1+50<cLine;exact q0S hu) vx rx rv rl (Tz h1) w<|by simpa using hw) ?_;have:=BD I hk rv rl h1;rw[show its.toArray.any _=b by rw[<-this];simp];exact Wu (I) (yk q<|.bl _) rfl
  |dct hs rm=>
   cases ry;obtain⟨k,k1,h1⟩:=bS_ h1;cases h1;obtain⟨z,hd,vs,rel,dd⟩:=PN I hk hs;have ek:x=kV k:=by
    cases vx with
    |int i=>cases k1;rfl
    |str i=>cases k1;rfl
    |_=>cases k1
   subst ek;refine wpAny_in_of (Mf rx) hd dd.mapOf ?_;rw[<-(rel.val k).isSome_eq]
   rcases Sk k rm with⟨v1,d1,e1,e2,_⟩|⟨e1,e2⟩
   . rw[e1];rw[e2]at q;exact Wu (I.tok _) (yk q<|.bl _) rfl
   . rw[e1];rw[e2]at q;exact Wu (I.tok _) (yk q<|.bl _) rfl
  |_=>cases h1
 |NotIn=>cases he
 |Is=>
  obtain⟨b,h1,he⟩:=bS_<|he;cases he;cases vy with
  |non=>
   refine rf pins s σ H _ _ v u Q I rx ry ⟨rfl, ?_⟩;have:decide (x=V.non)=b:=by cases vx<;>(cases h1;rfl)
   rw[this];exact yk q (.bl b)
  |_=>cases h1
 |IsNot=>
  obtain⟨b,h1,he⟩:=bS_<|he;cases he;cases vy with
  |non=>
   refine JW pins s σ H _ _ v u Q I rx ry ⟨rfl, ?_⟩;have:decide (x=V.non)=b:=by cases vx<;>(cases h1;rfl)
   rw[this];exact yk q (.bl _)
  |_=>cases h1
end
def BR{K kd O H vs ds i d}(r:RpL K kd O H vs ds)(h:atI ds i=some d):∃v,atI vs i=some v/\Rp K kd O H v d:=by
 unfold atI at ⊢;obtain⟨j,a,b⟩:=bS_ h;rw[r.length,a];exact r.get b
def Jb(o:Option D):Option R0:=o.bind λd=>some<|.im d
def zD(x y:D):Option R0:=match x with
 | .lst xs=>(N0 y).bind λi=>Jb<|atI xs i
 | .tup xs=>(N0 y).bind λi=>Jb<|atI xs i
 | .str x=>(N0 y).bind λi=>if x.length<=sizeLine then(atI x.cps.toList i).bind λc=>some (.im<|.str ⟨#[c]⟩)else none
 | .dct kvs=>(Bl y).bind λk=>Jb (Xq kvs k)
 |_=>none
def Po(h:Jb o=some r):∃d,o=some d/\r = .im d:=by
 obtain⟨d,a,b⟩:=bS_<|h;cases b;exact⟨d,a,rfl⟩
section
variable{X:Cx}{kd:KD}
def FK{K O H x d k}(vx:Vw K kd O H x d)(e:Bl d=some k):x=kV k:=by
 cases vx with
 |int i=>cases e;rfl
 |str i=>cases e;rfl
 |_=>cases e
def jl(hk:KdOk X kd):iX X kd zD:=by
 intro b f g s σ H x y v u Q I A B h C;obtain⟨O,d,e,r,U,P,D,a,q⟩:=h;cases P with
 |lst m E=>
  obtain⟨i,n,a⟩:=bS_<|a;obtain⟨rfl,rfl⟩:=Xk D n;obtain⟨d,l,rfl⟩:=Po a;obtain⟨w,p,j⟩:=BR E l;exact NR b f g s σ H _ _ v u Q I A B ⟨_,_,_,w,rfl,rfl,m.sq,p,yk q j⟩ C
 |tup J m E=>
  obtain⟨i,n,a⟩:=bS_<|a;obtain⟨rfl,rfl⟩:=Xk D n;obtain⟨d,l,rfl⟩:=Po a;obtain⟨w,p,j⟩:=BR E l;exact qC b f g s σ H _ _ v u Q I A B ⟨_,_,_,w,rfl,rfl,m,p,yk q j⟩ C
 |str z=>
  obtain⟨i,n,a⟩:=bS_<|a;obtain⟨rfl,rfl⟩:=Xk D n;obtain⟨R,a⟩:=ite_some' a;obtain⟨c,l,a⟩:=bS_ a;cases a;exact u4 b f g s σ H _ _ v u Q I A B ⟨_,_,c,rfl,rfl,R,l,yk q<|.str _⟩ C
 |dct m S=>
  obtain⟨k,l,a⟩:=bS_<|a;obtain⟨d,K,rfl⟩:=Po a;cases A;obtain⟨z,V,T,G,L⟩:=PN I hk m;have:=FK D l;subst this
  rcases Sk k S with⟨M,W,N,t,J⟩|⟨N,t⟩
  . rw[K]at t;cases t;obtain⟨Y,p,j⟩:=VW.some_of (by rw[<-N];exact G.val k);exact tail_any L.typeIs PySem.F.slot_dict_getitem.lookup (wpAny_getItem_of (Mf B) L.mapOf p ⟨M,H,I.tok _,j,yk q J⟩) C
  . rw[K]at t;cases t
 |_=>cases a
def cutD(xs:List D)(lo hi:Option Int):List D:=(xs.drop<|HT.sIx xs.length 0 lo).take<|HT.sIx xs.length xs.length hi-HT.sIx xs.length 0 lo
def B9{K O H vs ds}(r:RpL K kd O H vs ds)(lo hi):RpL K kd O H (Hl vs lo hi) (cutD ds lo hi):=by
 unfold Hl;rw[r.length];exact(r.drop _).take _
def XU(x:D)(lo hi:Option Int):Option R0:=match x with
 | .lst xs=>some<|.fl<|cutD xs lo hi
 | .tup xs=>if HT.sIx xs.length 0 lo=0/\HT.sIx xs.length xs.length hi=xs.length then none else some (.im<|.tup<|cutD xs lo hi)
 |_=>none
abbrev OF:=AS->Option (Option Int×AS)
def oN:OF:=λas=>some (none,as)
def oS(f:EF):OF:=λas=>(f as).bind λp=>(ko p.1).bind λi=>some (some i,p.2)
def ZY(fa:EF)(fl fh:OF)(g:D->Option Int->Option Int->Option R0):EF:=λas=>(fa as).bind λp=>(fl p.2).bind λl=>(fh l.2).bind λh=>(p.1.frz.view h.2).bind λx=>(g x.1 l.1 h.1).bind λr=>(wrap x.2 r).bind λz=>some (z,h.2)
def iZ(K:zzA)(kd:KD)(f:OF):TO:=λσ H Q=>∃F B ad as o as',Rel K kd F B [] ad as σ H/\f as=some (o,as')/\
 ∀ad' H',Rel K kd F B [] ad' as' σ H'->Grow (Gw [] ad) H (Gw [] ad') H'->Q o H'
@[irreducible] def AO(X:Cx)(kd:KD)(e:Option Expr)(f:OF):Prop:=PO X e<|iZ X.K kd f
def CO(h:PO X e t)(k:∀σ H Q,t' σ H Q->t σ H Q):PO X e t':=λa s σ H Q I q=>h a s σ H Q I<|k σ H Q q
def vT:AO X kd none oN:=by with_unfolding_all exact(CO JQ λσ H Q h=>by
 obtain⟨F,B,a,as,o,b,R,e,q⟩:=h;cases e;exact q a H R Grow.refl)
def qh{K F B T ad σ H v st c}(h:xq K kd F B T ad σ H v (.ow<|.lf st<|.int c)):T=[]/\v = .int c:=by
 cases h with
 |lf a=>cases a;exact ⋯
def yD{a fa}(ha:AE X kd a fa):AO X kd (some a) (oS fa):=by with_unfolding_all exact(CO (DE ha) λσ H Q h=>by
 obtain⟨F,B,d,as,o,f,R,e,q⟩:=h;obtain⟨⟨p,g⟩,j,e⟩:=bS_<|e;obtain⟨i,k,e⟩:=bS_ e;obtain⟨r,rfl⟩:=Fl k;cases e;refine⟨F,B,d,as,_,_,R,j,λv s b l m c n=>?_⟩;obtain⟨rfl,rfl⟩:=qh c;exact⟨i,rfl,q b l m n⟩)
def kX:pb X (λx lo hi H Q=>∃O d r,(∀a,O a->H a≠none)/\Vw X.K kd O H x d/\XU d lo hi=some r/\RQ X.K kd O H Q r):=by
 intro b s σ H x v j k e f l Q I m n o p h;obtain⟨O,d,r,t,u,c,q⟩:=h;cases u with
 |lst i g=>cases c;exact A_ b s σ H _ v j k e f l Q I m n o p ⟨_,_,rfl,i.sq,We q<|B9 g e f⟩
 |tup y i g=>
  have c:(if _ then none else some _:Option R0)=_:=c
  split at c
  . cases c
  . rename_i w;cases c;exact qg b s σ H _ v j k e f l Q I m n o p ⟨_,_,rfl,i,by rw[g.length];exact w,NC t q<|B9 g e f⟩
 |_=>cases c
def yV{a lo hi fa fl fh pos p2}(ha:AE X kd a fa)(hl:AO X kd lo fl)(hh:AO X kd hi fh):AE X kd (.Subscript a (.Slice lo hi none p2) pos) (ZY fa fl fh XU):=by with_unfolding_all exact(yb (EG kX ha hl hh) λσ H Q h=>by
 obtain⟨F,B,O,as,r,s,R,e,q⟩:=h;obtain⟨⟨p,c⟩,t,e⟩:=bS_<|e;obtain⟨⟨l,b⟩,x,e⟩:=bS_ e;obtain⟨⟨u,y⟩,A,e⟩:=bS_ e;obtain⟨⟨d,P⟩,C,e⟩:=bS_ e;obtain⟨D,E,e⟩:=bS_ e;obtain⟨z,G,e⟩:=bS_ e;cases e;refine xS R t λv f S I g J=>⟨F,B,f,c,l,b,I,x,λi T R2 n=>⟨F,B,i,b,u,_,R2,A,λj U k o=>?_⟩⟩;exact⟨_,d,D,k.tr _,xq.vw k ((g.grow n).grow o) C,E,Zm k G λw K L M m N=>q w K j L M m<|((J.trans n).trans o).trans N⟩)
def H9:D->Option R0
 | .int i=>some (.im<|.int (-i))
 |_=>none
def se:ik X kd (unaryOp .USub) H9:=by
 intro a s σ H x v Q I c h;obtain⟨O,d,r,f,e,b,q⟩:=h;cases e with
 |int i=>cases b;exact qk a s σ H _ v Q I c ⟨i,rfl,yk q<|.int _⟩
 |_=>cases b
def rJ:D->String
 | .non=>"NoneType" | .bl _=>"bool" | .int _=>"int" | .str _=>"str" | .tup _=>"tuple" | .lst _=>"list" | .dct _=>"dict"|_=>""
def F0:D->Bool
 | .cl _=>false | .ob _ _ _=>false|_=>true
def Kn(t c:String):Bool:=t==c||(t=="bool"&&c=="int")
def Q5(c:String):Bool:=c=="int"||c=="bool"||c=="str"||c=="list"||c=="tuple"||c=="dict"
def si(K)(d)(c)(h:Q5 c=true)(ho:F0 d=true):W.kitOne K (.type<|rJ d) (.type c)=some (Kn (rJ d) c):=by
 have:c="int"\/c="bool"\/c="str"\/c="list"\/c="tuple"\/c="dict":=by
  unfold Q5 at h;simp at h
  rcases h with((((h|h)|h)|h)|h)|h<;>simp[h]
 rcases this with rfl|rfl|rfl|rfl|rfl|rfl<;>cases d<;>first|rfl|cases ho
def tO(hk:KdOk X kd){pins σ H s O A E Q c x u d}(I:Inv X pins σ H s)(rx:RelV x u)(vx:Vw X.K kd O H x d)(hc:Q5 c=true)(ho:F0 d=true)
 (h:∀tk,Q (.bool<|Kn (rJ d) c) {s with toks:=tk}):wpAny (model X.prog X.w) A (call (.builtin "isinstance") [u,.type c]) Q E s:=by
 have e:=si X.K d c hc ho;cases vx with
 |non=>cases rx;exact W.kia_one W.kitx_none I.kIn True.intro e ⋯ h
 |bl y=>cases rx;exact W.kia_one W.kitx_bool I.kIn True.intro e ⋯ h
 |int i=>obtain⟨t,rfl⟩:=rx;exact W.kia_one W.kitx_int I.kIn True.intro e ⋯ h
 |str y=>obtain⟨t,rfl⟩:=rx;exact W.kia_one W.kitx_str I.kIn True.intro e ⋯ h
 |lst a j=>
  cases rx;obtain⟨g,k,⟨o,n,b,f,_⟩,_⟩:=I.list a.sq;exact W.kia_one W.kitx_list I.kIn ⟨o,b,f⟩ e ⋯ h
 |tup m a j=>
  cases rx;obtain⟨g,k,⟨o,b,f,_⟩,_⟩:=I.tuple a;exact W.kia_one W.kitx_tuple I.kIn ⟨o,b,f⟩ e ⋯ h
 |dct a p=>
  cases rx;obtain⟨z,q,r,l,⟨o,v,B,b,f,_⟩⟩:=PN I hk a;exact W.kia_one W.kitx_dict I.kIn ⟨o,b,f.1⟩ e ⋯ h
 |cl=>cases ho
 |ob=>cases ho
end
def WW:List D->Option (List Int)
 | []=>some []
 | .int i::r=>(WW r).bind λs=>some (i::s)
 |_::_=>none
def lu:List Int->Int
 | []=>0
 |x::r=>r.foldl (λa b=>if a<b then b else a) x
def ml:List Int->Int
 | []=>0
 |x::r=>r.foldl (λa b=>if b<a then b else a) x
theorem G_:∀(r:List Int) (x:Int),r.foldl (λa b=>if a<b then b else a) x ∈ x::r/\∀a ∈ x::r,a<=r.foldl (λa b=>if a<b then b else a) x
 | [],x=>⋯
 |y::r,x=>by
  rw[List.foldl_cons];obtain⟨h1,h2⟩:=G_ r _;refine⟨?_,λa ha=>?_⟩
  . rcases zzC.mp h1 with e|e
    . rw[e];split<;>simp
    . exact zzD _<|zzD _ e
  . have h3:=h2 _ zzF
    rcases zzC.mp ha with e|e
    . subst e;exact Int.le_trans ⋯ h3
    . rcases zzC.mp e with e|e
      . subst e;exact Int.le_trans ⋯ h3
      . exact h2 a<|zzD _ e
theorem K8:∀(r:List Int) (x:Int),r.foldl (λa b=>if b<a then b else a) x ∈ x::r/\∀a ∈ x::r,r.foldl (λa b=>if b<a then b else a) x<=a
 | [],x=>⋯
 |y::r,x=>by
  rw[List.foldl_cons];obtain⟨h1,h2⟩:=K8 r _;refine⟨?_,λa ha=>?_⟩
  . rcases zzC.mp h1 with e|e
    . rw[e];split<;>simp
    . exact zzD _<|zzD _ e
  . have h3:=h2 _ zzF
    rcases zzC.mp ha with e|e
    . subst e;exact Int.le_trans h3 ⋯
    . rcases zzC.mp e with e|e
      . subst e;exact Int.le_trans h3 ⋯
      . exact h2 a<|zzD _ e
def Dm(h1:M ∈ ns)(h2:∀a ∈ ns,a<=M):lu ns=M:=by
 cases ns with
 |nil=>simp at h1
 |cons x r=>
  obtain⟨k1,k2⟩:=G_ r x;have a1:=k2 M h1;have a2:=h2 _ k1;show r.foldl _ x=M;exact q1d a2 a1
def AL(h1:M ∈ ns)(h2:∀a ∈ ns,M<=a):ml ns=M:=by
 cases ns with
 |nil=>simp at h1
 |cons x r=>
  obtain⟨k1,k2⟩:=K8 r x;have a1:=k2 M h1;have a2:=h2 _ k1;show r.foldl _ x=M;exact q1d a1 a2
def qE(f:D->Option R0)(ds:List D):Option R0:=match ds with
 | [x]=>f x
 |_=>none
def Ur{K O}(vl:VwL K kd O H xs ds)(h:qE f ds=some r):∃x d,xs=[x]/\Vw K kd O H x d/\f d=some r:=by
 cases vl with
 |nil=>cases h
 |cons a b=>
  cases b with
  |nil=>exact⟨_,_,rfl,a,h⟩
  |cons _ _=>cases h
def jA:D->Option R0
 | .lst ds=>some<|.im<|.int ds.length
 | .tup ds=>some<|.im<|.int ds.length
 | .str x=>if x.length<=sizeLine then some (.im<|.int x.length)else none
 | .dct kvs=>some (.im<|.int kvs.length)
 |_=>none
def yA:List D->Option R0:=qE jA
def kZ:D->Option R0
 | .int i=>some<|.im<|.int i
 | .bl b=>some (.im<|.int (if b then 1 else 0))
 |_=>none
def tupP:List D->Option R0
 | [.lst ds]=>some<|.im<|.tup ds
 | [.tup ds]=>some (.im<|.tup ds)
 |_=>none
def kP:D->Option R0
 | .lst ds=>some<|.fl ds
 | .tup ds=>some (.fl ds)
 |_=>none
def lstP:List D->Option R0:=qE kP
def dctP:List D->Option R0
 | [.dct kvs]=>some (.fd kvs)
 |_=>none
def SW(ds:List D):Option R0:=match ds with
 | [x,y]=>A6 (λi j=>some<|.im<|.int (if j > i then j else i)) x y
 | [x]=>(qP x).bind λds=>(WW ds).bind λns=>if 0<ns.length then some (.im<|.int<|lu ns)else none
 |_=>none
def OQ:List D->Option R0
 | [.int i,.int j]=>some<|.im<|.int (if j<i then j else i)
 | [.lst ds]=>(WW ds).bind λns=>if 0<ns.length then some (.im<|.int<|ml ns)else none
 |_=>none
def An:List D->Option R0
 | [.int i]=>some (.im<|.int (if i<0 then -i else i))
 |_=>none
def W7{K O}(h:VwL K kd O H xs [d]):∃x,xs=[x]/\Vw K kd O H x d:=by
 cases h with
 |cons a b=>cases b;exact⟨_,rfl,a⟩
def DO{K O}(h:VwL K kd O H xs [d,e]):∃x y,xs=[x,y]/\Vw K kd O H x d/\Vw K kd O H y e:=by
 cases h with
 |cons a b=>
  cases b with
  |cons b c=>cases c;exact⟨_,_,rfl,a,b⟩
def MU{K O}(h:RpL K kd O H vs ds)(e:WW ds=some ns):vs=ns.map V.int:=
 RpL.ind (P:=λvs ds=>∀ns,WW ds=some ns->vs=ns.map V.int) (λns e=>by cases e;rfl) (λ{v d vs ds} a _ ih ns e=>by
  cases d with
  |int i=>
   obtain⟨s,h1,h2⟩:=bS_<|e;cases h2;cases a;rw[ih _ h1];rfl
  |_=>cases e) h ns e
section
variable{X:Cx}{kd:KD}
def vG(hk:KdOk X kd):Z8 X kd (.builtin "len") yA:=by
 intro pins s σ H xs us Q I r h;obtain⟨O,ds,z,ht,vl,he,q⟩:=h;obtain⟨x,d,rfl,vx,he⟩:=Ur vl he;cases vx with
 |lst hr rl=>cases he;exact QF pins s σ H _ us Q I r ⟨_,_,rfl,.inl hr.sq,by rw[rl.length];exact yk q<|.int _⟩
 |tup rp hr rl=>cases he;exact QF pins s σ H _ us Q I r ⟨_,_,rfl,.inr hr,by rw[rl.length];exact yk q<|.int _⟩
 |str y=>
  obtain⟨c,rfl⟩:=zq he;exact Lo pins s σ H _ us Q I r ⟨_,rfl,c,yk q<|.int _⟩
 |dct hr rm=>
  cases he;obtain⟨u,rfl,ru⟩:=vals1 r;cases ru;obtain⟨z,hd,vs,rel,dd⟩:=PN I hk hr;refine call_len_dict hd dd (by rw[<-rel.length];rw[sizeLine_eq]at z;omega) ?_;rw[<-rel.length,rm.length];exact⟨.int _,H,I.tok _,⟨_,rfl⟩,yk q<|.int _⟩
 |_=>cases he
def HR:Z8 X kd (.type "tuple") tupP:=by
 intro pins s σ H xs us Q I r h;obtain⟨O,ds,z,ht,vl,he,q⟩:=h;unfold tupP at he
 split at he
 . cases he;obtain⟨x,rfl,vx⟩:=W7 vl;cases vx with
   |lst hr rl=>exact VG pins s σ H _ us Q I r ⟨_,_,rfl,.inl ⟨hr.sq,NC ht q rl⟩⟩
 . cases he;obtain⟨x,rfl,vx⟩:=W7 vl;cases vx with
   |tup rp hr rl=>exact VG pins s σ H _ us Q I r ⟨_,_,rfl,.inr ⟨hr,yk q rp⟩⟩
 . cases he
def Kk:Z8 X kd (.type "list") lstP:=by
 intro pins s σ H xs us Q I r h;obtain⟨O,ds,z,ht,vl,he,q⟩:=h;obtain⟨x,d,rfl,vx,he⟩:=Ur vl he;cases vx with
 |lst hr rl=>cases he;exact QU pins s σ H _ us Q I r ⟨_,_,rfl,.inl hr.sq,We q rl⟩
 |tup rp hr rl=>cases he;exact QU pins s σ H _ us Q I r ⟨_,_,rfl,.inr hr,We q rl⟩
 |_=>cases he
def Hq(hk:KdOk X kd):Z8 X kd (.type "dict") dctP:=by
 intro pins s σ H xs us Q I r h;obtain⟨O,ds,z,ht,vl,he,q⟩:=h;unfold dctP at he
 split at he
 . cases he;obtain⟨x,rfl,vx⟩:=W7 vl;cases vx with
   |dct hr rm=>
    obtain⟨u,rfl,ru⟩:=vals1 r;cases ru;obtain⟨z,hd,vs,rel,dd⟩:=PN I hk hr;refine kt_call_dict hd dd (by rwa [<-rel.length]) λh' dd' hs=>?_;refine⟨.ref _,_,(I.laid (t':=s.toks) (λb q hq=>?_) (zzN _)<|Fx z (beq_eq_false_iff_ne.mpr<|Ne.symm<|zzQ I.big) rel dd'),rfl,OA q rm _<|I.hok.fresh<|zzN _⟩;exact(hs.2 b<|zzQ<|zxH hq).trans<|zxG _ hq
 . cases he
def HL:Z8 X kd (.builtin "abs") An:=by
 intro pins s σ H xs us Q I r h;obtain⟨O,ds,z,ht,vl,he,q⟩:=h;unfold An at he
 split at he
 . cases he;obtain⟨x,rfl,vx⟩:=W7 vl;cases vx;exact IH pins s σ H _ us Q I r ⟨_,rfl,yk q<|.int _⟩
 . cases he
def Li(hc:X.calm=true):Z8 X kd (.builtin "max") SW:=by
 intro pins s σ H xs us Q I r h;obtain⟨O,ds,z,ht,vl,he,q⟩:=h;cases vl with
 |nil=>cases he
 |cons vx vl=>
  cases vl with
  |nil=>
   obtain⟨ds,h0,he⟩:=bS_<|he;cases Pg h0;obtain⟨ns,h1,he⟩:=bS_ he;obtain⟨c,rfl⟩:=zq he;cases vx with
   |lst hr rl=>
    obtain⟨u,rfl,ru⟩:=vals1 r;cases ru;obtain⟨its,rv,p,_⟩:=I.list hr.sq;rw[MU rl h1]at rv;have hi:=intsAre_of rv;obtain⟨ys,e⟩:=hi.allInts.items;have hns:ns=ys.toList.map (·.1):=by rw[<-hi.numsOf,<-nums_intItems,<-e]
    have hsz:0<ys.size:=by
     have h3:=c;rwa [hns,zzB]at h3
    have hl:=p.isList;rw[e]at hl;refine max_intList (I.ok.hd hc) hl hsz λv h' tk hv kp=>?_;obtain⟨t,rfl⟩:=intItems_at hv;obtain⟨k1,k2⟩:=argBest_gt (numAt ys)<|ys.size-1;refine⟨.int _,H,I.kept kp,⟨t, ?_⟩,yk q<|.int _⟩
    congr 1
    refine(Dm ?_ λa ha=>?_).symm
    . rw[hns,numAt_eq];have hlt:argBest (λi j=>decide (numAt ys i > numAt ys j)) (ys.size-1)<(ys.toList.map (·.1)).length:=by rw[zzB,zyS];exact q0G hsz k1
      rw[zyE,zzE hlt];exact zyY hlt
    . rw[hns]at ha;obtain⟨j,hj,rfl⟩:=List.getElem_of_mem ha;have hj':=hj;rw[zzB,zyS]at hj;have:=k2 j ⋯
      rwa [numAt_eq ys j,zyE,zzE hj']at this
  |cons vy vl=>
   cases vl with
   |nil=>
    obtain⟨i,j,rfl,rfl,he⟩:=YM vx vy he;cases he;exact Hb hc pins s σ H _ us Q I r ⟨_,_,rfl,yk q<|.int _⟩
   |cons _ _=>cases he
def K2(hc:X.calm=true):Z8 X kd (.builtin "min") OQ:=by
 intro pins s σ H xs us Q I r h;obtain⟨O,ds,z,ht,vl,he,q⟩:=h;unfold OQ at he
 split at he
 . cases he;obtain⟨x,y,rfl,vx,vy⟩:=DO vl;cases vx;cases vy;exact Hc hc pins s σ H _ us Q I r ⟨_,_,rfl,yk q<|.int _⟩
 . obtain⟨ns,h1,he⟩:=bS_ he;obtain⟨c,rfl⟩:=zq he;obtain⟨x,rfl,vx⟩:=W7 vl;cases vx with
   |lst hr rl=>
    obtain⟨u,rfl,ru⟩:=vals1 r;cases ru;obtain⟨its,rv,p,_⟩:=I.list hr.sq;rw[MU rl h1]at rv;have hi:=intsAre_of rv;obtain⟨ys,e⟩:=hi.allInts.items;have hns:ns=ys.toList.map (·.1):=by rw[<-hi.numsOf,<-nums_intItems,<-e]
    have hsz:0<ys.size:=by
     have h3:=c;rwa [hns,zzB]at h3
    have hl:=p.isList;rw[e]at hl;refine min_intList (I.ok.hd hc) hl hsz λv h' tk hv kp=>?_;obtain⟨t,rfl⟩:=intItems_at hv;obtain⟨k1,k2⟩:=argBest_lt (numAt ys)<|ys.size-1;refine⟨.int _,H,I.kept kp,⟨t, ?_⟩,yk q<|.int _⟩
    congr 1
    refine(AL ?_ λa ha=>?_).symm
    . rw[hns,numAt_eq];have hlt:argBest (λi j=>decide (numAt ys i<numAt ys j)) (ys.size-1)<(ys.toList.map (·.1)).length:=by rw[zzB,zyS];exact q0G hsz k1
      rw[zyE,zzE hlt];exact zyY hlt
    . rw[hns]at ha;obtain⟨j,hj,rfl⟩:=List.getElem_of_mem ha;have hj':=hj;rw[zzB,zyS]at hj;have:=k2 j ⋯
      rwa [numAt_eq ys j,zyE,zzE hj']at this
 . cases he
end
def Yi(env:Env):List (Str×NameKind)->List (Str×Addr)->List (Str×Addr)
 | [],cs=>cs
 |(n,k)::r,cs=>Yi env r (if k == .free then((n,(env.cells.lookup n).getD 0)::cs)else cs)
def VI(h:∀x ∈ scope.names,x.2 = .free->∃c,env.cells.lookup x.1=some c):closureFor scope env=pure (Yi env scope.names []):=by
 have s:∀b i f,
  (∀d g i,f (d,g) i=if g == .free then(do let a <-cellOf env d;pure (.yield ((d,a)::i)))else pure<|.yield i)->
  (∀x ∈ b,x.2 = .free->∃c,env.cells.lookup x.1=some c)->(forIn b i f:Sem _)=pure (Yi env b i):=by
  intro b
  induction b with
  |nil=>intro i f _ _;rfl
  |cons x r p=>
   intro i f l m;obtain⟨n,k⟩:=x;rw[List.forIn_cons,l];unfold Yi
   by_cases j:(k == .free)=true
   . obtain⟨c,q⟩:=m _ zzF (by simpa using j);rw[if_pos j,if_pos j];have e:cellOf env n=pure c:=by unfold cellOf;rw[q]
     rw[e,q];exact p _ f l λy o=>m y<|zzD _ o
   . rw[if_neg j,if_neg j];exact p _ f l λy o=>m y<|zzD _ o
 simp only[closureFor];rw[s scope.names [] _ (λd g i=>?_) h]
 . rfl
 . rfl
theorem Ke:∀(names:List (Str×NameKind)) (cs:List (Str×Addr)) (p:Str×Addr),p ∈ Yi env names cs->p ∈ cs\/((p.1,NameKind.free) ∈ names/\p.2=(env.cells.lookup p.1).getD 0)
 | [],_,_,h=>.inl h
 |(n,k)::r,b,p,h=>by
  rcases Ke r _ p h with h|h
  . by_cases a:(k == .free)=true
    . rw[if_pos a]at h
      rcases zzC.mp h with e|h
      . subst e;have:k = .free:=by simpa using a
        subst this;exact .inr ⟨zzF,rfl⟩
      . exact .inl h
    . rw[if_neg a]at h;exact .inl h
  . exact .inr ⟨zzD _ h.1,h.2⟩
theorem Gn:∀(names:List (Str×NameKind)) (cs:List (Str×Addr)) (p:Str×Addr),p ∈ cs->p ∈ Yi env names cs
 | [],_,_,h=>h
 |_::r,a,p,h=>by
  refine Gn r _ p ?_
  split
  . exact zzD _ h
  . exact h
theorem Lh:∀(names:List (Str×NameKind)) (cs:List (Str×Addr)) (x:Str),(x,NameKind.free) ∈ names->(x,(env.cells.lookup x).getD 0) ∈ Yi env names cs
 |_::r,a,x,h=>by
  rcases zzC.mp h with e|h
  . cases e;exact Gn r _ _ ⋯
  . exact Lh r _ x h
theorem YN:∀{l:List (Str×α)},(∀p ∈ l,p.1=x->p.2=a)->(∃b,(x,b) ∈ l)->l.lookup x=some a
 | [],_,h=>by obtain⟨_,h⟩:=h;cases h
 |(k,v)::r,u,h=>by
  rw[List.lookup_cons];cases hb:x==k with
  |true=>
   have:=u _ zzF (beq_iff_eq.mp hb).symm;exact congrArg some this
  |false=>
   refine YN (λp c=>u p<|zzD _ c) ?_;obtain⟨b,h⟩:=h
   rcases zzC.mp h with e|h
   . cases e;simp at hb
   . exact⟨b,h⟩
theorem Uq:∀(names:List (Str×NameKind)) (h:Heap) (acc:List (Str×Addr)) (p:Str×Addr),p ∈ cellsFrom h.objs.size names acc->
 p ∈ acc\/((p.1,NameKind.cell) ∈ names/\(pushCells h names).IsCell p.2 none/\h.objs.size<=p.2)
 | [],_,_,_,m=>.inl m
 |(n,k)::r,h,b,p,m=>by
  unfold cellsFrom at m;unfold pushCells
  split at m
  . rename_i a;rw[if_pos a];have e:(h.push {cls:=.type "cell",data:=.cell none}).objs.size=h.objs.size+1:=zxK ..;rw[<-e]at m
    rcases Uq r _ _ p m with m|⟨c,d,f⟩
    . rcases zzC.mp m with g|m
      . subst g;have:k = .cell:=by simpa using a
        subst this;refine .inr ⟨zzF, ?_,zzN _⟩;have z:(h.push {cls:=.type "cell",data:=.cell none}).IsCell h.objs.size none:=⟨_,zxI _ rfl,rfl⟩;exact z.keeps<|pushCells_keeps r _
      . exact .inl m
    . exact .inr ⟨zzD _ c,d,by rw[e]at f;omega⟩
  . rename_i a;rw[if_neg a]
    rcases Uq r h b p m with m|⟨c,d,f⟩
    . exact .inl m
    . exact .inr ⟨zzD _ c,d,f⟩
theorem Y9:∀(names:List (Str×NameKind)) (n:Nat) (acc:List (Str×Addr)) (p:Str×Addr),p ∈ acc->p ∈ cellsFrom n names acc
 | [],_,_,_,m=>m
 |_::r,n,a,p,m=>by
  unfold cellsFrom
  split
  . exact Y9 r _ _ p<|zzD _ m
  . exact Y9 r _ _ p m
theorem Q7:∀(names:List (Str×NameKind)) (n:Nat) (acc:List (Str×Addr)) (x:Str),(x,NameKind.cell) ∈ names->∃c,(x,c) ∈ cellsFrom n names acc
 |_::r,n,a,x,m=>by
  unfold cellsFrom
  rcases zzC.mp m with e|m
  . cases e;exact⟨n,Y9 r _ _ _ zzF⟩
  . split
    . exact Q7 r _ _ x m
    . exact Q7 r _ _ x m
theorem Ux:∀(names:List (Str×NameKind)) (n:Nat) (acc:List (Str×Addr)),(∀p ∈ acc,p.2<n)->(∀p ∈ acc,∀q ∈ acc,p.2=q.2->p.1=q.1)->∀p ∈ cellsFrom n names acc,∀q ∈ cellsFrom n names acc,p.2=q.2->p.1=q.1
 | [],_,_,_,h=>h
 |_::r,n,c,b,h=>by
  unfold cellsFrom
  split
  . refine Ux r _ _ (λp m=>?_) λp m q a e=>?_
    . rcases zzC.mp m with z|m
      . subst z;exact Nat.lt_succ_self _
      . exact zyZ<|b p m
    . rcases zzC.mp m with z|m
      . rcases zzC.mp a with d|a
        . rw[z,d]
        . subst z;have:=b q a;rw[<-e]at this;exact absurd this ⋯
      . rcases zzC.mp a with d|a
        . subst d;have:=b p m;rw[e]at this;exact absurd this ⋯
        . exact h p m q a e
  . exact Ux r n c b h
section
variable{M:Model}{A:Around}{E:Value->Shared->Prop}{s:Shared}
def X0(scope:Scope)(env:Env)(cl:List (Str×Addr))(L:Addr):Env:=
 {scope:=relabel scope env,locals:=L,globals:=env.globals,cells:=cellsFrom (L+1) scope.names cl,qual:=env.qual,func:=none,code:=env.code,frame:=env.frame,builtins:=env.builtins}
def Nu
 (h:∀h' env',{env' with scope:=relabel scope env}=X0 scope env cl s.heap.objs.size->env'.locals=s.heap.objs.size->(∀b o,s.heap.get? b=some o->h'.get? b=some o)->h'.Ns s.heap.objs.size (λ_=>none)->
  (∀p ∈ cellsFrom (s.heap.objs.size+1) scope.names cl,p ∈ cl\/((p.1,NameKind.cell) ∈ scope.names/\h'.IsCell p.2 none/\s.heap.objs.size+1<=p.2))->Q env' {s with heap:=h'}):
 wpAny M A (newFunctionEnv scope env.globals cl [] env.qual none .none<|some env) Q E s:=by
 simp only[newFunctionEnv,Option.isSome_some,if_true];refine zxE<|wpAny_alloc ?_;refine zxE<|wpAny_layCells _ ⋯ _ _ _ _ ?_;have e:(s.heap.push {cls:=.type "dict",data:=.dict #[]}).objs.size=s.heap.objs.size+1:=zxK ..;refine zxE<|zxF<|zxF<|h _ _ ?_ rfl (λb o q=>pushCells_keeps _ _ b o<|zxG _ q) ((Heap.Ns.new s.heap _).keeps<|pushCells_keeps _ _) λp m=>?_
 . unfold X0;rw[<-e]
 . rw[<-e]at m
   rcases Uq _ _ _ p m with m|⟨g,i,f⟩
   . exact .inl m
   . exact .inr ⟨g,i,by rwa [e]at f⟩
end
abbrev yX(X:Cx)(N:List Str)(scope:Scope)(cl:List (Str×Addr))(s:Shared)(H:Hp)(fp:List Addr):Cx:=
 {X with N:=N,s₀:=s,H₀:=H,env:=X0 scope X.env cl<|s.heap.objs.size+1,outer:=X.stack,ex:=fp,fn:=λx=>scope.names.lookup x==some .cell,pn:=[],xe:=λ_ _=>False}
def lG(σ:St):Option Nat->Option V
 |none=>none
 |some j=>(σ[j]?).getD none
def ZI(cap:List (Option Nat))(σ:St):St:=cap.map<|lG σ
def Qp(N XN:List Str)(names:List (Str×NameKind))(envNames:List (Str×NameKind))(cap:List (Option Nat)):Bool:=
 N.length==cap.length&&(N.zip cap).all (λp=>match p.2 with|none=>true|some j=>XN[j]? == some p.1&&names.contains (p.1,NameKind.free)) &&
 names.all (λp=>p.2 != .free||envNames.lookup p.1==some .cell||envNames.lookup p.1==some .free)&&decide (names.map (·.1)).Nodup
def H0(X:Cx)(ifs:List Expr)(t:TT):Prop:=
 ∀(pins:List (Addr×Obj)) (s:Shared) (σ:St) (H:Hp) (Q:Bool->Hp->Prop),Inv X pins σ H s->t σ H Q->
  wpAny (model X.prog X.w) X.A (forIn ifs true λc r=>if r=true then do let ok <-isTrue c X.env (eval c X.env);pure (ForInStep.yield ok)else pure<|ForInStep.yield r) (TP X pins σ Q) X.xe s
def JC:H0 X [] (λ_ H Q=>Q true H):=λa s σ H Q I h=>wpAny_tests_nil ⟨H,I,h⟩
def JZ(h:PT X c t):H0 X [c] t:=λa s σ H Q I q=>wpAny_tests_one<|h a s σ H Q I q
def C3(wi:TI)(cap:List (Option Nat))(g:TG)(tt:TT)(te:TE):TE:=λσ H Q=>wi σ H λJ H1=>∃W:Nat->Nat->List V->Hp->Prop,(∃m,W 0 m [] H1)/\∀i m ys H,W i m ys H->ys.length<=sizeLine/\
 ((J.stop i H/\∀p,H p=none->Q (.ref p) (upd H p<|.lst ys))\/(J.go i H/\∀x H',J.yld i H x H'->g x (ZI cap σ) H' λσ2 H2=>(∀(j:Nat) v,(ZI cap σ)[j]? = some (some v)->σ2[j]? = some (some v))/\
   tt σ2 H2 λb H3=>if b=true then ys.length<sizeLine/\te σ2 H3 λy H4=>∃m',m'<m/\W (i+1) m' (ys++[y]) H4 else ∃m',m'<m/\W (i+1) m' ys H3))
section
variable{prog:Program}{w:World}{A:Around}{E:Value->Shared->Prop}{R:Result->Shared->Prop}{s:Shared}
def NQ(I:Nat->Shared->Prop)
 (turn:∀n s (E:Value->Shared->Prop),I n s->wpAny (model prog w) A (pyNext it) (λr s₁=>match r with
  |none=>R (.ok .next) s₁
  |some v=>wpAny (model prog w) A (letOwnedTupleGo target it v) (λ_ s₁=>wpAny (model prog w) A (assign target env v) (λ_ s₂=>
   wpAny (model prog w) A (forIn ifs true λc r=>if r=true then do let ok <-isTrue c env (eval c env);pure (ForInStep.yield ok)else pure<|ForInStep.yield r) (λok s₃=>
            if ok=true then wpAny (model prog w) A (eval elt env) (λx s₄=>
             wpAny (model prog w) A (call (.builtin "list.append") [acc,x]) (λ_ s₅=>∃m,m<n/\I m s₅) E s₄) E s₃
            else ∃m,m<n/\I m s₃) E s₂) E s₁) E s₁) E s)
 (n:Nat) (h:I n s):
 codeAny (model prog w) A (.compLoop (.ListComp elt [⟨target,iter,ifs,0⟩] scope pos) 0 it acc env) R s:=by
 refine codeAny_loop rfl I (λn s e=>?_) n h;refine wpAny_noted ?_;rw[compTurn_list];refine zxE<|wpAny_standAt<|zxE<|zxL (turn n s _ e) (λr f b=>?_) λ_ _ a=>a;cases r with
 |none=>exact zxF b
 |some v=>
  refine zxE<|zxL b (λ_ f b=>?_) λ_ _ a=>a;refine zxE<|zxL b (λ_ k g=>zxE<|zxL g (λok l d=>?_) λ_ _ a=>a) λ_ _ a=>a;cases ok with
  |false=>exact zxF ⟨rfl,d⟩
  |true=>
   exact zxE<|zxE<|zxL d (λx o i=>zxE<|zxL i (λ_ p j=>zxF<|zxF ⟨rfl,j⟩) λ_ _ a=>a) λ_ _ a=>a
end
structure CapOk(N XN:List Str)(names:List (Str×NameKind))(envNames:List (Str×NameKind))(cap:List (Option Nat)):Prop where
 len:N.length=cap.length
 at_:∀(i:Nat) x (j:Nat),N[i]? = some x->cap[i]? = some (some j)->XN[j]? = some x/\(x,NameKind.free) ∈ names
 fr:∀p ∈ names,p.2 = .free->envNames.lookup p.1=some .cell\/envNames.lookup p.1=some .free
 nd:(names.map (·.1)).Nodup
def Eg(h:Qp N XN names envNames cap=true):CapOk N XN names envNames cap:=by
 unfold Qp at h;simp only[zyB,beq_iff_eq,List.all_eq_true,decide_eq_true_eq]at h;obtain⟨⟨⟨a,b⟩,c⟩,d⟩:=h;refine⟨a,λi x j f g=>?_,λp k e=>?_,d⟩
 . have m:(x,some j) ∈ N.zip cap:=zzZ (by rw[List.getElem?_zip_eq_some];exact⟨f,g⟩);have:=b _ m;simp at this;exact ⋯
 . have:=c p k;rw[e]at this;simpa using this
def Lm{names:List (Str×NameKind)}(h:(names.map (·.1)).Nodup)(m:(x,k) ∈ names)(m':(x,k') ∈ names):k=k':=by
 induction names with
 |nil=>cases m
 |cons p r ih=>
  obtain⟨h1,h2⟩:=zzV.mp<|h
  rcases zzC.mp m with e|m
  . rcases zzC.mp m' with e'|m'
    . rw[<-e]at e';cases e';rfl
    . exact absurd (zxC.mpr ⟨_,m',by rw[<-e]⟩) h1
  . rcases zzC.mp m' with e'|m'
    . exact absurd (zxC.mpr ⟨_,m,by rw[<-e']⟩) h1
    . exact ih h2 m m'
def UA{names:List (Str×NameKind)}(h:(names.map (·.1)).Nodup)(m:(x,k) ∈ names):names.lookup x=some k:=
 YN (λp a e=>by cases(e);exact Lm h a m) ⟨k,m⟩
def Wq(x):(relabel scope env).names.lookup x=(scope.names.lookup x).map λk=>if(k == .free&&env.scope.kind == .function&&env.kindOf x==some .cell)=true then NameKind.cell else k:=by
 unfold relabel;generalize scope.names=a
 induction a with
 |nil=>rfl
 |cons p r b=>
  obtain⟨n,k⟩:=p;rw[List.lookup_cons];cases hb:x==n with
  |true=>
   have e:=beq_iff_eq.mp hb;subst e;show List.lookup x ((if _=true then _ else _)::_)=_;show _=some (if _=true then NameKind.cell else k)
   split
   . rw[List.lookup_cons,hb]
   . rw[List.lookup_cons,hb]
  |false=>
   show List.lookup x ((if _=true then _ else _)::_)=_
   split
   . rwa [List.lookup_cons,hb]
   . rwa [List.lookup_cons,hb]
def FY(I:Inv X pins σ H s)(C:CapOk N X.N scope.names X.env.scope.names cap)(hk:scope.kind = .function)
 (hf:∀b ∈ fp,Rq X pins H b) (ho:∀b ∈ fp,∃o,s.heap.get? b=some o)
 (old:∀b o,s.heap.get? b=some o->h'.get? b=some o) (ns:h'.Ns (s.heap.objs.size+1) (λ_=>none))
 (hc:∀p ∈ cellsFrom (s.heap.objs.size+1+1) scope.names (Yi X.env scope.names []),p ∈ Yi X.env scope.names []\/((p.1,NameKind.cell) ∈ scope.names/\h'.IsCell p.2 none/\s.heap.objs.size+1+1<=p.2)):
 Inv (yX X N scope (Yi X.env scope.names []) s H fp) [] (ZI cap σ) H {s with heap:=h'}:=by
 have has:∀x,(x,NameKind.free) ∈ scope.names->∃c,X.env.cells.lookup x=some c:=λx m=>I.ok.has x<|C.fr _ m rfl;have clo:∀p ∈ Yi X.env scope.names [],X.env.cells.lookup p.1=some p.2/\(p.1,NameKind.free) ∈ scope.names:=λp m=>by
  rcases Ke _ _ p m with z|⟨z1,z2⟩
  . cases z
  . obtain⟨c,e⟩:=has _ z1;rw[e]at z2;exact⟨by rw[e];exact congrArg some z2.symm,z1⟩
 have look:∀x c,(cellsFrom _ scope.names _).lookup x=some c->_\/_:=λx c e=>by
  rcases hc _ (mem_of_lookup e)with m|m
  . exact .inl<|clo _ m
  . exact .inr m
 have lt:∀x c,X.env.cells.lookup x=some c->c<s.heap.objs.size:=λx c e=>by obtain⟨v,z⟩:=I.cell x c e;exact z.lt
 have lookF:∀x,(x,NameKind.free) ∈ scope.names->∃c,(cellsFrom _ scope.names _).lookup x=some c/\X.env.cells.lookup x=some c:=λx m=>by
  obtain⟨c,e⟩:=has x m;have m1:=Y9 scope.names (s.heap.objs.size+1+1) _ _<|Lh (env:=X.env) scope.names [] x m;refine⟨c,YN (λp hp ep=>?_) ⟨_,m1⟩,e⟩
  rcases hc p hp with z|z
  . have:=(clo p z).1;rw[ep,e]at this;exact(zzY this).symm
  . rw[ep]at z;exact absurd (Lm C.nd z.1 m) (by decide)
 have kinds:∀x,((relabel scope X.env).names.lookup x=some .cell\/(relabel scope X.env).names.lookup x=some .free)->(x,NameKind.free) ∈ scope.names\/(x,NameKind.cell) ∈ scope.names:=λx h=>by
  rw[Wq]at h;cases e:scope.names.lookup x with
  |none=>rw[e]at h;rcases h with h|h<;>cases h
  |some k=>
   have m:=mem_of_lookup e;cases k with
   |free=>exact .inl m
   |cell=>exact .inr m
   |_=>rw[e]at h;rcases h with h|h<;>(simp at h)
 have lsz:=ns.lt;refine⟨⟨I.ok.mod,hk,I.ok.glob,I.ok.blt,zyV _, ?_, ?_, ?_,I.ok.hd,I.ok.frames,.inl rfl, ?_,I.bs,zzO I.ok.bsz I.sz, ?_, ?_,I.stack,I.stkFree⟩,rfl,I.bare,(Un.kept old),⟨_,ns, ?_⟩, ?_,I.hok.fresh<|zyV _, ?_,(λ_ z=>nomatch z),I.hok.kept old, ?_⟩
 . intro x y c e1 e2;refine Ux scope.names _ _ (λp m=>?_) (λp m q m' e=>?_) (x,c) (mem_of_lookup e1) (y,c) (mem_of_lookup e2) rfl
   . exact zyZ<|zyZ<|lt _ _ (clo p m).1
   . refine I.ok.inj _ _ _ (clo p m).1 ?_;rw[e];exact(clo q m').1
 . intro x h
   rcases kinds x h with m|m
   . obtain⟨c,e,_⟩:=lookF x m;exact⟨c,e⟩
   . obtain⟨c,e⟩:=Q7 scope.names _ _ x m;cases q:(cellsFrom _ scope.names _).lookup x with
     |some c'=>exact⟨c',q⟩
     |none=>
      exfalso;have:=List.lookup_eq_none_iff.mp q (x,c) e;simp at this
 . intro x c hx e;have hx:=hx;have m:=mem_of_lookup<|beq_iff_eq.mp hx
   rcases look x c e with z|z
   . exact absurd (Lm C.nd z.2 m) (by decide)
   . exact zzO (zzO (zyV _)<|zyV _) z.2.2
 . intro b hb;obtain⟨o,e⟩:=ho b hb;refine⟨zzQ<|zyZ<|zxH e,λx c ec=>?_⟩
   rcases look x c ec with z|z
   . exact(hf b hb).2.2.2.2.1 x c z.1
   . have:=zxH e;intro q;subst q;exact absurd (zzK this<|zzO (zzO (zyV _)<|zyV _) z.2.2)<|Nat.lt_irrefl _
 . intro b o e hb
   rcases(hf b hb).2.2.2.1 with z|z
   . exact I.ok.noex b o e z
   . exact absurd (zzK (zxH e)<|zzO I.ok.bsz z)<|Nat.lt_irrefl _
 . intro b hb hm
   rcases zzC.mp (I.stkSub b hm)with z|z
   . exact(hf b hb).2.1 z
   . exact(hf b hb).2.2.1 z
 . intro i x v e1 e2 e3;have e2:=e2;unfold ZI at e2;rw[zzI]at e2;cases ec:cap[i]? with
   |none=>rw[ec]at e2;cases e2
   |some c=>
    cases c with
    |none=>rw[ec]at e2;cases e2
    |some j=>
     rw[ec]at e2;have e2:(σ[j]?).getD none=some v:=zzY e2;obtain⟨xn,m⟩:=C.at_ i x j e1 ec;have es:σ[j]? = some (some v):=by
      cases q:σ[j]? with
      |none=>rw[q]at e2;cases e2
      |some y=>rw[q]at e2;exact congrArg some e2
     have kf:=C.fr _ m rfl;obtain⟨mm,hn,hl⟩:=I.loc;obtain⟨u,r,l⟩:=hl j x v xn es (by rcases kf with k|k;exact .inr<|.inl k;exact .inr<|.inr k);refine⟨u,r,.inr ⟨?_, ?_⟩⟩
     . show(relabel scope X.env).names.lookup x=some .cell\/(relabel scope X.env).names.lookup x=some .free;rw[Wq,UA C.nd m];show some (if _ then _ else _)=_\/some (if _ then _ else _)=_
       split
       . exact .inl rfl
       . exact .inr rfl
     . obtain⟨c,ec,eo⟩:=lookF x m;refine⟨c,ec, ?_⟩
       rcases l with⟨k1,_⟩|⟨_,c2,e4,z⟩
       . have k1:X.env.scope.names.lookup x=some .local:=k1
         rcases kf with k|k<;>(rw[k1]at k;cases k)
       . rw[eo]at e4;cases e4;exact z.keeps old
 . intro x c e
   rcases look x c e with z|z
   . obtain⟨v,q⟩:=I.cell x c z.1;exact⟨v,q.keeps old⟩
   . exact⟨none,z.2.1⟩
 . intro x c e
   rcases look x c e with z|z
   . exact I.freeC x c z.1
   . exact I.hok.fresh<|zzO (zzO (zyV _)<|zyV _) z.2.2
 . show _=_;unfold ZI;rw[zzB,C.len]
abbrev lobj(its:List Value):Obj:={cls:=.type "list",data:=.seq its.toArray its.length}
section
variable{X:Cx}{pins:List (Addr×Obj)}{σ:St}{H2:Hp}{s2:Shared}{elt tg iter:Expr}{ifs:List Expr}{scope:Scope}{pos:Pos}{N:List Str}{cap:List (Option Nat)}{g:TG}{tt:TT}{te:TE}{wi:TI}
set_option maxHeartbeats 1000000
def TV{Q:VK}{R:Value->Addr->Result->Shared->Prop}
 (hc:X.calm=true) (C:CapOk N X.N scope.names X.env.scope.names cap) (hk:scope.kind = .function)
 (hg:∀cl s H fp,PG (yX X N scope cl s H fp) tg g) (ht:∀cl s H fp,H0 (yX X N scope cl s H fp) ifs tt) (he:∀cl s H fp,PE (yX X N scope cl s H fp) elt te)
 (I2:Inv X pins σ H2 s2) (T:Turn X.prog X.w X.K tg J fp it tn) (st2:tn 0 s2.heap) (f2:∀b ∈ fp,Rq X pins H2 b)
 (W:Nat->Nat->List V->Hp->Prop) (m0:Nat) (w0:W 0 m0 [] H2)
 (turn:∀i m ys H,W i m ys H->ys.length<=sizeLine/\((J.stop i H/\∀p,H p=none->Q (.ref p) (upd H p<|.lst ys))\/(J.go i H/\∀x H',J.yld i H x H'->g x (ZI cap σ) H' λσ2 H2=>(∀(j:Nat) v,(ZI cap σ)[j]? = some (some v)->σ2[j]? = some (some v))/\
  tt σ2 H2 λb H3=>if b=true then ys.length<sizeLine/\te σ2 H3 λy H4=>∃m',m'<m/\W (i+1) m' (ys++[y]) H4 else ∃m',m'<m/\W (i+1) m' ys H3)))
 (fin:∀ys H3 s1 m,Inv X pins σ (upd H3 s2.heap.objs.size<|.lst ys) s1->s1.heap.Ns (s2.heap.objs.size+1) m->Rq X pins (upd H3 s2.heap.objs.size<|.lst ys) (s2.heap.objs.size+1)->
  Q (.ref s2.heap.objs.size) (upd H3 s2.heap.objs.size<|.lst ys)->R (.ref s2.heap.objs.size) (s2.heap.objs.size+1) (.ok .next) s1):
 wpAny (model X.prog X.w) X.A (newList []) (λacc s₃=>wpAny (model X.prog X.w) X.A (newFunctionEnv scope X.env.globals (Yi X.env scope.names []) [] X.env.qual none .none<|some X.env) (λcenv s₄=>
  codeAny (model X.prog X.w) X.A (.compStart (.ListComp elt [⟨tg,iter,ifs,0⟩] scope pos) 0 (.ref it) acc {cenv with scope:=relabel scope X.env}) (R acc cenv.locals) s₄) E s₃) E s2:=by
 refine wpAny_newObj_type<|Nu λh' env' eE eL old hns hcells=>?_;have e1:(s2.heap.push {cls:=.type "list",dict:=none,data:=.seq ([]:List Value).toArray}).objs.size=s2.heap.objs.size+1:=zxK ..;dsimp only at eE eL old hns hcells;rw[e1]at eE eL hns hcells;have hD0:(s2.heap.push {cls:=.type "list",dict:=none,data:=.seq ([]:List Value).toArray}).get? s2.heap.objs.size=some (lobj []):=zxI _ rfl;have hD:=old _ _ hD0;have old':∀b o,s2.heap.get? b=some o->h'.get? b=some o:=λb o q=>old b o<|zxG _ q;have fex:∀b ∈ fp,∃o,s2.heap.get? b=some o:=λb hb=>by obtain⟨o,e,_⟩:=T.obj _ _ st2 b hb;exact⟨o,e⟩
 have flt:∀b ∈ fp,b<s2.heap.objs.size:=λb hb=>by obtain⟨o,e⟩:=fex b hb;exact zxH e
 have I':=FY I2 C hk f2 fex old' hns hcells;rw[eE,eL];generalize hX:yX X N scope (Yi X.env scope.names []) s2 H2 fp=X' at I';have xP:X'.prog=X.prog:=by rw[<-hX]
 have xw:X'.w=X.w:=by rw[<-hX]
 have xK:X'.K=X.K:=by rw[<-hX]
 have xA:X'.A=X.A:=by rw[<-hX]
 have xe:X'.env=X0 scope X.env (Yi X.env scope.names []) (s2.heap.objs.size+1):=by rw[<-hX]
 have xL:X'.env.locals=s2.heap.objs.size+1:=by rw[xe];rfl
 have xfs:X'.fs=HX X.stack:=by rw[<-hX]
 have xex:X'.ex=fp:=by rw[<-hX]
 have xs:X'.s₀=s2:=by rw[<-hX]
 have xH:X'.H₀=H2:=by rw[<-hX]
 have xpn:X'.pn=[]:=by rw[<-hX]
 have xc:X'.calm=true:=by rw[<-hX];exact hc
 have xE:X'.xe=λ_ _=>False:=by rw[<-hX]
 have hg':PG X' tg g:=by rw[<-hX];exact hg _ _ _ _
 have ht':H0 X' ifs tt:=by rw[<-hX];exact ht _ _ _ _
 have he':PE X' elt te:=by rw[<-hX];exact he _ _ _ _
 have H2D:=I2.hok.fresh<|zzN _;have Dfs:s2.heap.objs.size ∉ X'.fs:=by
  rw[xfs];intro hm
  rcases zzC.mp (I2.stkSub _ hm)with z|z
  . exact absurd I2.lt (by rw[<-z];exact Nat.lt_irrefl _)
  . exact I2.nofs (zzN _) z
 have DL:s2.heap.objs.size≠X'.env.locals:=by rw[xL];exact zzQ<|Nat.lt_succ_self _
 have pinD:∀{σ':St}{H':Hp}{s':Shared}{its:List Value}{ps:List (Addr×Obj)},Inv X' ps σ' H' s'->s'.heap.get? s2.heap.objs.size=some (lobj its)->H' s2.heap.objs.size=none->Inv X' [(s2.heap.objs.size,lobj its)] σ' H' s':=λI e n=>
  I.pins_of λp hp=>by
   cases zzR.mp hp;exact⟨e,n,DL,Dfs,λv z=>by cases z⟩
 have stat:∀{H':Hp}{its:List Value},(∀b ∈ fp,H' b=none)->∀b ∈ fp,Rq X' [(s2.heap.objs.size,lobj its)] H' b:=λhn b hb=>by
  refine⟨hn b hb, ?_, ?_,.inl (by rw[xex];exact hb),(I'.ok.exf b<|by rw[xex];exact hb).2,λp hp=>?_⟩
  . exact(I'.ok.exf b<|by rw[xex];exact hb).1
  . exact I'.ok.exfs b (by rw[xex];exact hb)
  . rw[xpn,List.nil_append]at hp;cases zzR.mp hp;exact Nat.ne_of_gt<|flt b hb
 have loop:∀n s',(∃i ys its H3,Inv X' [(s2.heap.objs.size,lobj its)] (ZI cap σ) H3 s'/\tn i s'.heap/\(∀b ∈ fp,H3 b=none)/\zQ ys its/\W i n ys H3)->
  codeAny (model X.prog X.w) X.A (.compLoop (.ListComp elt [⟨tg,iter,ifs,0⟩] scope pos) 0 (.ref it) (.ref s2.heap.objs.size)<|X0 scope X.env (Yi X.env scope.names [])<|s2.heap.objs.size+1)
   (R (.ref s2.heap.objs.size)<|s2.heap.objs.size+1) s':=by
  intro n s' h0;refine NQ (λn s'=>∃i ys its H3,Inv X' [(s2.heap.objs.size,lobj its)] (ZI cap σ) H3 s'/\tn i s'.heap/\(∀b ∈ fp,H3 b=none)/\zQ ys its/\W i n ys H3) ?_ n h0;clear h0 n s'
  rintro n s3 E' ⟨i,ys,its,H3,I3,st3,fr3,rv3,w3⟩
  obtain⟨hz,hstep⟩:=turn i n ys H3 w3
  rcases hstep with⟨stop,qn⟩|⟨go,step⟩
  . have:=T.done X' xP xw xK xc i _ s3 _ H3 E' I3 (stat fr3) st3 stop;rw[xA]at this;refine zxL this (λr s4 ⟨hr,I4⟩=>?_) λ_ _ z=>z;subst hr;obtain⟨gD,nD,_⟩:=I4.pin (s2.heap.objs.size,lobj its) (by rw[xpn];simp);obtain⟨m,hn,_⟩:=I4.loc;rw[xL]at hn;have b4:=I4.base;rw[xfs,xex,xH,xs]at b4;have nL:H3 (s2.heap.objs.size+1)=none:=by have:=I4.free;rw[xL]at this;exact this
    have neD:∀b o,s2.heap.get? b=some o->b≠s2.heap.objs.size:=λb o e=>zzQ<|zxH e;have neH:∀b u,H2 b=some u->b≠s2.heap.objs.size:=λb u e z=>by rw[z,H2D]at e;cases e
    have ne3:∀b u,H3 b=some u->b≠s2.heap.objs.size:=λb u e z=>by rw[z,nD]at e;cases e
    have hok4:=I4.hok;rw[xP,xw]at hok4;refine fin ys H3 s4 m (I2.call' ?_ ⟨b4.keep,b4.slot,λb o e n hx=>?_,b4.there,λb xs e=>?_,λb o u e=>?_,λb ps e=>?_⟩ ?_ I4.bare λb hb=>?_) hn (I2.fpOk (zyV _)<|by rw[zF<|Nat.ne_of_gt<|Nat.lt_succ_self _];exact nL)<|qn _ nD
    . have:=I4.os;rw[xs]at this;exact this
    . rw[zF<|neD b o e];exact b4.free b o e n hx
    . rw[zF<|neH b _ e];exact b4.tups b xs e
    . rw[zF<|neH b _ e];exact b4.frzs b o u e
    . rw[zF<|neH b _ e];exact b4.tbls b ps e
    . intro b u e
      by_cases hb:b=s2.heap.objs.size
      . subst hb;rw[z8]at e;cases e;exact⟨hz,its,its.length,rv3,gD⟩
      . rw[zF hb]at e;exact(hok4 b u e).stay (λc v _ q=>q) (λc q=>by rw[zF<|ne3 c _ q];exact q) λc xs q=>by rw[zF<|ne3 c _ q];exact q
    . obtain⟨f0,f1,f3,f4,f5,f6⟩:=f2 b hb;exact⟨f4,f1,f5,f6⟩
  . have:=T.item X' xP xw xK xc i _ s3 _ H3 E' I3 (stat fr3) st3 go;rw[xA]at this;refine zxL this (λr s4 ⟨u,hr,h4⟩=>?_) λ_ _ z=>z;subst hr;refine zxL h4 (λ_ s5 ⟨x,H5,I5,r5,y5,st5,fr5⟩=>?_) λ_ _ z=>z;have I5':=I5.pinned (stat fr5)<|T.obj _ _ st5;have h6:=hg' _ s5 _ H5 x u _ I5' r5<|step x H5 y5;rw[xP,xw,xA,xe,xE]at h6;refine zxL h6 (λ_ s6 ⟨σ6,H6,I6,cap6,q6⟩=>?_) λ_ _ z=>z.elim;have h7:=ht' _ s6 σ6 H6 _ I6 q6;rw[xP,xw,xA,xe,xE]at h7;refine zxL h7 (λb s7 ⟨H7,I7,q7⟩=>?_) λ_ _ z=>z.elim;have keep:∀{H8:Hp}{s8:Shared},Inv X' _ σ6 H8 s8->Inv X' [(s2.heap.objs.size,lobj its)] (ZI cap σ) H8 s8/\tn (i+1) s8.heap/\∀b ∈ fp,H8 b=none:=λ{H8 s8} I8=>by
     refine⟨I8.unpinned.weak ?_ cap6,T.keep _ _ _ st5 λb hb o e=>(I8.pin (b,o)<|zzL _<|zzL _<|Xd hb e).1,λb hb=>?_⟩
     . rw[I3.len];exact I8.len.symm
     . obtain⟨o,e,d⟩:=T.obj _ _ st5 b hb;exact(I8.pin (b,o)<|zzL _<|zzL _<|Xd hb e).2.1
    cases b with
    |false=>
     obtain⟨m',hm,w7⟩:=q7;obtain⟨k1,k2,k3⟩:=keep I7;exact⟨m',hm,i+1,ys,its,H7,k1,k2,k3,rv3,w7⟩
    |true=>
     obtain⟨hz2,q7⟩:=q7;have h8:=he' _ s7 σ6 H7 _ I7 q7;rw[xP,xw,xA,xe,xE]at h8;refine zxL h8 (λyv s8 ⟨y,H8,I8,ry,m',hm,w8⟩=>?_) λ_ _ z=>z.elim;obtain⟨k1,k2,k3⟩:=keep I8;obtain⟨gD,nD,_⟩:=k1.pin (s2.heap.objs.size,lobj its) (by rw[xpn];simp);have hl:=rv3.length;refine append_at gD (λh9 sb gD9=>?_) (by rw[zzH];exact q1g hz2 hl);have I9:=(k1.pins_of (pins':=[]) (λ_ z=>nomatch z)).turned (t':=s8.toks) (λb o hb e=>(sb.2 b hb).trans e) nD DL (.inr<|by rw[xs];exact zzN _) (λx c ec z=>by
      obtain⟨v,o,ho,hd⟩:=k1.cell x c ec;rw[z,gD]at ho;cases ho;cases hd) (λp hp=>by rw[xpn]at hp;cases hp)
     have gD9':h9.get? s2.heap.objs.size=some (lobj<|its++[yv]):=by
      rw[gD9]
      congr 1
      show({cls:=.type "list",data:=.seq _ _}:Obj)={cls:=.type "list",data:=.seq (its++[yv]).toArray (its++[yv]).length};rw[zzJ,List.length_singleton,List.push_toArray]
     refine⟨m',hm,i+1,ys++[y],its++[yv],H8,pinD I9 gD9' nD,T.keep _ _ _ k2 λb hb o e=>(sb.2 b<|zzQ<|flt b hb).trans e,k3,rv3.append<|.cons ry .nil,w8⟩
 have start:∃i ys its H3,Inv X' [(s2.heap.objs.size,lobj its)] (ZI cap σ) H3 {s2 with heap:=h'}/\tn i h'/\(∀b ∈ fp,H3 b=none)/\zQ ys its/\W i m0 ys H3:=
  ⟨0,[],[],H2,pinD I' hD H2D,T.keep _ _ _ st2 λb hb o e=>old' b o e,λb hb=>(f2 b hb).1,.nil,w0⟩
 exact codeAny_compStart_list (loop m0 _ start)<|T.self _ 0 _ _ _ (T.keep _ _ _ st2 λb hb o e=>old' b o e)<|loop m0 _ start
def Ab(hc:X.calm=true)(hi:PI X tg iter wi)(hk:scope.kind = .function)(hcap:Qp N X.N scope.names X.env.scope.names cap=true)
 (hg:∀cl s H fp,PG (yX X N scope cl s H fp) tg g) (ht:∀cl s H fp,H0 (yX X N scope cl s H fp) ifs tt) (he:∀cl s H fp,PE (yX X N scope cl s H fp) elt te)
 (hs:∀x,foldedSetIterable iter X.env x=pure x):PE X (.ListComp elt [⟨tg,iter,ifs,0⟩] scope pos) (C3 wi cap g tt te):=by
 intro a s σ H Q I h;have C:=Eg hcap;refine wpAny_comprehension_free rfl hs (VI λx m e=>I.ok.has x.1<|C.fr x m e) hk (λy m e=>UA C.nd<|by rwa [<-e]) ?_;refine xU (hi a s σ H _ I h) λv O i=>xU i λj k l=>?_;obtain⟨P,S,U,J,V,e,n,T,d,f2,W,⟨p,t⟩,c⟩:=l;subst e;refine TV hc C hk hg ht he n T d f2 W p t c λY Z z m B D fl q=>?_;refine⟨m,D,λh' E=>?_⟩;obtain⟨F,f1,f3,G,K,L⟩:=fl;exact⟨.ref k.heap.objs.size,_,B.turned (t':=z.toks) (λb o M e=>(E.2 b M).trans e) F f1 G K L,rfl,q⟩
def Dy(hN:X.N.Nodup)(hiy:X.N[i]? = some y)(hy:Loc X.env.scope y)(hf:X.fn y=true\/X.env.scope.names.lookup y=some .local)
 (hsw:swapsWith (.ListComp elt [⟨tg,iter,ifs,0⟩] scope pos) (some<|.Name y py) spos.line X.env=pure true)
 (hc:X.calm=true) (hi:PI X tg iter wi) (hk:scope.kind = .function) (hcap:Qp N X.N scope.names X.env.scope.names cap=true)
 (hg:∀cl s H fp,PG (yX X N scope cl s H fp) tg g) (ht:∀cl s H fp,H0 (yX X N scope cl s H fp) ifs tt) (he:∀cl s H fp,PE (yX X N scope cl s H fp) elt te)
 (hs:∀x,foldedSetIterable iter X.env x=pure x):PS X (.Assign [.Name y py] (.ListComp elt [⟨tg,iter,ifs,0⟩] scope pos) spos) (rP (C3 wi cap g tt te)<|SD i):=by
 intro c s σ H D I h;have C:=Eg hcap;rw[exec_Assign_Name_used _ _ _ _ hsw];refine zxE<|wpAny_standAt<|zxE ?_;refine zxE<|zxL (wpAny_comprehension_free rfl hs (VI λx m e=>I.ok.has x.1<|C.fr x m e) hk (λy m e=>UA C.nd<|by rwa [<-e]) ?_) (λ_ d t=>zxF<|zxF t) λ_ _ e=>e;refine xU (hi c s σ H _ I h) λv s1 u=>xU u λB E F=>?_;obtain⟨it,fp,tn,J,H2,e,G,T,k,f2,W,⟨K,L⟩,f⟩:=F;subst e;refine TV (Q:=λx M=>SD i x σ M D.nx) hc C hk hg ht he G T k f2 W K L f λys H3 s3 m O P fl q=>?_;obtain⟨S,f1,f3,U,p,V⟩:=fl;refine wpAny_assign_Name<|KO O hN hiy hy (v:=.ref E.heap.objs.size) rfl (λY Z ⟨a,sb,j⟩=>?_) hf;refine⟨m,P.sameBut sb λz=>?_,λh' n=>?_⟩
 . rcases j with j|j
   . exact f1<|z.trans j
   . exact p y a j z.symm
 . exact⟨_,_,Z.turned (t':=Y.toks) (λb o hb e=>(n.2 b hb).trans e) S f1 U p V,q⟩
end
structure ItC(K:zzA)(kd:KD)(F:Addr->Prop)(H:Hp)(J:It)(ds:List wB):Prop where
 all:∀(H2:Hp) (T:Addr->Prop),(∀b u,H b=some u->H2 b=some u)->(∀a,T a->H a=none/\H2 a≠none)->∀i,(i<ds.length->J.go i H2)/\(ds.length<=i->J.stop i H2)/\
  ∀v H3,J.yld i H2 v H3->(∀b o,H2 b=some o->H3 b=some o)/\∀x,ds[i]? = some x->Rp K kd (λa=>x.1=true/\(F a\/T a)) H3 v x.2
def iM(K:zzA)(kd:KD)(f:IF):TI:=λσ H R=>∃F B ad as ds as',Rel K kd F B [] ad as σ H/\f as=some (ds,as')/\
 ∀J ad' H',Rel K kd F B [] ad' as' σ H'->Grow (Gw [] ad) H (Gw [] ad') H'->ItC K kd (Lv F B (Gw [] ad') true) H' J ds->R J H'
@[irreducible] def uo(X:Cx)(kd:KD)(tg iter:Expr)(f:IF):Prop:=PI X tg iter<|iM X.K kd f
def Nc(os:List O):List wB:=os.map λo=>match o with | .lf st d=>(st,d)|o=>(false,o.toD)
def jq(as:AS):RV->Option (List wB)
 | .ow o=>PZ (o.str,o.toD)
 | .bo i=>match as[i]? with
  |some (some (.nd .ls os))=>some (Nc os)
  |some (some (.nd .tp os))=>some (Nc os)
  |_=>none
def Gp(f:EF):IF:=λas=>(f as).bind λp=>(jq p.2 p.1).bind λds=>some (ds,p.2)
section
variable{K:zzA}{kd:KD}{F B:Addr->Prop}{G:Addr->Prop}{T:List Addr}{ad:Ad}{as:AS}{σ:St}{H H':Hp}
inductive RpC(K:zzA)(kd:KD)(F:Addr->Prop)(H:Hp):List V->List wB->Prop
 |nil:RpC K kd F H [] []
 |cons {v:V}{x:wB}{vs:List V}{ds:List wB}:Rp K kd (λa=>x.1=true/\F a) H v x.2->RpC K kd F H vs ds->RpC K kd F H (v::vs) (x::ds)
theorem RpC.length(h:RpC K kd F H vs ds):vs.length=ds.length:=by
 induction h with
 |nil=>rfl
 |cons _ _ ih=>exact congrArg _ ih
def RpC.get{i:Nat}(h:RpC K kd F H vs ds)(e:ds[i]? = some x):∃v,vs[i]? = some v/\Rp K kd (λa=>x.1=true/\F a) H v x.2:=by
 induction h generalizing i with
 |nil=>simp at e
 |cons h r ih=>
  cases i with
  |zero=>simp at e;subst e;exact⟨_,rfl,h⟩
  |succ i=>
   obtain⟨v,h1,h2⟩:=ih ⋯;exact⟨v,⋯,h2⟩
def Rp.since{T}(k:∀b u,H b=some u->H' b=some u)(hT:∀a,T a->H a=none)(h:Rp K kd Ob H v d):Rp K kd (Wj Ob T) H' v d:=
 Rp.grow (W':=T) (H':=H') ⟨λb u q _=>k b u q,λb z=>.inr<|hT b z⟩ (h.less λa z=>z.elim id False.elim)
def Pr{st}(h:RpL K kd (Lv F B G st) H vs ds):RpC K kd (Lv F B G true) H vs (kids st ds):=
 RpL.ind (P:=λvs ds=>RpC K kd _ H vs<|kids st ds) .nil (λ{v d vs ds} h _ ih=>by
  refine .cons (x:=(zE d||st,d)) ?_ ih;cases e:zE d with
  |true=>exact h.flat e
  |false=>
   refine h.less λa z=>?_;have zs:st=true:=z.1;rw[zs];exact z.2) h
def uF{os}(h:wb K kd F B G H vs os fp):RpC K kd (Lv F B G true) H vs (Nc os):=
 RoL.ind (P:=λvs os _=>RpC K kd _ H vs<|Nc os) .nil (λ{v o vs os fp fq} h _ ih=>by
  have ha:=Pu h;refine .cons ?_ ih;cases h with
  |lf rp=>exact rp.less λa z=>(by have zs:=z.1;dsimp only at zs;rw[zs];exact z.2)
  |ls=>exact ha.less λa z=>nomatch z.1
  |dc=>exact ha.less λa z=>nomatch z.1
  |ob=>exact ha.less λa z=>nomatch z.1
  |tp=>exact ha.less λa z=>nomatch z.1) h
def PX(h:Pc K H a vs)(r:RpC K kd F H vs ds):ItC K kd F H (kq K a) ds:=⟨λH3 T k hT i=>by
 have hr3:Pc K H3 a vs:=by
  rcases h with(h|⟨o,h⟩)|h
  . exact .inl<|.inl<|k _ _ h
  . exact .inl<|.inr ⟨o,k _ _ h⟩
  . exact .inr h
 refine⟨λhi=>?_,λhi=>⟨_,hr3,by rwa [r.length]⟩,λv H4 hy=>?_⟩
 . obtain⟨u,hu,_⟩:=r.get<|zzE hi;exact⟨_,u,hr3,hu⟩
 . obtain⟨rfl,hv⟩:=hy;refine⟨λ_ _ z=>z,λd hd=>?_⟩;obtain⟨u,hu,ru⟩:=r.get hd;have:=hv _ hr3;rw[hu]at this;cases this;exact(ru.since k λa z=>(hT a z).1).less λa z=>z.2.elim (λy=>.inl ⟨z.1,y⟩) .inr⟩
def Si(h:V_ K H a vs)(r:RpC K kd F H vs ds):ItC K kd F H (kB K a) ds:=⟨λH3 T k hT i=>by
 have hr3:V_ K H3 a vs:=by
  rcases h with(h|⟨o,h⟩)|h
  . exact .inl<|.inl<|k _ _ h
  . exact .inl<|.inr ⟨o,k _ _ h⟩
  . exact .inr h
 refine⟨λhi=>?_,λhi=>⟨_,hr3,by rwa [r.length]⟩,λv H4 hy=>?_⟩
 . obtain⟨u,hu,_⟩:=r.get<|zzE hi;exact⟨_,u,hr3,hu⟩
 . obtain⟨rfl,hv⟩:=hy;refine⟨λ_ _ z=>z,λd hd=>?_⟩;obtain⟨u,hu,ru⟩:=r.get hd;have:=hv _ hr3;rw[hu]at this;cases this;exact(ru.since k λa z=>(hT a z).1).less λa z=>z.2.elim (λy=>.inl ⟨z.1,y⟩) .inr⟩
def D2(lo)(n:Nat):ItC K kd F H (q8 lo n) (yY lo n):=⟨λH2 T k hT i=>by
 have hl:(yY lo n).length=n:=by unfold yY;simp
 refine⟨λhi=>by rw[hl]at hi;exact hi,λhi=>by rw[hl]at hi;exact hi,λv H3 hy=>?_⟩;obtain⟨rfl,rfl⟩:=hy;refine⟨λ_ _ z=>z,λd hd=>?_⟩;have hi:i<n:=by rw[<-hl];exact(zzG.mp hd).1
 unfold yY at hd;rw[zzI,List.getElem?_range hi]at hd;cases hd;exact .int _⟩
end
def t9(he:AE X kd e fa):uo X kd tg e (Gp fa):=by
 with_unfolding_all (
 intro pins s σ H R I h;obtain⟨F,B,ad,as,ds,as',Rl,e,q⟩:=h;obtain⟨⟨p,as1⟩,h1,e⟩:=bS_<|e;obtain⟨ys,h2,e⟩:=bS_ e;cases e;cases p with
 |ow o=>
  have h2:PZ _=some ds:=h2;generalize hd:o.toD=d at h2;cases d with
  |lst xs=>
   cases h2;refine NK he pins s σ H R I ⟨F,B,ad,as,_,as1,Rl,h1,λv T1 ad1 H1 R1 rv1 g1=>?_⟩;have rp:=FA R1 rv1;rw[hd]at rp;cases rp with
   |lst hn hr rl=>exact⟨_,rfl,⟨_,.inl hr⟩,q _ ad1 H1 R1.drop (g1.trans<|Grow.less Gw.drop)<|PX (.inl hr)<|Pr rl⟩
   |lstK a b c rl=>exact⟨_,rfl,⟨_,.inr ⟨_,_,_,a,rfl,rfl,rfl,b,c⟩⟩,q _ ad1 H1 R1.drop (g1.trans<|Grow.less Gw.drop)<|PX (.inr ⟨_,_,_,a,rfl,rfl,rfl,b,c⟩)<|Pr rl⟩
  |tup xs=>
   cases h2;refine Fp he pins s σ H R I ⟨F,B,ad,as,_,as1,Rl,h1,λv T1 ad1 H1 R1 rv1 g1=>?_⟩;have rp:=FA R1 rv1;rw[hd]at rp;have go:∃a ys,v = .ref a/\V_ X.K H1 a ys/\RpL X.K kd (Lv F B (Gw [] ad1) o.str) H1 ys xs:=by
    cases rp with
    |tup n h r=>exact⟨_,_,rfl,.inl h,r⟩
    |tupK a b c e f r=>exact⟨_,_,rfl,.inr ⟨_,_,_,a,b,c,e,f⟩,r⟩
   obtain⟨a,ys,rfl,hs,rl⟩:=go;exact⟨_,rfl,⟨_,hs⟩,q _ ad1 H1 R1.drop (g1.trans<|Grow.less Gw.drop)<|Si hs<|Pr rl⟩
  |_=>cases h2
 |bo i=>
  have h2:(match as1[i]? with|some (some<|.nd .ls os)=>some _|some (some<|.nd .tp os)=>some _|_=>none)=some ds:=h2;cases k:as1[i]? with
  |none=>rw[k]at h2;cases h2
  |some s0=>
   rw[k]at h2
   match s0,h2,k with
   |some (.nd .ls os),h2,k=>
    cases h2;refine NK he pins s σ H R I ⟨F,B,ad,as,_,as1,Rl,h1,λv T1 ad1 H1 R1 rv1 g1=>?_⟩;obtain⟨rfl,hs⟩:=rv1;obtain⟨w,hw,ro⟩:=R1.sl i _ k;rw[hs]at hw;cases hw;generalize hfp:ad1 i=fp at ro;cases ro with
    |ls hH rl=>exact⟨_,rfl,⟨_,.inl<|.inl hH⟩,q _ ad1 H1 R1 g1<|PX (.inl<|.inl hH)<|uF rl⟩
   |some (.nd .tp os),h2,k=>
    cases h2;refine Fp he pins s σ H R I ⟨F,B,ad,as,_,as1,Rl,h1,λv T1 ad1 H1 R1 rv1 g1=>?_⟩;obtain⟨rfl,hs⟩:=rv1;obtain⟨w,hw,ro⟩:=R1.sl i _ k;rw[hs]at hw;cases hw;generalize hfp:ad1 i=fp at ro;cases ro with
    |tp n hH rl=>exact⟨_,rfl,⟨_,.inl<|.inl hH⟩,q _ ad1 H1 R1 g1<|Si (.inl<|.inl hH)<|uF rl⟩)
def KQ(hg:Gl X "range")(hm:X.mg "range"=none)(ha:AA X kd [a] fr)(hs:starEach [a] X.env=[(false,eval a X.env)]):uo X kd tg (.Call (.Name "range" p) [a] [] pos) (yK fr xa):=by
 with_unfolding_all (
 intro pins s σ H R I h;obtain⟨F,B,ad,as,ds,as',Rl,e,q⟩:=h;obtain⟨⟨ps,as1⟩,h1,e⟩:=bS_<|e;obtain⟨⟨xs,lv⟩,h2,e⟩:=bS_ e;obtain⟨ys,h3,e⟩:=bS_ e;cases e;obtain⟨j,rfl,h3⟩:=BQ h3
 . obtain⟨hj,e3⟩:=zq h3;cases e3;refine Kz hg hm ha hs pins s σ H R I ⟨F,B,ad,as,ps,_,Rl,h1,λvs ad1 H1 R1 rv1 g1=>?_⟩;have vl:=Vb R1 rv1 h2;cases vl with
   |cons v1 v2=>
    cases v2;cases v1;exact⟨j,rfl,hj.1,hj.2,q _ ad1 H1 R1 g1<|D2 0 _⟩)
def jH(as:AS):Option Nat->Option O
 |none=>none
 |some j=>match as[j]? with
  |some (some (.lf st d))=>some (.lf st d)
  |some (some o)=>some (.lf false o.toD)
  |_=>none
def Rr(cap:List (Option Nat))(as:AS):AS:=cap.map<|jH as
def vP(g:GF)(tt:TF)(fe:EF)(as0:AS):List wB->Option (List O)
 | []=>some []
 |x::r=>(g x as0).bind λas1=>(tt as1).bind λb=>if b.1=true then(fe b.2).bind λp=>(JS p.2 p.1).bind λq=>if q.1.str=true then(vP g tt fe as0 r).bind λos=>some (q.1::os)else none
  else vP g tt fe as0 r
def xM(fi:IF)(cap:List (Option Nat))(g:GF)(tt:TF)(fe:EF):EF:=λas=>(fi as).bind λp=>if p.1.length<=sizeLine then(vP g tt fe (Rr cap p.2) p.1).bind λos=>some (.ow<|.nd .ls os,p.2)else none
def Y2:TF:=λas=>some (true,as)
section
variable{K:zzA}{kd:KD}{F B:Addr->Prop}{T:List Addr}{ad:Ad}{as:AS}{σ:St}{H H':Hp}{cap:List (Option Nat)}
def JB(R:Rel K kd F B [] ad as σ H)(k:∀b u,H b=some u->H' b=some u)(hT:∀a ∈ T,H a=none)(hT':∀a ∈ T,H' a≠none):
 Rel K kd (Wj (Lv F B (Gw [] ad) true) (· ∈ T)) (λ_=>False) [] (λ_=>[]) (Rr cap as) (ZI cap σ) H':=by
 have no:∀a,¬Gw [] (λ_=>[]) a:=λa z=>z.elim ⋯ λ⟨_,y⟩=>nomatch y;have kn:∀a,H a≠none->H' a≠none:=λa z=>by
  cases e:H a with
  |none=>exact absurd e z
  |some u=>rw[k a u e];simp
 have up:∀{st:Bool}{v:V}{d:D},Rp K kd (λa=>st=true/\Lv F B (Gw [] ad) true a) H v d->Rp K kd (Lv (Wj _ _) (λ_=>False) _ st) H' v d:=λ{st v d} h=>by
  have:=Rp.grow (W':=_) (H':=H') ⟨λb u q _=>k b u q,λb z=>.inr<|hT b z⟩<|h.less λa z=>z.elim id False.elim;refine this.less λa z=>?_
  rcases z with(⟨z1,z2⟩|z)|z
  . rcases z2 with z2|z2
    . exact .inl ⟨z1,z2⟩
    . exact .inr z2
  . exact z.elim
  . exact(no a z).elim
 refine⟨by unfold Rr ZI;rw[zzB,zzB],λ_ _=>rfl,λ_=>zyI,(λ_ _ _ z=>nomatch z),zyI,(λ_ _ _ z=>nomatch z),λa z=>z.elim (λy=>kn a<|R.trk true a y)<|hT' a,(λ_ z=>z.elim),λa z=>(no a z).elim,λi s e=>?_⟩;unfold Rr at e;rw[zzI]at e;obtain⟨c,hc,rfl⟩:=zzW.mp e;have es:(ZI cap σ)[i]? = some (lG σ c):=by
  unfold ZI;rw[zzI,hc];rfl
 rw[es];cases c with
 |none=>rfl
 |some j=>
  show P1 _ _ _ _ _ _ (match as[j]? with|some (some<|.lf st d)=>some _|some (some o)=>some _|_=>none) _ _;cases k2:as[j]? with
  |none=>rfl
  |some s0=>
   cases s0 with
   |none=>rfl
   |some o=>
    obtain⟨v,hv,ro⟩:=R.sl j _ k2;cases o with
    |lf st d=>
     have e0:ad j=[]:=by
            generalize hfp:ad j=fp at ro;cases ro;rfl
     rw[e0]at ro;refine⟨v,by show some ((σ[j]?).getD none)=_;rw[hv];rfl,.lf<|up ?_⟩;exact(PC ro).less λa z=>by have zs:=z.1;rw[zs];exact z.2
    |nd kk os=>exact⟨v,by show some ((σ[j]?).getD none)=_;rw[hv];rfl,.lf<|up ((Pu ro).less λa z=>nomatch z.1)⟩
def Jj(hS:∀i ∈ S,cap[i]? = some none)(h:al K kd (xM fi cap g tt fe) σ H Q):
 C3 (iM K kd fi) cap (ke K kd S g) (Ai K kd tt) (al K kd fe) σ H Q:=by
 obtain⟨F,B,ad,as,r,as',R,e,q⟩:=h;obtain⟨⟨ds,as1⟩,h1,e⟩:=bS_<|e
 by_cases hz:ds.length<=sizeLine
 . have e:(if ds.length<=sizeLine then(vP g tt fe (Rr cap as1) ds).bind λos=>some (RV.ow<|.nd .ls os,as1)else none)=some (r,as'):=e;rw[if_pos hz]at e;obtain⟨os,h2,e⟩:=bS_ e;cases e;refine⟨F,B,ad,as,ds,as',R,h1,λJ ad1 H1 R1 g1 it=>?_⟩;refine⟨λi m ys H3=>m+i=ds.length/\∃T os1 os2,os=os1++os2/\vP g tt fe (Rr cap as') (ds.drop i)=some os2/\os1.length<=i/\T.Nodup/\(∀a ∈ T,H1 a=none/\H3 a≠none)/\(∀b u,H1 b=some u->H3 b=some u)/\
    RoL (λ_ v d=>Rp K kd (Wj (Lv F B (Gw [] ad1) true) (· ∈ T)) H3 v d) (λa=>¬Wj (Lv F B (Gw [] ad1) true) (· ∈ T) a) H3 ys os1 T,⟨ds.length,rfl,[],[],os,rfl,h2,zzN _,zyI,(λ_ m=>nomatch m),(λ_ _ z=>z),.nil⟩, ?_⟩
   rintro i m ys H3 ⟨hm,T,os1,os2,eo,ec,hl,tnd,tf,k3,rl⟩
   obtain⟨i1,i2,i3⟩:=it.all H3 (· ∈ T) k3 tf i;have yl:=rl.length;refine⟨by omega, ?_⟩
   by_cases hi:i<ds.length
   . refine .inr ⟨i1 hi,λv H4 hy=>?_⟩;obtain⟨k4,rp⟩:=i3 v H4 hy;rw[zyP hi]at ec;obtain⟨as2,e2,ec⟩:=bS_<|ec;obtain⟨⟨b,as3⟩,e3,ec⟩:=bS_ ec;have k14:=λb u h=>k4 b u<|k3 b u h;have kn4:∀a,H3 a≠none->H4 a≠none:=λa z=>by
      cases e:H3 a with
      |none=>exact absurd e z
      |some u=>rw[k4 a u e];simp
     have R4:=JB (cap:=cap) R1 k14 (λa z=>(tf a z).1) λa z=>kn4 a (tf a z).2;have no:∀a,¬Gw [] (λ_=>[]) a:=λa z=>z.elim (λy=>nomatch y) λ⟨_,y⟩=>nomatch y;refine⟨_,_,_,_,ds[i],as2,R4,(rp _<|zzE hi).less λa z=>?_,e2,λσ5 ad5 H5 R5 g5 keep5=>⟨λj w hw=>?_,_,_,ad5,as2,b,as3,R5,e3,λad6 H6 R6 g6=>?_⟩⟩
     . rcases z with(z|z)|z
       . exact z
       . exact z.elim
       . exact(no a z).elim
     . rw[keep5 j λz=>?_]
       . exact hw
       . have:=hS j z;unfold ZI at hw;rw[zzI,this]at hw;cases hw
     . -- what stood is kept
       have g46:=g5.trans g6;have k46:=λb u h=>g46.keep b u h<|no b;have k36:=λb u h=>k46 b u<|k4 b u h;have kn6:∀a,H3 a≠none->H6 a≠none:=λa z=>by
        cases e:H3 a with
        |none=>exact absurd e z
        |some u=>rw[k36 a u e];simp
       have up:∀{H7:Hp}{T2:List Addr},_->_->RoL (λ_ v d=>Rp K kd (Wj _ (· ∈ T++T2)) H7 v d) (λa=>¬Wj _ (· ∈ T++T2) a) H7 ys os1 T:=λ{H7 T2} k7 f7=>
        RoL.mono (λst v d r=>(r.since k7 f7).less λa z=>z.elim (λy=>.inl<|.inl y) λy=>(zzM.mp y).elim (λx=>.inl<|.inr x) .inr)
            (λa vs n e=>⟨λz=>z.elim (λy=>n<|.inl y) λy=>(zzM.mp y).elim (λx=>n<|.inr x) λx=>(by have:=f7 a x;rw[this]at e;cases e),k7 _ _ e⟩) (λa _ u h=>k7 a u h) rl
       cases b with
       |false=>
        have:=up (T2:=[]) k36 (λ_ m=>nomatch m);rw[zyD]at this;exact⟨m-1,q0H hm hi,q0E hm hi,T,os1,os2,eo,ec,Nat.le_succ_of_le hl,tnd,λa z=>⟨(tf a z).1,kn6 a (tf a z).2⟩,λb u h=>k36 b u<|k3 b u h,this⟩
       |true=>
        rw[if_pos rfl]at ec;obtain⟨⟨p,as7⟩,e7,ec⟩:=bS_ ec;obtain⟨⟨o,as8⟩,e8,ec⟩:=bS_ ec
        by_cases hs:o.str=true
        . have ec:=ec;rw[if_pos hs]at ec;obtain⟨os3,e9,ec⟩:=bS_ ec;cases ec;refine⟨by omega,_,_,ad6,as3,p,as7,R6,e7,λy T2 ad7 H7 R7 rv7 g7=>?_⟩;obtain⟨ad8,R8,ro8,le8⟩:=PV R7 rv7 e8;have g47:=g46.trans g7;have k47:=λb u h=>g47.keep b u h<|no b;have k37:=λb u h=>k47 b u<|k4 b u h;have f42:=λa z=>(g47.own a<|.inl z).resolve_left<|no a;have f32:∀a ∈ T2,H3 a=none:=λa z=>by
             cases e:H3 a with
             |none=>rfl
             |some u=>have:=k4 a u e;rw[f42 a z]at this;cases this
          have rt:=LM R8 R8.tnd (λa z=>.inl z) ro8 hs;have ro9:Ro (λ_ v d=>Rp K kd (Wj _ (· ∈ T++T2)) H7 v d) (λa=>¬Wj _ (· ∈ T++T2) a) H7 y o T2:=
             Ro.mono (λst v d r=>r.less λa z=>z.elim (λy=>.inl<|.inl y) λy=>(zzM.mp y).elim (λx=>.inl<|.inr x) .inr)
              (λa vs n e=>⟨λz=>n<|z.elim (λy=>.inl<|.inl y) λy=>(zzM.mp y).elim (λx=>.inl<|.inr x) .inr,e⟩) (λ_ _ _ h=>h) rt.ro
          refine⟨m-1,q0H hm hi,q0E hm hi,T++T2,os1++[o],os3,by rw[eo,zxB];rfl,e9,by rw[zzJ,List.length_singleton];omega,zxD.mpr ⟨tnd,rt.nd,λa z b z' e=>?_⟩,λa z=>?_,λb u h=>k37 b u<|k3 b u h,(up k37 f32).append<|RoL.one ro9⟩
          . subst e;exact(tf a z).2<|f32 a z'
          . rcases zzM.mp z with z|z
            . refine⟨(tf a z).1, ?_⟩;cases e:H3 a with
              |none=>exact absurd e (tf a z).2
              |some u=>rw[k37 a u e];simp
            . refine⟨?_,rt.tr a z⟩;cases e:H1 a with
              |none=>rfl
              |some u=>have:=k3 a u e;rw[f32 a z]at this;cases this
        . have ec:=ec;rw[if_neg hs]at ec;cases ec
   . refine .inl ⟨i2 (q1j hm hi),λp hp=>?_⟩;rw[List.drop_eq_nil_of_le<|(q1j hm hi)]at ec;cases ec;rw[zyD]at eo;subst eo;have pT:=λz=>(tf p z).2 hp;have H1p:H1 p=none:=by
      cases e:H1 p with
      |none=>rfl
      |some u=>have:=k3 p u e;rw[hp]at this;cases this
     have kp:∀b u,H3 b=some u->upd H3 p (.lst ys) b=some u:=λb u h=>by rw[zF<|zY h hp];exact h
     obtain⟨R9,g9⟩:=R1.news (T':=p::T) (H':=upd H3 p<|.lst ys) (zzV.mpr ⟨pT,tnd⟩) (λa z=>(zzC.mp z).elim (λe=>by rw[e];exact H1p) λz=>(tf a z).1) (λb u h=>kp b u<|k3 b u h) (λa z=>by
      rcases zzC.mp z with e|z
      . rw[e,z8];simp
      . cases e:H3 a with
        |none=>exact absurd e (tf a z).2
        |some u=>rw[kp a u e];simp)
     refine q _ (p::T) ad1 _ R9 (.ls z8 ?_)<|g1.trans g9;have le:∀st a,Lv F B (Gw (p::T) ad1) st a->Wj (Wj (Lv F B (Gw [] ad1) true) (· ∈ T)) (· = p) a:=λst a z=>by
      rcases z with(z|z)|z|z
      . exact .inl<|.inl<|.inl<|.inl ⟨rfl,z.2⟩
      . exact .inl<|.inl<|.inl<|.inr z
      . exact(zzC.mp z).elim .inr λy=>.inl<|.inr y
      . exact .inl<|.inl<|.inr<|.inr z
     exact RoL.mono (λst v d r=>(r.since kp λa z=>by rw[z];exact hp).less<|le st) (λa vs n e=>⟨λz=>(le true a z).elim n λy=>(by rw[y,hp]at e;cases e),kp _ _ e⟩) (λa _ u h=>kp a u h) rl
 . have e:=e;rw[if_neg hz]at e;cases e
end
section
variable{X:Cx}{kd:KD}{elt tg iter e a b c:Expr}{es ifs:List Expr}{scope:Scope}{pos:Pos}{N:List Str}{cap:List (Option Nat)}{g:GF}{tt:TF}{fe fa fb:EF}{fi:IF}{S:List Nat}{fr:AF}{fd:DF}
def BL:H0 X [] (Ai X.K kd Y2):=λa s σ H Q I h=>by
 obtain⟨F,B,c,as,b,d,R,e,q⟩:=h;cases e;exact JC a s σ H Q I<|q c H R Grow.refl
def Aq(h:AT X kd c tt):H0 X [c] (Ai X.K kd tt):=by with_unfolding_all exact(JZ h)
def Aj(hc:X.calm=true)(hi:uo X kd tg iter fi)(hk:scope.kind = .function)(hcap:Qp N X.N scope.names X.env.scope.names cap=true)(hS:S.all (λi=>cap[i]? == some none)=true)
 (hg:∀cl s H fp,AG (yX X N scope cl s H fp) kd tg S g) (ht:∀cl s H fp,H0 (yX X N scope cl s H fp) ifs<|Ai X.K kd tt) (he:∀cl s H fp,AE (yX X N scope cl s H fp) kd elt fe)
 (hs:∀x,foldedSetIterable iter X.env x=pure x):AE X kd (.ListComp elt [⟨tg,iter,ifs,0⟩] scope pos) (xM fi cap g tt fe):=by with_unfolding_all exact(yb (Ab (g:=ke X.K kd S g) (te:=al X.K kd fe) hc hi hk hcap hg ht he hs) λσ H Q h=>Jj (λi m=>by simpa using List.all_eq_true.mp hS i m) h)
def BN(hN:X.N.Nodup)(hiy:X.N[i]? = some y)(hy:Loc X.env.scope y)(hf:X.fn y=true\/X.env.scope.names.lookup y=some .local)
 (hsw:swapsWith (.ListComp elt [⟨tg,iter,ifs,0⟩] scope pos) (some<|.Name y py) spos.line X.env=pure true)
 (hc:X.calm=true) (hi:uo X kd tg iter fi) (hk:scope.kind = .function) (hcap:Qp N X.N scope.names X.env.scope.names cap=true) (hS:S.all (λi=>cap[i]? == some none)=true)
 (hg:∀cl s H fp,AG (yX X N scope cl s H fp) kd tg S g) (ht:∀cl s H fp,H0 (yX X N scope cl s H fp) ifs<|Ai X.K kd tt) (he:∀cl s H fp,AE (yX X N scope cl s H fp) kd elt fe)
 (hs:∀x,foldedSetIterable iter X.env x=pure x):Ld X kd (.Assign [.Name y py] (.ListComp elt [⟨tg,iter,ifs,0⟩] scope pos) spos) (zr z i<|xM fi cap g tt fe):=by with_unfolding_all exact(xm (Dy (g:=ke X.K kd S g) (te:=al X.K kd fe) hN hiy hy hf hsw hc hi hk hcap hg ht he hs) λD σ H h=>by
 obtain⟨F,B,c,as,o,R,e,q⟩:=h;obtain⟨⟨p,a⟩,d,e⟩:=bS_<|e;obtain⟨_,j,e⟩:=bS_ e;obtain⟨k,e⟩:=zq e;cases e;refine Jj (λi m=>by simpa using List.all_eq_true.mp hS i m) ⟨F,B,c,as,p,a,R,d,λv A n r t u g=>?_⟩;obtain⟨b,R2,w⟩:=ET t u j k;exact q _ b r R2<|g.trans<|Grow.less w)
def DS(F:FnOk X.prog X.w X.K X.mg X.base Ys k f fdt ps (XX X.K kd gg))(hr:Room k X.A)(hg:Gl X x)(hm:X.mg x=some (.ref f))(hk:W.keepIn X.K (.ref f)=true)
 (hb:Binds X.K fdt ps []) (hx:vF Ys X (λ_ _ _=>False)) (ha:AA X kd (e::es) fr) (hdb:(x==("__debug__":Str))=false) (he:starEach (e::es) X.env=(false,eval e X.env)::starEach es X.env) (hpl:(backTo pos<|starEach es X.env).any (·.1)=false):
 AE X kd (.Call (.Name x p) (e::es) [] pos) (ze fr gg):=by with_unfolding_all exact(yb (Nz F hr hg hm hk hb .nil hx ha hdb he hpl) λσ H Q h=>qG h)
def sY{id}(hc:Z8 X kd (.builtin id) gg)(hg:Gl X x)(hm:X.mg x=none)(hv:bootBuiltins x=some (.builtin id))(ha:AA X kd (e::es) fr)(hn:x≠"__name__")(hdb:(x==("__debug__":Str))=false)
 (he:starEach (e::es) X.env=(false,eval e X.env)::starEach es X.env) (hpl:(backTo pos<|starEach es X.env).any (·.1)=false):AE X kd (.Call (.Name x p) (e::es) [] pos) (fP fr gg):=by with_unfolding_all exact(yb (Pf hc hg hm hv ha hn hdb he hpl) λσ H Q h=>il (λ_ _ _ z=>z) h)
def qH(hc:Z8 X kd (.type T) gg)(hg:Gl X x)(hm:X.mg x=none)(hv:bootBuiltins x=some (.type T))(ha:AA X kd (e::es) fr)(hn:x≠"__name__")(hdb:(x==("__debug__":Str))=false)
 (he:starEach (e::es) X.env=(false,eval e X.env)::starEach es X.env) (hpl:(backTo pos<|starEach es X.env).any (·.1)=false):AE X kd (.Call (.Name x p) (e::es) [] pos) (fP fr gg):=by with_unfolding_all exact(yb (Hr hc hg hm hv ha hn hdb he hpl) λσ H Q h=>il (λ_ _ _ z=>z) h)
def Um(fa:EF)(c:String):EF:=λas=>(fa as).bind λp=>(p.1.frz.view p.2).bind λx=>if F0 x.1=true then some (.ow<|.lf true<|.bl<|Kn (rJ x.1) c,p.2)else none
def CU(hk:KdOk X kd):YW X (.builtin "isinstance") (λxs H Q=>∃x c O d,xs=[x,.ty c]/\Q5 c=true/\Vw X.K kd O H x d/\F0 d=true/\Q (.bl<|Kn (rJ d) c) H):=by
 intro b s σ H l m Q I r h;obtain⟨x,c,O,d,rfl,e,f,g,q⟩:=h;cases r with
 |cons i a=>
  cases a with
  |cons a j=>
   cases j;cases(a);exact tO hk I i f e g λk=>⟨.bl _,H,I.tok k,rfl,q⟩
def Uw{c}(hkd:KdOk X kd)(hc:Q5 c=true)(hg:Gl X x)(hm:X.mg x=none)(hv:bootBuiltins x=some (.builtin "isinstance"))(hg2:Gl X y)(hm2:X.mg y=none)(hv2:bootBuiltins y=some (.type c))(ha:AE X kd a fa)
 (hn:x≠"__name__") (hdb:(x==("__debug__":Str))=false) (hn2:y≠"__name__") (hdb2:(y==("__debug__":Str))=false)
 (he:starEach [a,.Name y p2] X.env=(false,eval a X.env)::starEach [.Name y p2] X.env) (he2:starEach [.Name y p2] X.env=(false,eval (.Name y p2) X.env)::starEach [] X.env) (hpl:(backTo pos<|starEach [.Name y p2] X.env).any (·.1)=false):
 AE X kd (.Call (.Name x p) [a,.Name y p2] [] pos) (Um fa c):=by with_unfolding_all exact(yb (Pf (CU hkd) hg hm hv (Xp ha (Xp (A7 (v:=.ty c) hg2 hm2 hv2 rfl hn2 hdb2) Us he2) he) hn hdb he hpl) λσ H Q h=>by
 obtain⟨F,B,s,as,r,i,R,e,q⟩:=h;obtain⟨_,k,e⟩:=bS_<|e;obtain⟨⟨d,t⟩,l,e⟩:=bS_ e;obtain⟨m,e⟩:=zq e;cases e;exact xS R k λv b n g f o=>⟨v,c,_,d,rfl,hc,xq.vw g f l,m,q _ [] b n g (.lf<|.bl _) o⟩)
def Yt:MG:=λos es=>match es with | [o]=>if os.length<sizeLine then some (os++[o],.lf true .non)else none|_=>none
def Uh:MG:=λos es=>match es with | [.lf _<|.int i]=>if -(2 ^ 63)<=i/\i<2 ^ 63 then(seqIndex? i os.length).bind λk=>(os[k]?).bind λo=>some (os.eraseIdx k,o)else none|_=>none
def J_{l f fo g:List Addr}(h:l.Nodup)(e:l=f++(fo++g)):((f++g)++fo).Nodup/\∀a ∈ (f++g)++fo,a ∈ l:=by
 subst e;have p:(f++(fo++g)).Perm ((f++g)++fo):=by
  rw[zxB];exact(List.perm_append_comm).append_left f
 exact⟨p.nodup_iff.mp h,λa m=>p.mem_iff.mpr m⟩
def s_:ku X kd Bz Yt:=by
 intro F B G l f p q r g o s t H Q h c b d e k;unfold Yt at e
 split at e
 . obtain⟨i,e⟩:=zq e;cases e;cases b with
   |cons j n=>
    cases n;rw[zyD]at d k;exact⟨l,f,_,rfl,rfl,h,by rw[c.length];exact i,k _ _ _ [] (c.append<|RoL.one j) (.lf .non) ⋯ (by rwa [zyD])⟩
 . cases e
def I0:ku X kd Cg Uh:=by
 intro F B G l g E I J h o K L H Q m b a c e k;unfold Uh at e
 split at e
 . rename_i M i
   split at e
   . rename_i d;obtain⟨j,n,e⟩:=bS_ e;obtain⟨N,p,e⟩:=bS_ e;cases e;obtain⟨v,f,q,r,s,t,u,w,x⟩:=b.at_ p;cases a with
     |cons y z=>
      cases z;cases y with
      |lf A=>
       cases A;rw[zyD,zyD]at c k;obtain⟨C,D⟩:=J_ c t;refine⟨l,g,i,j,v,rfl,rfl,m,d.1,d.2,by rw[b.length];exact n,s,k v _ _ q ?_ u D C⟩;rw[UX,UX];exact w.append x
   . cases e
 . cases e
def OJ{i:Nat}{id}(hm:jX X id r)(hr:ku X kd r gg)(slot:Slot "list" name id)(hty:typeOf (.builtin id)=pure (.type "method_descriptor"))(ho:PE X (.Name x p) (Y1 i))(ha:AD X kd (e::es) fd)
 (hbase:attributeBase (.Name x p) name X.env (eval (.Name x p) X.env)=eval (.Name x p) X.env)
 (hfew:((backTo cpos<|starEach (e::es) X.env).all (λx=>!x.1)&&(backToKw cpos<|keywordEach [] X.env).all (λx=>x.1.isSome)
  && decide ((e::es).length+([]:List Keyword).length+(if([]:List Keyword).isEmpty then 0 else 1)<30))=true)
 (hline:(apos.endLine==cpos.line)=true) (hs:starEach (e::es) X.env=(false,eval e X.env)::starEach es X.env) (hplain:(backTo cpos<|starEach es X.env).any (·.1)=false):
 AE X kd (.Call (.Attribute (.Name x p) name apos) (e::es) [] cpos) (Yu i fd gg):=by with_unfolding_all exact(yb (uQ PySem.F.plainAttrs_list slot hty hm ho ha hbase hfew hline hs hplain) λσ H Q h=>mJ hr h)
end
inductive Ty where
 |str|lst|dct|int
def Ty.nm:Ty->String
 | .str=>"str" | .lst=>"list" | .dct=>"dict" | .int=>"int"
def DI:Ty->D->Bool
 | .str,.str _=>true
 | .lst,.lst _=>true
 | .dct,.dct _=>true
 | .int,.int _=>true
 |_,_=>false
def iB(X:Cx)(T:String)(x:V)(H:Hp):Prop:=∀(pins:List (Addr×Obj)) (σ:St) (s:Shared) (v:Value),Inv X pins σ H s->RelV x v->s.TypeIs v T/\∀a,v = .ref a->∃ob,s.heap.get? a=some ob/\ob.dict=none
def ij(X:Cx)(T:String)(r:V->List V->Hp->VK->Prop)(to:TE)(t:TA):TE:=λσ H Q=>to σ H λx H1=>iB X T x H1/\t σ H1 λxs H2=>r x xs H2 Q
section
variable{X:Cx}{kd:KD}{o e:Expr}{es:List Expr}{to:TE}{t:TA}{name:Str}{apos cpos:Pos}{T id:String}{r:V->List V->Hp->VK->Prop}
def oP(pa:PlainAttrs T)(slot:Slot T name id)(hty:typeOf (.builtin id)=pure (.type "method_descriptor"))(hm:jh X id r)(ho:PE X o to)(ha:PA X (e::es) t)
 (hbase:attributeBase o name X.env (eval o X.env)=eval o X.env)
 (hfew:((backTo cpos<|starEach (e::es) X.env).all (λx=>!x.1)&&(backToKw cpos<|keywordEach [] X.env).all (λx=>x.1.isSome)
  && decide ((e::es).length+([]:List Keyword).length+(if([]:List Keyword).isEmpty then 0 else 1)<30))=true)
 (hline:(apos.endLine==cpos.line)=true) (hs:starEach (e::es) X.env=(false,eval e X.env)::starEach es X.env) (hplain:(backTo cpos<|starEach es X.env).any (·.1)=false):
 PE X (.Call (.Attribute o name apos) (e::es) [] cpos) (ij X T r to t):=by
 intro a s σ H Q I h;refine wpAny_Call_method_late hbase hfew hline rfl<|xU (ho a s σ H _ I h) λv f ⟨x,g,b,c,i,j⟩=>?_;obtain⟨k,l⟩:=i _ _ _ _ b c;refine⟨T,id,pa,slot,hty,k,l, ?_⟩;have d:=ha cpos a f σ g _ b j;rw[hs]at d ⊢;refine Calls.callWith_builtin ⋯ (Calls.evalArgs_plain ?_);exact xU d λm n ⟨p,q,u,w,y⟩=>hm a n σ q x p v m Q u c w y
def iF(X:Cx)(kd:KD)(id:String)(g:D->List D->Option R0):Prop:=
 jh X id (λx xs H Q=>∃O d ds r,(∀a,O a->H a≠none)/\Vw X.K kd O H x d/\VwL X.K kd O H xs ds/\g d ds=some r/\RQ X.K kd O H Q r)
def pA(hk:KdOk X kd){O}(h:Vw X.K kd O H x d)(e:DI ty d=true):iB X ty.nm x H:=by
 intro pins σ s v I rx;cases h with
 |str z=>
  obtain⟨t,rfl⟩:=rx;cases ty<;>first|(cases e;done)|exact⟨typeIs_str s z t,λ_ e=>nomatch e⟩
 |int z=>
  obtain⟨t,rfl⟩:=rx;cases ty<;>first|(cases e;done)|exact⟨typeIs_int s z t,λ_ e=>nomatch e⟩
 |lst hr rl=>
  cases rx;obtain⟨its,_,pl,_⟩:=I.list hr.sq;cases ty<;>first|(cases e;done)|skip
  refine⟨pl.isList.typeIs,λa e=>?_⟩;cases e;obtain⟨o,n,e,c,hd,_⟩:=pl;exact⟨o,e,hd⟩
 |dct hr rm=>
  cases rx;obtain⟨z,hd,vs,rel,dd⟩:=PN I hk hr;cases ty<;>first|(cases e;done)|skip
  refine⟨dd.typeIs,λb q=>?_⟩;cases q;obtain⟨ob,_,_,h1,h2,_⟩:=dd;exact⟨ob,h1,h2.2.1⟩
 |non=>cases ty<;>cases e
 |bl=>cases ty<;>cases e
 |tup=>cases ty<;>cases e
 |cl=>cases ty<;>cases e
 |ob=>cases ty<;>cases e
def Mj(ty:Ty)(fa:EF)(fr:AF)(g:D->List D->Option R0):EF:=λas=>(fa as).bind λp=>(p.1.frz.view p.2).bind λw=>if DI ty w.1=true then(fr p.2).bind λq=>(p.1.frz.view q.2).bind λx=>(views q.2 q.1).bind λy=>(g x.1 y.1).bind λr=>(wrap (meet x.2 y.2) r).bind λz=>some (z,q.2)else none
def sO(hk:KdOk X kd)(h:al X.K kd (Mj ty fa fr g) σ H Q):
 ij X ty.nm (λx xs H Q=>∃O d ds r,(∀a,O a->H a≠none)/\Vw X.K kd O H x d/\VwL X.K kd O H xs ds/\g d ds=some r/\RQ X.K kd O H Q r) (al X.K kd fa) (AB X.K kd fr) σ H Q:=by
 obtain⟨F,B,U,as,r,o,R,e,q⟩:=h;obtain⟨⟨p,c⟩,s,e⟩:=bS_<|e;obtain⟨_,t,e⟩:=bS_ e;obtain⟨f,e⟩:=ite_some' e;obtain⟨⟨u,y⟩,A,e⟩:=bS_ e;obtain⟨⟨d,Y⟩,C,e⟩:=bS_ e;obtain⟨⟨D,E⟩,G,e⟩:=bS_ e;obtain⟨I,J,e⟩:=bS_ e;obtain⟨z,L,e⟩:=bS_ e;cases e;refine xS R s λv i Z m b M=>⟨pA hk (xq.vw m b t) f,F,B,i,c,u,_,m,A,λvs j H2 R2 k n=>?_⟩;exact⟨_,d,D,I,R2.tr _,(xq.vw R2 (b.grow n) C).less U6.meet1,(Vb R2 k G).less U6.meet2,J,Zm R2 L λw N P S l T=>q w N j P S l<|(M.trans n).trans T⟩
def Dt(hk:KdOk X kd)(hm:iF X kd id g)(pa:PlainAttrs ty.nm)(slot:Slot ty.nm name id)(hty:typeOf (.builtin id)=pure (.type "method_descriptor"))(ho:AE X kd a fa)(ha:AA X kd (e::es) fr)
 (hbase:attributeBase a name X.env (eval a X.env)=eval a X.env)
 (hfew:((backTo cpos<|starEach (e::es) X.env).all (λx=>!x.1)&&(backToKw cpos<|keywordEach [] X.env).all (λx=>x.1.isSome)
  && decide ((e::es).length+([]:List Keyword).length+(if([]:List Keyword).isEmpty then 0 else 1)<30))=true)
 (hline:(apos.endLine==cpos.line)=true) (hs:starEach (e::es) X.env=(false,eval e X.env)::starEach es X.env) (hplain:(backTo cpos<|starEach es X.env).any (·.1)=false):
 AE X kd (.Call (.Attribute a name apos) (e::es) [] cpos) (Mj ty fa fr g):=by with_unfolding_all exact(yb (oP pa slot hty hm ho ha hbase hfew hline hs hplain) λσ H Q h=>sO hk h)
end
section
variable{K:zzA}{kd:KD}{F B G:Addr->Prop}{T:List Addr}{ad:Ad}{as:AS}{σ:St}{H H':Hp}
inductive RPs(K:zzA)(kd:KD)(F B G:Addr->Prop)(H:Hp):List (V×V)->List (Key×O)->Prop
 |nil:RPs K kd F B G H [] []
 |cons {k:Key}{v:V}{o:O}{ps:List (V×V)}{kos:List (Key×O)}:vN K kd F B G H v o []->RPs K kd F B G H ps kos->RPs K kd F B G H ((kV k,v)::ps) ((k,o)::kos)
end
def jY:EF:=λas=>some (.ow<|.nd (.dc []) [],as)
section
variable{X:Cx}{kd:KD}{e a b c o i:Expr}{pos pos':Pos}{fa fb fk fv:EF}
def uL:AE X kd (.Dict [] [] pos) jY:=by with_unfolding_all exact(yb Os λσ H Q h=>by
 obtain⟨F,B,f,as,r,g,R,e,q⟩:=h;cases e;intro p c;have k:∀b o,H b=some o->upd H p (.dK []) b=some o:=λb o d=>by rwa [zF<|zY d c]
 obtain⟨R2,i⟩:=R.news (T':=[p]) ⋯ (λa m=>by rwa [zzR.mp m]) k (λa m=>by rw[zzR.mp m,z8];simp);exact q _ [p] f _ R2 (.dc z8 rfl .nil) i)
def Oh(ks:List Key)(k:Key):Bool:=ks.any λx=>decide (x=k)
def P4(ks:List Key)(k:Key):List Key:=if Oh ks k=true then ks else ks++[k]
def Vv{α:Type}(ks:List Key)(os:List α)(k:Key)(o:α):List α:=if Oh ks k=true then(ks.zip os).map (λp=>if p.1=k then o else p.2)else os++[o]
theorem B7{α:Type}(k):∀(ks:List Key) (vs:List α),ks.length=vs.length->((ks.zip vs).any λkv=>decide (kv.1=k))=Oh ks k
 | [],_,_=>rfl
 |x::r,[],h=>by simp at h
 |x::r,v::a,h=>by
  show(decide _||(r.zip a).any _)=_;rw[B7 k r a<|by simpa using h];rfl
theorem BV:∀(ks:List Key) (vs:List V),ks.length=vs.length->(ks.zip vs).map (λkv=>if kv.1=k then(kv.1,v)else kv)=ks.zip ((ks.zip vs).map λp=>if p.1=k then v else p.2)
 | [],_,_=>rfl
 |x::r,[],h=>⋯
 |x::r,w::a,h=>by
  show _::(r.zip a).map _=_;rw[BV r a<|by simpa using h]
  congr 1
  by_cases e:x=k
  . simp[e]
  . simp[e]
def OW(h:ks.length=vs.length):putK (ks.zip vs) k v=(P4 ks k).zip (Vv ks vs k v):=by
 unfold putK P4 Vv;rw[B7 k ks vs h]
 split
 . exact BV ks vs h
 . rw[List.zip_append h];rfl
def L9{α:Type}{os}{o:α}(h:ks.length=os.length):(P4 ks k).length=(Vv ks os k o).length:=by
 unfold P4 Vv
 split
 . rw[zzB,List.length_zip,h];simp
 . rw[zzJ,zzJ,h];rfl
theorem Cb{o}(ho:Ro L Nn H v o []):∀{ks:List Key}{vs:List V}{os:List O}{fp:List Addr},ks.length=vs.length->RoL L Nn H vs os fp->
 ∃fp',fp'.Sublist fp/\RoL L Nn H ((ks.zip vs).map λp=>if p.1=k then v else p.2) ((ks.zip os).map λp=>if p.1=k then o else p.2) fp'
 | [],[],_,_,_,.nil=>⟨[],.slnil,.nil⟩
 |x::r,_,_,_,b,.cons (fp:=f) h t=>by
  obtain⟨a,s,q⟩:=Cb ho (by simpa using b) t
  by_cases e:x=k
  . refine⟨a,s.trans ⋯, ?_⟩;have:=RoL.cons ho q;simpa[e]using this
  . refine⟨f++a,List.Sublist.append ⋯ s, ?_⟩;have:=RoL.cons h q;simpa[e]using this
 | [],_::_,_,_,b,_=>by simp at b
def G5(i:Nat)(fk fv:EF):SF:=λas=>(fv as).bind λp=>(Y8 p.2 p.1).bind λx=>match x.2[i]? with
 |some (some (.nd (.dc _) _))=>(fk x.2).bind λq=>(q.1.frz.view q.2).bind λkd=>(Bl kd.1).bind λk=>match q.2[i]? with
  |some (some (.nd (.dc ks) os))=>if ks.length<sizeLine then some (.nx<|q.2.set i<|some<|.nd (.dc<|P4 ks k)<|Vv ks os k<|.lf x.1.1 x.1.2)else none
  |_=>none
 |_=>none
def Fj{j:Nat}{p:Pos}(hu:X.A.units+1<cLine)(ho:PE X (.Name x p) (Y1 j))(hk:AE X kd i fk)(hv:AE X kd e fv)(hs:swapsWith e (some<|.Subscript (.Name x p) i pos') pos.line X.env=pure false):
 Ld X kd (.Assign [.Subscript (.Name x p) i pos'] e pos) (G5 j fk fv):=by with_unfolding_all exact(xm (DA hu ho hk hv hs) λD σ H h=>by
 obtain⟨F,B,ad,as,o,R,e,q⟩:=h;obtain⟨⟨p,as1⟩,h1,e⟩:=bS_<|e;obtain⟨⟨⟨st,d⟩,as2⟩,h2,e⟩:=bS_ e;cases k1:as2[j]? with
 |none=>rw[k1]at e;cases e
 |some a0=>
  rw[k1]at e
  match a0,e,k1 with
  |some (.nd (.dc ks0) os0),e,k1=>
   obtain⟨⟨pk,as3⟩,h3,e⟩:=bS_<|e;obtain⟨⟨dk,lk⟩,h4,e⟩:=bS_ e;obtain⟨k,h5,e⟩:=bS_ e;refine⟨F,B,ad,as,p,as1,R,h1,λv T1 ad1 H1 R1 rv1 g1=>?_⟩;obtain⟨ad2,R2,rp,le⟩:=ZV R1 rv1 h2;obtain⟨v0,hs0,ro0⟩:=R2.sl j _ k1;refine⟨v0,hs0,xS R2 h3 λu ad3 H3 R3 rv3 g3=>?_⟩;cases k2:as3[j]? with
   |none=>rw[k2]at e;cases e
   |some a2=>
    rw[k2]at e
    match a2,e,k2 with
    |some (.nd (.dc ks) os),e,k2=>
     obtain⟨hz,e⟩:=zq e;cases e;obtain⟨v1,hs1,ro1⟩:=R3.sl j _ k2;rw[hs0]at hs1;cases hs1;generalize hfp:ad3 j=fp1 at ro1;cases ro1 with
     | dc hH hl rl=>
          rename_i l vs fp;have ek:=FK (xq.vw R3 rv3 h4) h5;have ro:vN X.K kd F B _ H3 v _ []:=.lf<|Rp.grow g3 rp;have hex:∃fp',fp'.Sublist fp/\wb X.K kd F B (Gw [] ad3) H3 (Vv ks vs k v) (Vv ks os k<|.lf st d) fp':=by
           unfold Vv
           split
           . exact Cb ro hl rl
           . exact⟨fp,List.Sublist.refl _,by have:=rl.append<|RoL.one ro;rwa [zyD]at this⟩
          obtain⟨fp',hsub,rl'⟩:=hex;have hnd:=R3.nd j;rw[hfp]at hnd;refine⟨l,_,rfl,.inl ⟨_,k,hH,ek,by rw[List.length_zip,hl,Nat.min_self,<-hl];exact hz,rfl⟩, ?_⟩;rw[OW hl];obtain⟨R4,g4⟩:=R3.mut (zzG.mp k2).1 hfp hs0 (fp':=fp') (λa m=>by
           rw[zyD]at m ⊢;exact hsub.mem m) (by rw[zyD];exact(zzV.mp hnd).2.sublist hsub) (by rw[hH];simp) λH' G' hl' gr kp=>.dc hl' (L9 hl)<|wb.grow gr kp rl'
          exact q σ _ _ R4<|((g1.trans<|Grow.less le).trans g3).trans g4)
end
abbrev Fn:=List (Bool×D)->Option O
section
variable{P:Program}{w:World}{K:zzA}{mg:Str->Option Value}{base:Heap}{kd:KD}
def JX:FnOk P w K mg base Ys k f fd ps (XX K kd λ_=>none):=
 ⟨λc H Q E h=>(by obtain⟨_,_,_,_,_,e,_⟩:=h;cases e),λA a s H b d c Q E _ _ _ _ h=>(by obtain⟨_,_,_,_,_,e,_⟩:=h;cases e)⟩
def SI(hr:Room k A):A.units+100<cLine:=by have:=hr.un;omega
def q_(P:Program)(w:World)(K:zzA)(kd:KD):Prop:=∀X:Cx,X.prog=P->X.w=w->X.K=K->KdOk X kd
theorem X8{O}:∀ns:List Int,RpL K kd O H (ns.map V.int)<|ns.map D.int
 | []=>.nil
 |_::r=>.cons (.int _)<|X8 r
def u3{ns:List Int}(hg:g [(true,.lst<|ns.map D.int)]=some (.lf true<|.bl true))(hS:OP K H a (ns.map V.int)):XX K kd g [.ref a] H (λv _=>v = .bl true) E:=by
 refine⟨λ_=>False,[_],.lf true _,⋯,.cons ?_ .nil,hg,λv T e _ _ _ _ b=>?_⟩
 . rcases hS with h|⟨c,n,k,z,r⟩
   . exact .lst (λz=>z.2) h<|X8 ns
   . exact .lstK k z r<|X8 ns
 . cases b with
   |lf d=>cases d;rfl
end
namespace Bt
theorem len:bootBuiltins "len"=some (.builtin "len"):=⋯
theorem max:bootBuiltins "max"=some (.builtin "max"):=⋯
theorem min:bootBuiltins "min"=some (.builtin "min"):=⋯
theorem abs:bootBuiltins "abs"=some (.builtin "abs"):=⋯
theorem sorted:bootBuiltins "sorted"=some (.builtin "sorted"):=⋯
theorem isinstance:bootBuiltins "isinstance"=some (.builtin "isinstance"):=⋯
theorem int:bootBuiltins "int"=some (.type "int"):=⋯
theorem bool:bootBuiltins "bool"=some (.type "bool"):=⋯
theorem str:bootBuiltins "str"=some (.type "str"):=⋯
theorem list:bootBuiltins "list"=some (.type "list"):=⋯
theorem tuple:bootBuiltins "tuple"=some (.type "tuple"):=⋯
theorem dict:bootBuiltins "dict"=some (.type "dict"):=⋯
def n(x)(h:(x==("__name__":Str))=false):x≠"__name__":=λe=>by subst e;simp at h
end Bt
def WD(f:EF)(as:AS)(st:Bool)(d:D):Prop:=f as=some (.ow<|.lf st d,as)
def WT(f:TF)(as:AS)(b:Bool):Prop:=f as=some (b,as)
def WA(f:AF)(as:AS)(rs:List (Bool×D)):Prop:=f as=some (rs.map λx=>.ow<|.lf x.1 x.2,as)
def WO(f:DF)(as:AS)(os:List O):Prop:=f as=some (os,as)
section
variable{as:AS}{f a b:EF}{s t:Bool}{x y z:D}{i j:Int}
def zb:WD (fC x) as true x:=rfl
def za{i:Nat}(h:as[i]? = some (some<|.lf s x)):WD (fV i) as s x:=by unfold WD fV;rw[h]
def D7(ha:WD a as s x)(hb:WD b as t y)(hg:g x y=some (.im z)):WD (f2 a b g) as (zE z||(s&&t)) z:=by
 unfold WD f2 at *;rw[ha];show((b as).bind _)=_;rw[hb];show((g x y).bind _)=_;rw[hg];show(if _=true then _ else _:Option RV).bind _=_;rw[if_pos<|by unfold meet;simp];rfl
def m9(ha:a as=some (.ow oa,as))(hb:b as=some (.ow ob,as))(hg:g oa.toD ob.toD=some (.im z)):WD (f2 a b g) as (zE z||(oa.str&&ob.str)) z:=by
 unfold WD f2 at *;rw[ha];show((b as).bind _)=_;rw[hb];show((g oa.toD ob.toD).bind _)=_;rw[hg];show(if _=true then _ else _:Option RV).bind _=_;rw[if_pos<|by unfold meet;simp];rfl
def zu(ha:WD a as s x)(hb:WD b as t y)(hg:g x y=some (.im z))(e:zE z=true):WD (f2 a b g) as true z:=by
 have:=D7 ha hb hg;rwa [e]at this
def zT(ha:WD a as s (.int i))(hb:WD b as t (.int j)):WD (f2 a b<|YV .Add) as true (.int<|i+j):=zu ha hb rfl rfl
def vS(ha:WD a as s (.int i))(hb:WD b as t (.int j)):WD (f2 a b<|YV .Sub) as true (.int<|i-j):=zu ha hb rfl rfl
def Vc(ha:WD a as s (.int i))(hb:WD b as t (.int j))(h:j.natAbs<2 ^ 64):WD (f2 a b<|YV .Mult) as true (.int<|i*j):=zu ha hb (by show(if _ then _ else _)=_;rw[if_pos<|.inr h]) rfl
def YJ(ha:WD a as s (.int i))(hb:WD b as t (.int j))(h1:i.natAbs<big)(h2:j.natAbs<big):WD (f2 a b<|YV .Mult) as true (.int<|i*j):=zu ha hb (by show(if _ then _ else _)=_;rw[if_pos<|.inl ⟨h1,h2⟩]) rfl
def WZ(ha:WD a as s (.int i))(hb:WD b as t (.int j))(h1:0<j)(h2:j.natAbs<big):WD (f2 a b<|YV .FloorDiv) as true (.int<|i/j):=zu ha hb (by show(if _ then _ else _)=_;rw[if_pos ⟨h1,h2⟩]) rfl
def yc(ha:WD a as s (.int i))(hb:WD b as t (.int j))(h1:0<j):WD (f2 a b<|YV .Mod) as true (.int<|i%j):=zu ha hb (by show(if _ then _ else _)=_;rw[if_pos h1]) rfl
def Yz(ha:WD a as s x)(hb:WD b as t y)(h:YS 60 x y=some c):WD (f2 a b<|zw .Eq) as true (.bl c):=zu ha hb (by show(YS 60 x y).bind _=_;rw[h];rfl) rfl
def Kq(ha:WD a as s x)(hb:WD b as t y)(h:YS 60 x y=some c):WD (f2 a b<|zw .NotEq) as true (.bl<|!c):=zu ha hb (by show(YS 60 x y).bind _=_;rw[h];rfl) rfl
def Bp(ha:WD a as s (.int i))(hb:WD b as t (.int j)):WD (f2 a b<|zw .Lt) as true (.bl<|decide (i<j)):=zu ha hb rfl rfl
def uh(ha:WD a as s (.int i))(hb:WD b as t (.int j)):WD (f2 a b<|zw .Gt) as true (.bl<|decide (j<i)):=zu ha hb rfl rfl
def lQ(ha:WD a as s (.int i))(hb:WD b as t (.int j)):WD (f2 a b<|zw .LtE) as true (.bl<|decide (i<=j)):=zu ha hb rfl rfl
def nS(ha:WD a as s (.int i))(hb:WD b as t (.int j)):WD (f2 a b<|zw .GtE) as true (.bl<|decide (j<=i)):=zu ha hb rfl rfl
def Oy(ha:WD a as s (.int i)):WD (f1 a H9) as true (.int (-i)):=by
 unfold WD f1 at *;rw[ha];rfl
def zN(h:WD f as s x)(e:truth x=some c):WT (fT f) as c:=by
 unfold WT fT;rw[h];show((truth x).bind _)=_;rw[e];rfl
def YG(h:WT c as k):WT (YC c) as (!k):=by unfold WT YC at *;rw[h];rfl
def Ud(h:WT c as k)(h2:k=true->WT e as l)(h3:k=false->l=false):WT (Pv c e) as l:=by
 unfold WT Pv at *;rw[h];cases k with
 |true=>exact h2 rfl
 |false=>rw[h3 rfl];rfl
def Ge(h:WT c as k)(h2:k=false->WT e as l)(h3:k=true->l=true):WT (GO c e) as l:=by
 unfold WT GO at *;rw[h];cases k with
 |false=>exact h2 rfl
 |true=>rw[h3 rfl];rfl
def rD(h:WT c as true)(ha:WD a as s x):WD (Fg c a b) as s x:=by unfold WD Fg;rwa [h]
def qz(h:WT c as false)(hb:WD b as s x):WD (Fg c a b) as s x:=by unfold WD Fg;rwa [h]
def LH(h:WD a as s (.bl k))(h2:k=true->WD b as true (.bl l))(h3:k=false->l=false):WD (Ff a b) as true (.bl l):=by
 unfold WD Ff at *;rw[h];cases k with
 |true=>exact h2 rfl
 |false=>rw[h3 rfl];rfl
def zj:WA aN as []:=rfl
def zc(ha:WD a as s x)(hr:WA fr as rs):WA (aC a fr) as ((s,x)::rs):=by
 unfold WA aC at *;rw[ha];show((fr as).bind _)=_;rw[hr];rfl
theorem ZX:∀rs:List (Bool×D),ZE as (rs.map λx=>.ow<|.lf x.1 x.2)=some (rs.map λx=>(zE x.2||x.1,x.2))
 | []=>rfl
 |r::a=>by
  show(ZE as _).bind _=_;rw[ZX a];rfl
theorem Wg:∀rs:List (Bool×D),views as (rs.map λx=>.ow<|.lf x.1 x.2)=some (rs.map (·.2),some (rs.all (·.1)))
 | []=>rfl
 |r::a=>by
  show(views as _).bind _=_;rw[Wg a];rfl
def vM(ha:WA fr as rs)(hg:g (rs.map λx=>(zE x.2||x.1,x.2))=some (.lf s x)):WD (ze fr g) as s x:=by
 unfold WD ze;rw[ha];show(ZE as _).bind _=_;rw[ZX];show(g _).bind _=_;rw[hg];rfl
def vR(ha:WA fr as rs)(hg:g (rs.map λx=>(zE x.2||x.1,x.2))=some o):ze fr g as=some (.ow o,as):=by
 unfold ze;rw[ha];show(ZE as _).bind _=_;rw[ZX];show(g _).bind _=_;rw[hg];rfl
def Sr(ha:WA fr as rs)(hg:g (rs.map (·.2))=some (.im x)):WD (fP fr g) as (zE x||rs.all (·.1)) x:=by
 unfold WD fP;rw[ha];show(views as _).bind _=_;rw[Wg];show(g _).bind _=_;rw[hg];show(if _=true then _ else _:Option RV).bind _=_;rw[if_pos ⋯];rfl
def yo(ha:WA fr as rs)(hg:g (rs.map (·.2))=some (.im x))(e:zE x=true):WD (fP fr g) as true x:=by
 have:=Sr ha hg;rwa [e]at this
def ye:WO dN as []:=rfl
def zL{os}(ha:WD a as s x)(hr:WO fr as os):WO (dC a fr) as (.lf s x::os):=by
 unfold WO dC at *;rw[ha];show((fr as).bind _)=_;rw[hr];rfl
def WY{os}(h:WO fr as os)(hl:os.length<=sizeLine):yJ fr as=some (.ow<|.nd .ls os,as):=by
 unfold yJ;rw[h];show(if os.length<=sizeLine then _ else _)=_;rw[if_pos hl]
def zt{f g}(h1:f as=some (.nx as1))(h2:g as1=o):zl f g as=o:=by unfold zl;rwa [h1]
def ZS{f g}(h1:f as=some (.rt o)):zl f g as=some (.rt o):=by unfold zl;rw[h1];rfl
def wR{f g}(h:WT c as true)(h1:f as=o):xg c f g as=o:=by unfold xg;rwa [h]
def zm{f g}(h:WT c as false)(h1:g as=o):xg c f g as=o:=by unfold xg;rwa [h]
def zV{i:Nat}{st}(h:WD f as s x)(hi:i<as.length):zr st i f as=some (.nx<|as.set i<|some<|.lf s x):=by
 unfold zr;rw[h];cases st<;>exact if_pos hi
def v_{i:Nat}(h:f as=some (.ow o,as))(hi:i<as.length):zr false i f as=some (.nx<|as.set i<|some o):=by
 unfold zr;rw[h];exact if_pos hi
def A5{i:Nat}(h:f as=some (.ow o,as))(hi:i<as.length):zr true i f as=some (.nx<|as.set i<|some o.frz):=by
 unfold zr;rw[h];exact if_pos hi
def xt(h:WD f as true x):zv f as=some (.rt<|.lf true x):=by unfold zv;rw[h];rfl
def wQ(hl:ds.length=m)(h:c (vX n ds)=some (.rt o)):xZ n m c ds=some o:=by unfold xZ;rw[if_pos hl,h];rfl
theorem xr{f}(I:Nat->AS->Prop):∀(xs:List wB) (k:Nat) (as:AS),(∀i x as,xs[i]? = some x->I (k+i) as->∃as1,g x as=some as1/\∃as2,f as1=some (.nx as2)/\I (k+i+1) as2)->I k as->∃as',forL g f xs as=some (.nx as')/\I (k+xs.length) as'
 | [],k,as,_,h=>⟨as,rfl,h⟩
 |x::r,k,as,d,h=>by
  obtain⟨a,j,b,l,m⟩:=d 0 x as rfl h;obtain⟨c,n,o⟩:=xr I r (k+1) b (λi y as e q=>by
   obtain⟨u,p,v,s,t⟩:=d _ y as e (by rwa [show k+(i+1)=k+1+i from q0j]);exact⟨u,p,v,s,by rwa [show k+1+i+1=k+(i+1)+1 by omega]⟩) m
  refine⟨c, ?_,by rwa [zzT,show k+_=k+1+r.length from q0j]⟩;show(g x as).bind _=_;rw[j];show(f a).bind _=_
  rwa [l]
def xk{f}(h:fi as=some (xs,as'))(h2:forL g f xs as'=o):y9 fi g f as=o:=by unfold y9;rwa [h]
def Yh{lo}{n i:Nat}{x}(h:(yY lo n)[i]? = some x):x=(true,.int<|lo+i)/\i<n:=by
 unfold yY at h;rw[zzI]at h;cases e:(List.range n)[i]? with
 |none=>rw[e]at h;cases h
 |some k=>
  rw[e]at h;obtain⟨a,b⟩:=zzG.mp e;rw[zyT]at a;rw[List.getElem_range]at b;subst b;exact⟨(zzY h).symm,a⟩
def xB(h:WA fr as [(u,.int j)])(h0:0<=j)(h1:j<1000000):yK fr xa as=some (yY 0 j.toNat,as):=by
 unfold yK;rw[h];show((if -_<=j/\j<2 ^ 62 then some _ else none).bind _)=_;rw[if_pos ⋯];rfl
def Jv(ha:a as=some (.ow o,as))(hr:WA fr as rs):WA (aC a fr) as ((o.str,o.toD)::rs):=by
 unfold WA aC at *;rw[ha];show((fr as).bind _)=_;rw[hr];rfl
def B6{i:Nat}(h:as[i]? = some (some o)):RV.view as (.bo i)=some (o.toD,o.kl):=by simp only[RV.view,h]
def tN{i:Nat}(h:as[i]? = some (some o)):JS as (.bo i)=some (o.frz,as.set i<|some o.frz):=by simp only[JS,h]
def A0{i:Nat}(h:as[i]? = some (some o))(hs:o.str=true):I_ as (.bo i)=some o:=by simp only[I_,h,hs,if_true]
def KI{i:Nat}{os}(h:as[i]? = some (some<|.nd k os)):fV i as=some (.bo i,as):=by unfold fV;rw[h]
def kJ{i:Nat}{os}(h:as[i]? = some (some<|.nd .ls os)):WD (fP (aC (fV i) aN) yA) as true (.int os.length):=by
 have e:views as [.bo i]=some ([.lst<|O.toDs os],meet (O.nd .ls os).kl<|some true):=by
  show(RV.view as _).bind _=_;rw[B6 h];rfl
 unfold WD fP aC;rw[KI h];simp only[zyK,aN,RV.frz,e];rw[show yA [.lst _]=some _ by show some _=_;rw[UU]];rfl
def Jf{i:Nat}(h:as[i]? = some (some<|.lf s<|.lst ds)):Yd (fV i) as=some (kids s ds,as):=by
 unfold Yd fV;rw[h];rfl
def vH{f}(h1:g d as=some as1)(h2:f as1=some (.nx as2))(h3:forL g f r as2=o):forL g f (d::r) as=o:=by
 show(g d as).bind _=_;rw[h1];show(f as1).bind _=_
 rwa [h2]
def Mc{f}(h1:g d as=some as1)(h2:f as1=some (.rt o)):forL g f (d::r) as=some (.rt o):=by
 show(g d as).bind _=_;rw[h1];show(f as1).bind _=_;rw[h2];rfl
def sf{i:Nat}{os}(h:as[i]? = some (some<|.nd .ls os))(hl:os.length<sizeLine)(ha:WD a as s x):yw (Yu i (dC a dN) Yt) as=some (.nx<|as.set i<|some<|.nd .ls<|os++[.lf s x]):=by
 unfold yw Yu;rw[h];have e:=zL ha ye;rw[e];show(Option.bind (match as[i]? with|some (some<|.nd .ls os)=>_|_=>none) _)=_;rw[h];show((Yt os _).bind _).bind _=_;have e2:Yt os [.lf s x]=some _:=if_pos hl;rw[e2];rfl
def Cq{i:Nat}{os}(h:as[i]? = some (some<|.nd .ls os))(ha:WD a as s (.int k))(h0:0<=k)(h1:k<os.length)(hs:os.length<2 ^ 60)(ho:os[k.toNat]? = some o):Yu i (dC a dN) Uh as=some (.ow o,as.set i<|some<|.nd .ls<|os.eraseIdx k.toNat):=by
 unfold Yu;rw[h];have e:=zL ha ye;rw[e];show(match as[i]? with|some (some<|.nd .ls os)=>_|_=>none)=_;rw[h];show((Uh os _).bind _)=_;have e2:Uh os [.lf s<|.int k]=some (os.eraseIdx k.toNat,o):=by
  show(if -_<=k/\k<2 ^ 63 then _ else _)=_;rw[if_pos ⋯];have e3:seqIndex? k os.length=some k.toNat:=by unfold seqIndex?;simp;omega
  rw[e3];show((os[k.toNat]?).bind _)=_;rw[ho];rfl
 rw[e2];rfl
def FU(h:f as=some (.ow o,as))(hg:g (o.str,o.toD) as=some as'):XW f g as=some (.nx as'):=by
 unfold XW;rw[h];show(g _ as).bind _=_;rw[hg];rfl
def Qx{i:Nat}(h:as[i]? = some (some o))(hs:o.str=true):zv (fV i) as=some (.rt o):=by
 cases o with
 |lf a d=>unfold zv fV;rw[h];have:=hs;subst this;rfl
 |nd k b=>
  unfold zv;rw[KI h];show(I_ as _).bind _=_;rw[A0 h hs];rfl
def FM{os}(h:WO fr as os)(hl:os.length<=sizeLine)(ha:os.all O.isLf=true):WD (yL fr) as (O.strs os) (.tup<|O.toDs os):=by
 unfold WD yL;rw[h];show(if os.length<=sizeLine then some _ else _)=_;rw[if_pos hl];unfold XC;rw[if_pos ha]
def tw(ha:a as=some (.ow oa,as1))(hb:b as1=some (.ow ob,as2))(hg:g oa.toD ob.toD=some (.fl zs)):f2 a b g as=some (.ow<|.nd .ls<|zs.map<|OH<|oa.str&&ob.str,as2):=by
 unfold f2;rw[ha];show((b as1).bind _)=_;rw[hb];show((g oa.toD ob.toD).bind _)=_;rw[hg];show(if _=true then _ else _:Option RV).bind _=_;rw[if_pos<|by unfold meet;simp];rfl
def yP(ha:WD a as true x)(hb:WD b as true y)(hg:g x y=some (.im z)):WD (f2 a b g) as true z:=by
 have:=D7 ha hb hg
 rwa [show(zE z||_)=true by simp]at this
def QA:∀zs:List D,zs.map (OH true)=zs.map (O.lf true)
 | []=>rfl
 |z::r=>⋯
def AR(ha:a as=some (.ow oa,as1))(hb:b as1=some (.ow ob,as2))(hg:g oa.toD ob.toD=some (.fl zs))(h1:oa.str=true)(h2:ob.str=true):f2 a b g as=some (.ow<|.nd .ls<|zs.map<|O.lf true,as2):=by
 have:=tw ha hb hg
 rwa [h1,h2,show(true&&true)=true from rfl,QA]at this
def Zr{os}(ha:a as=some (.ow o,as1))(hr:fr as1=some (os,as2)):dC a fr as=some (o::os,as2):=by
 unfold dC;rw[ha];show((fr as1).bind _)=_;rw[hr];rfl
def Nk{i:Nat}(h:f as=some (.ow o,as1))(hi:i<as1.length):zr true i f as=some (.nx<|as1.set i<|some o.frz):=by
 unfold zr;rw[h];exact if_pos hi
def add_lists(h:xs.length+ys.length<=sizeLine):YV .Add (.lst xs) (.lst ys)=some (.fl<|xs++ys):=if_pos h
def Ue(lo)(n:Nat):yY lo (n+1)=(true,.int lo)::yY (lo+1) n:=by
 unfold yY;rw[List.range_succ_eq_map,zyR,zyA]
 congr 1
 . simp
 . apply List.map_congr_left;intro i _;show(true,D.int _)=_
   congr 2
   omega
def Iq(ha:WA fr as rs)(hg:g (rs.map (·.2))=some (.im x))(e:rs.all (·.1)=true):WD (fP fr g) as true x:=by
 have:=Sr ha hg;rwa [e,zyC]at this
def JU(ha:WD a as s y)(ht:DI ty y=true)(hr:WA fr as rs)(hg:g y (rs.map (·.2))=some (.im x))(e:zE x=true):WD (Mj ty a fr g) as true x:=by
 unfold WD Mj;rw[ha];show(if DI ty y=true then _ else _:Option _)=_;rw[if_pos ht,hr];simp only[zyK,Wg];show((g y _).bind _)=_;rw[hg];show(if _=true then _ else _:Option RV).bind _=_;rw[if_pos<|by rw[e];rfl];show some (RV.ow<|.lf _ x,as)=_;rw[e];rfl
def IP{fl fh lo hi g}(ha:WD a as s y)(hl:fl as=some (lo,as))(hh:fh as=some (hi,as))(hg:g y lo hi=some (.im x)):WD (ZY a fl fh g) as (zE x||s) x:=by
 unfold WD ZY;rw[ha];show((fl as).bind _)=_;rw[hl];show((fh as).bind _)=_;rw[hh];show((g y lo hi).bind _)=_;rw[hg];show(if _=true then _ else _:Option RV).bind _=_;rw[if_pos ⋯];rfl
def DV{fi cap g tt fe xs os}(h1:fi as=some (xs,as))(hl:xs.length<=sizeLine)(h2:vP g tt fe (Rr cap as) xs=some os):xM fi cap g tt fe as=some (.ow<|.nd .ls os,as):=by
 unfold xM;rw[h1];show(if xs.length<=sizeLine then _ else _)=_;rw[if_pos hl];rw[h2];rfl
def rT{i:Nat}{fk fv ks os k}(hv:WD fv as s x)(hi:as[i]? = some (some<|.nd (.dc ks) os))(hk:WD fk as t y)(ek:Bl y=some k)(hl:ks.length<sizeLine):G5 i fk fv as=some (.nx<|as.set i<|some<|.nd (.dc<|P4 ks k)<|Vv ks os k<|.lf s x):=by
 unfold G5;rw[hv];show(match as[i]? with|some (some<|.nd (.dc _) _)=>_|_=>none)=_;rw[hi];rw[hk];show((Bl y).bind _)=_;rw[ek];rw[hi];exact if_pos hl
end
def Wl(h:Nat.ble n 1000=true):n<=sizeLine:=Nat.le_of_lt<|Vf<|Nat.le_of_ble_eq_true h
def zi(h:Nat.ble (a+1) b=true):a<b:=Nat.le_of_ble_eq_true h
def yF(h0 : -(10 ^ 200)<i)(h1:i<10 ^ 200):i.natAbs<big:=by
 have:10 ^ 200<big:=by decide +kernel
 have e:((10 ^ 200:Nat):Int)=10 ^ 200:=by norm_cast
 omega
def Ar{ns:List Int}{k:Int}(h0:0<=k)(h1:k<ns.length):∃x,zD (.lst<|ns.map D.int) (.int k)=some (.im<|.int x):=by
 have a:k.toNat<ns.length:=⋯;refine⟨ns[k.toNat], ?_⟩;have h:=Ve (xs:=ns.map D.int) (by rw[zzI,zzE a];rfl);rw[show k.toNat=k from q0u h0]at h;show Jb _=_;rw[h];rfl
def GC(K:zzA)(kd:KD)(mg:Str->Option Value)(x:Str)(d:D):Prop:=∃v u,mg x=some u/\RelV v u/\∀(O:Addr->Prop) (H:Hp),Rp K kd O H v d
section
variable{X:Cx}{kd:KD}{K:zzA}{mg:Str->Option Value}
def sU(h:GC X.K kd X.mg x d)(hg:Gl X x)(hd:(x==("__debug__":Str))=false):AE X kd (.Name x pos) (fC d):=by
 (
 obtain⟨v,u,h1,h2,h3⟩:=h;exact TB (Dz hg h1 h2 hd) h3)
theorem GC.int(h:mg x=some (.int i t)):GC K kd mg x (.int i):=⟨.int i,_,h,⟨t,rfl⟩,λ_ _=>.int i⟩
def jc(K:zzA)(g:Fn):Sp:=λvs H Q E=>∀kd:KD,XX K kd g vs H Q E
end
def LN(fa fb fc:EF)(g g':D->D->Option R0):EF:=λas=>(fa as).bind λp=>(fb p.2).bind λq=>(p.1.frz.view q.2).bind λx=>(q.1.frz.view q.2).bind λy=>(g x.1 y.1).bind λr=>match r with
 | .im (.bl true)=>(fc q.2).bind λt=>(q.1.frz.view t.2).bind λy'=>(t.1.frz.view t.2).bind λz=>(g' y'.1 z.1).bind λr'=>(wrap (meet y'.2 z.2) r').bind λo=>some (o,t.2)
 | .im (.bl false)=>some (.ow<|.lf true<|.bl false,q.2)
 |_=>none
section
variable{X:Cx}{kd:KD}{a b c:Expr}{fa fb fc:EF}{pos:Pos}
def OV(ho:uP X kd (compareOp op) g)(ho':uP X kd (compareOp op') g')(ha:AE X kd a fa)(hb:AE X kd b fb)(hc:AE X kd c fc)(hm:lastMarks [op,op'] [b,c]=false):
 AE X kd (.Compare a [op,op'] [b,c] pos) (LN fa fb fc g g'):=by with_unfolding_all exact(yb (IT ho ho' ha hb hc hm) λσ H Q h=>by
 obtain⟨F,B,ad,as,r,O,R,e,q⟩:=h;obtain⟨_,S,e⟩:=bS_<|e;obtain⟨_,T,e⟩:=bS_ e;obtain⟨⟨x,U⟩,V,e⟩:=bS_ e;obtain⟨⟨y,W⟩,Y,e⟩:=bS_ e;obtain⟨K,Z,e⟩:=bS_ e;refine xS R S λv ad1 H1 R1 k L=>xS R1 T λu l H2 R2 d m=>⟨_,x,y,K,R2.tr _,(xq.vw R2 (k.grow m) V).less U6.meet1,(xq.vw R2 d Y).less U6.meet2,Z, ?_⟩
 match K,e with
 | .im (.bl true),e=>
  obtain⟨⟨t,as3⟩,h6,e⟩:=bS_<|e;obtain⟨⟨y',n⟩,h7,e⟩:=bS_ e;obtain⟨⟨z',s⟩,h8,e⟩:=bS_ e;obtain⟨r1,h9,e⟩:=bS_ e;obtain⟨o,A,e⟩:=bS_ e;cases e;intro w M C D;cases D;obtain⟨E,f⟩:=R2.more C;refine⟨true,rfl, ?_⟩;refine xS E h6 λw' G H4 i I N=>⟨_,y',z',r1,i.tr _,(xq.vw i ((d.grow f).grow N) h7).less U6.meet1,(xq.vw i I h8).less U6.meet2,h9, ?_⟩;exact Zm i A λw T' H' R' J g'=>q w T' G H' R' J<|(((L.trans m).trans f).trans N).trans g'
 | .im (.bl false),e=>
  cases e;intro w M C D;cases D;obtain⟨E,f⟩:=R2.more C;refine⟨false,rfl, ?_⟩;exact q _ [] l M E (.lf<|.bl _)<|(L.trans m).trans f)
end
inductive Ents(w:World):List DictEntry->List (Key×V)->Prop
 |nil:Ents w [] []
 |str {x:Str}{t:Tok}{v:V}{u:Value}{r:List DictEntry}{s:List (Key×V)}:RelV v u->Ents w r s->Ents w (⟨PyData.keyHash w.params x,.str x t,u⟩::r) ((.inr x,v)::s)
theorem Ents.keys:∀{es:List DictEntry}{kvs:List (Key×V)},Ents w es kvs->∀e ∈ es,∃k,(yB P w).is k e.key=true/\e.hash=(yB P w).hash k
 |_,_,.nil,_,m=>nomatch m
 |_,_,.str (x:=x) (t:=t) _ r,e,m=>by
  rcases zzC.mp m with rfl|m
  . exact⟨.inr x,Wk P w x t,rfl⟩
  . exact r.keys e m
theorem Ents.pairs:∀{es:List DictEntry}{kvs:List (Key×V)},Ents w es kvs->∃vs,KV kvs vs/\Pairs (yB P w) es vs/\vs.map (·.1)=kvs.map (·.1)
 |_,_,.nil=>⟨[],.nil,.nil,rfl⟩
 |_,_,.str (x:=x) (t:=t) (u:=u) h r=>by
  obtain⟨a,b,c,d⟩:=r.pairs;exact⟨(.inr x,u)::a,.cons ⟨rfl,h⟩ b,.cons (Wk P w x t) rfl c,by rw[zyR,zyR,d]⟩
structure DctAt(w:World)(K:zzA)(a:Addr)(kvs:List (Key×V)):Prop where
 ex:∃es ep,K.lookup a=some {cls:=.type "dict",data:=.dict es ep}/\Ents w es.toList kvs
 nd:(kvs.map (·.1)).Nodup
 le:kvs.length<=sizeLine
 ns:(a==sysModules)=false
def kdL(l:List (Addr×List (Key×V)))(c:Str->Addr:=λ_=>0):KD:=⟨λa k=>l.lookup a=some k,c⟩
def lookup_mem{l:List (Addr×List (Key×V))}(h:l.lookup a=some k):(a,k) ∈ l:=by
 induction l with
 |nil=>cases h
 |cons p r b=>
  rw[List.lookup_cons]at h
  by_cases e:a=p.1
  . subst e;rw[beq_self_eq_true]at h;cases h;exact zzF
  . rw[show _=false from beq_eq_false_iff_ne.mpr e]at h;exact zzD _<|b h
def rM{K}(h:∀p ∈ l,DctAt w K p.1 p.2):q_ P w K (kdL l c):=λX n o r=>by
 subst o;subst r;refine⟨λa k v b d=>zzY<|b.symm.trans d,λa k b=>?_,λa k y b f=>?_⟩
 . obtain⟨g,i,e,_⟩:=(h _<|lookup_mem b).ex;exact⟨_,e⟩
 . have q:=h _<|lookup_mem b;obtain⟨g,i,e,j⟩:=q.ex;obtain⟨s,d,t,u⟩:=j.pairs;refine⟨q.le,q.ns,s,d,_,g,i,f _ _ e,⟨rfl,rfl,rfl⟩,rfl,λx m=>j.keys x (by simpa using m),t,by rw[u];exact q.nd⟩
def isStar:Expr->Bool
 | .Starred .. => true
 |_=>false
def KU(h:isStar a=false):starEach (a::es) env=(false,eval a env)::starEach es env:=by
 cases a<;>first|rfl|cases h
section
variable{as:AS}{f a b c:EF}{s t u:Bool}{x y z:D}{i j k:Int}
def sQ(h:WD f as s x)(ho:F0 x=true:=by rfl):WD (Um f cl) as true (.bl<|Kn (rJ x) cl):=by
 unfold WD Um at *;rw[h];show(if F0 x=true then _ else _)=_;rw[if_pos ho];rfl
def Og(h:WD f as s x)(e:Kn (rJ x) cl=q)(ho:F0 x=true:=by rfl):WD (Um f cl) as true (.bl q):=by subst e;exact sQ h ho
def Q6{lo hi}(ha:WD a as true y)(hl:fl as=some (lo,as))(hh:fh as=some (hi,as))(hg:g y lo hi=some (.im x)):WD (ZY a fl fh g) as true x:=by
 have:=IP ha hl hh hg;rwa [zyC]at this
def OX(h:WD f as s (.bl q)):WD (Je f) as true (.bl<|!q):=by
 unfold WD Je at *;rw[h];rfl
def S6(h1:g w as0=some as1)(h2:WT tt as1 false)(h3:vP g tt fe as0 r=o):vP g tt fe as0 (w::r)=o:=by
 show(g w as0).bind _=_;rw[h1];show(tt as1).bind _=_
 rwa [h2]
def WE(f:EF)(as:AS)(x:D):Prop:=∃o,f as=some (.ow o,as)/\o.str=true/\o.toD=x
def RE(r:Option O)(x:D):Prop:=∃o,r=some o/\o.str=true/\o.toD=x
def WD.e(h:WD f as true x):WE f as x:=⟨_,h,rfl,rfl⟩
def RE.of(h:r=some (.lf true x)):RE r x:=⟨_,h,rfl,rfl⟩
def yN{os}(h:WO fr as os)(hl:os.length<=sizeLine)(hs:O.strs os=true)(e:D.lst (O.toDs os)=x):WE (yJ fr) as x:=⟨_,WY h hl,hs,e⟩
def xC(h:WE a as x)(hr:WA fr as rs):WA (aC a fr) as ((true,x)::rs):=by
 obtain⟨o,b,c,rfl⟩:=h;have:=Jv b hr
 rwa [c]at this
def wX(ha:WE a as x)(hg:RE (g [(true,x)]) z):WE (ze (aC a aN) g) as z:=by
 obtain⟨o,b,c,d⟩:=hg;exact⟨o,vR (xC ha zj) (by show g [(zE x||true,x)]=_;rwa [zyC]),c,d⟩
def yy(ha:WE a as x)(hb:WE b as y)(hg:RE (g [(true,x),(true,y)]) z):WE (ze (aC a<|aC b aN) g) as z:=by
 obtain⟨o,c,d,e⟩:=hg;exact⟨o,vR (xC ha<|xC hb zj) (by show g [(zE x||true,x),(zE y||true,y)]=_;rwa [zyC,zyC]),d,e⟩
def z9(ha:WE a as x)(hb:WE b as y)(hc:WE c as w)(hg:RE (g [(true,x),(true,y),(true,w)]) z):WE (ze (aC a<|aC b<|aC c aN) g) as z:=by
 obtain⟨o,d,e,f⟩:=hg;exact⟨o,vR (xC ha<|xC hb<|xC hc zj) (by show g [(zE x||true,x),(zE y||true,y),(zE w||true,w)]=_;rwa [zyC,zyC,zyC]),e,f⟩
def CA(ha:WE a as x)(hg:g [(true,x)]=some (.lf s z)):WD (ze (aC a aN) g) as s z:=vR (xC ha zj) (by show g [(zE x||true,x)]=_;rwa [zyC])
def Il(ha:WE a as x)(hb:WE b as y)(hc:WE c as w)(hg:g [(true,x),(true,y),(true,w)]=some (.lf s z)):WD (ze (aC a<|aC b<|aC c aN) g) as s z:=vR (xC ha<|xC hb<|xC hc zj) (by show g [(zE x||true,x),(zE y||true,y),(zE w||true,w)]=_;rwa [zyC,zyC,zyC])
def Ba(ha:WE a as x)(hb:WE b as y)(hg:g x y=some (.im z)):WD (f2 a b g) as true z:=by
 obtain⟨o,c,d,rfl⟩:=ha;obtain⟨p,e,f,rfl⟩:=hb;have:=m9 c e hg
 rwa [d,f,Bool.and_true,zyC]at this
def iO(ha:WE a as x)(hb:WE b as y)(hg:g x y=some (.fl zs)):f2 a b g as=some (.ow<|.nd .ls<|zs.map<|O.lf true,as):=by
 obtain⟨o,c,d,rfl⟩:=ha;obtain⟨p,e,f,rfl⟩:=hb;exact AR c e hg d f
theorem QO:∀zs:List D,O.strs (zs.map<|O.lf true)=true
 | []=>rfl
 |_::r=>QO r
theorem QL:∀zs:List D,O.toDs (zs.map<|O.lf true)=zs
 | []=>rfl
 |z::r=>congrArg _<|QL r
def rS(ha:WE a as x)(hb:WE b as y)(hg:g x y=some (.fl zs)):WE (f2 a b g) as (.lst zs):=⟨_,iO ha hb hg,QO zs,congrArg D.lst<|QL zs⟩
def xp(h:WE f as x)(hi:p<as.length):zr true p f as=some (.nx<|as.set p<|some<|.lf true x):=by
 obtain⟨o,a,b,rfl⟩:=h;have:=A5 a hi
 rwa [show o.frz = .lf true o.toD by unfold O.frz;rw[b]]at this
def qe(ha:WE a as x)(hb:WE b as y)(h:YS 60 x y=some q):WD (f2 a b<|zw .Eq) as true (.bl q):=Ba ha hb (by show(YS 60 x y).bind _=_;rw[h];rfl)
def Ua(ha:WE a as x)(hb:WE b as y)(h:YS 60 x y=some q):WD (f2 a b<|zw .NotEq) as true (.bl<|!q):=Ba ha hb (by show(YS 60 x y).bind _=_;rw[h];rfl)
def Fu(ha:WE a as x)(hg:g [x]=some (.im z)):WD (fP (aC a aN) g) as true z:=Iq (xC ha zj) hg rfl
def X4{os}(ha:a as=some (.ow o,as))(hr:WO fr as os):WO (dC a fr) as (o::os):=Zr ha hr
def FH{os}(h:WO fr as os)(hl:os.length<=sizeLine):yL fr as=some (.ow<|XC os,as):=by
 unfold yL;rw[h];show(if os.length<=sizeLine then some _ else _)=_;rw[if_pos hl]
def Bx{lo hi}(ha:WE a as y)(hl:fl as=some (lo,as))(hh:fh as=some (hi,as))(hg:g y lo hi=some (.fl zs)):WE (ZY a fl fh g) as (.lst zs):=by
 obtain⟨o,b,c,rfl⟩:=ha;refine⟨.nd .ls _, ?_,QO zs,congrArg D.lst<|QL zs⟩;unfold ZY;rw[b];show((fl as).bind _)=_;rw[hl];show((fh as).bind _)=_;rw[hh];show((g o.toD lo hi).bind _)=_;rw[hg];show(if _=true then some (RV.ow<|.nd .ls<|zs.map<|OH<|(some o.str).getD false)else none:Option RV).bind _=_;rw[if_pos ⋯,c];show some (RV.ow<|.nd .ls<|zs.map<|OH true,as)=_;rw[QA]
def Te:XU (.lst<|xs++ys) (some (xs.length:Int)) none=some (.fl ys):=by
 show some _=_
 congr 2
 unfold cutD;rw[HT.Pa,HT.Ml,zzJ,Nat.min_eq_left ⋯,List.drop_left,List.take_of_length_le ⋯]
theorem VS:∀ds:List D,kids true ds=ds.map λd=>(true,d)
 | []=>rfl
 |d::r=>by show(zE d||true,d)::kids true r=_;rw[VS r,zyC];rfl
def ou(h:WE f as (.lst ds)):Gp f as=some (ds.map λd=>(true,d),as):=by
 obtain⟨o,a,b,c⟩:=h;unfold Gp;rw[a];show(PZ _).bind _=_;rw[b,c];show some _=_;rw[VS]
def uC(h:WD f as true (.lst ds)):Yd f as=some (ds.map λd=>(true,d),as):=by
 unfold Yd;rw[h];show some (kids true ds,as)=_;rw[VS]
end
def Pz:List D->Option (List Str)
 | []=>some []
 | .str x::r=>(Pz r).bind λs=>some (x::s)
 |_::_=>none
def JL{K O}(h:RpL K kd O H vs ds)(hv:zQ vs us)(e:Pz ds=some ns):StrsAre us ns:=
 RpL.ind (P:=λvs ds=>∀us ns,zQ vs us->Pz ds=some ns->StrsAre us ns) (λus ns hv e=>by cases e;cases hv;exact .nil) (λ{v d vs ds} a _ ih us ns hv e=>by
  cases hv with
  |cons b t=>
   cases a with
   |str x=>
    obtain⟨ys,h1,h2⟩:=bS_<|e;cases h2;obtain⟨tk,rfl⟩:=b;exact .cons _ _ (ih _ _ t h1)
   |_=>cases e) h us ns hv e
def O1:D->List D->Option R0
 | .str sep,[.lst ds]=>(Pz ds).bind λys=>if(ys.map (·.length)).sum+ys.length*sep.length<=16777216 then some (.im<|.str<|Txt.join sep ys)else none
 |_,_=>none
section
variable{X:Cx}{kd:KD}
def Dc:iF X kd "str.join" O1:=by
 intro b s σ H x B v C Q I c r h;obtain⟨O,d,D,E,F,e,f,a,q⟩:=h;unfold O1 at a
 split at a
 . rename_i g G;obtain⟨J,i,a⟩:=bS_ a;obtain⟨j,a⟩:=zq a;cases a;cases e;obtain⟨t,rfl⟩:=c;obtain⟨y,rfl,l⟩:=W7 f;cases l with
   |lst m n=>
    obtain⟨u,rfl,o⟩:=vals1 r;cases o;obtain⟨p,w,z,_⟩:=I.list m.sq;exact join_list z.isList (JL n ⋯ i) j λA k=>⟨.str _,H,I.tok _,⟨A,rfl⟩,yk q<|.str _⟩
 . cases a
def jU:D->Option R0
 | .str x=>if x.length<=640 then(PySem.intText? x).bind λn=>some (.im<|.int n)else none
 |d=>kZ d
def U1:List D->Option R0:=qE jU
def Bi:Z8 X kd (.type "int") U1:=by
 intro c s σ H m e Q I r h;obtain⟨O,o,z,p,f,a,q⟩:=h;obtain⟨x,d,rfl,g,a⟩:=Ur f a;cases g with
 |str y=>
  obtain⟨j,a⟩:=ite_some' a;obtain⟨n,k,a⟩:=bS_ a;cases a;obtain⟨u,rfl,l⟩:=vals1 r;obtain⟨t,rfl⟩:=l;exact PySem.W.KIN.call_text k j ⟨.int _,H,I.tok _,⟨_,rfl⟩,yk q<|.int _⟩
 |int i=>cases a;exact KH c s σ H _ e Q I r (.inl ⟨_,rfl,yk q<|.int _⟩)
 |bl b=>cases a;exact KH c s σ H _ e Q I r (.inr ⟨_,rfl,yk q<|.int _⟩)
 |_=>cases a
end
section
variable{X:Cx}{pins:List (Addr×Obj)}{σ:List (Option V)}{H:Hp}{s:Shared}{h':Heap}
def NB{t':Nat}{ch:List Addr}(I:Inv X pins σ H s)(hf:∀b ∈ ch,Rq X pins H b)(k:∀b u,b ∉ ch->s.heap.get? b=some u->h'.get? b=some u)(hp:s.heap.objs.size<=T)
 (new:xY X.prog X.w (upd H T o) h' T o):Inv X pins σ (upd H T o) {s with heap:=h',toks:=t'}:=by
 have hn:=I.hok.fresh hp;have nT:∀b u,s.heap.get? b=some u->b≠T:=λb u e z=>absurd (zzK (zxH e)<|by rwa [z])<|Nat.lt_irrefl _;have nc:∀b u,H b=some u->b ∉ ch:=λb u e z=>by have:=(hf b z).1;rw[e]at this;cases this
 refine I.step (g':=s.gens) (d':=s.drawn) (λb hb=>?_) (λb o _ _ hc e _=>k b o hc e) (λb o _ _ hc e _=>⟨o.slots,k b o hc e⟩) (λb o _ e n=>by rwa [zF<|nT b o e])
  (λb o hc e=>⟨o,k b o hc e⟩) (λb xs e=>by rwa [zF<|zY e hn]) (λb o u e=>by rwa [zF<|zY e hn]) (λb ps e=>⟨#[],by rw[zF<|zY e hn,e];simp⟩) (λm hm=>?_) (λb u e=>?_) I.bare
 . obtain⟨f0,f1,f2,f3,f4,f5⟩:=hf b hb;exact⟨f3,f1,f4,f5⟩
 . obtain⟨o,es,ep,ho,r⟩:=hm;exact⟨o,es,ep,k _ o (λz=>(hf _ z).2.1 rfl) ho,r⟩
 . by_cases hb:b=T
   . subst hb;rw[z8]at e;cases e;exact new
   . rw[zF hb]at e;refine(I.hok b u e).stay (λc v hc q=>k c v ?_ q) (λc q=>by rwa [zF<|zY q hn]) λc xs q=>by rwa [zF<|zY q hn]
     rcases hc with z|z
     . rw[z];exact nc b u e
     . exact nc c _ z
end
def IZ(sep)(ys):Txt.join sep ys=Str.join sep ys:=StrLaws.glued_eq_join sep ys
section
variable{as:AS}{f a b:EF}{s t:Bool}{x y z:D}
def sX(h:WE f as (.tup ds)):Gp f as=some (ds.map λd=>(true,d),as):=by
 obtain⟨o,a,b,c⟩:=h;unfold Gp;rw[a];show(PZ _).bind _=_;rw[b,c];show some _=_;rw[VS]
def Ot:XU (.lst<|xs++ys) none (some (xs.length:Int))=some (.fl xs):=by
 show some _=_
 congr 2
 unfold cutD;rw[HT.Pa,HT.Ml,zzJ,Nat.min_eq_left ⋯,List.drop_zero,Nat.sub_zero,List.take_left]
end
def FE{t':Nat}{ch:List Addr}(I:Inv X pins σ H s)(hf:∀b ∈ ch,Rq X pins H b)(k:∀b u,b ∉ ch->s.heap.get? b=some u->h'.get? b=some u):Inv X pins σ H {s with heap:=h',toks:=t'}:=by
 have nc:∀b u,H b=some u->b ∉ ch:=λb u e z=>by have:=(hf b z).1;rw[e]at this;cases this
 refine I.step (g':=s.gens) (d':=s.drawn) (λb hb=>?_) (λb o _ _ hc e _=>k b o hc e) (λb o _ _ hc e _=>⟨o.slots,k b o hc e⟩) (λb o _ e n=>n)
  (λb o hc e=>⟨o,k b o hc e⟩) (λb xs e=>e) (λb o u e=>e) (λb ps e=>⟨#[],⋯⟩) (λm hm=>?_) (λb u e=>?_) I.bare
 . obtain⟨f0,f1,f2,f3,f4,f5⟩:=hf b hb;exact⟨f3,f1,f4,f5⟩
 . obtain⟨o,es,ep,ho,r⟩:=hm;exact⟨o,es,ep,k _ o (λz=>(hf _ z).2.1 rfl) ho,r⟩
 . refine(I.hok b u e).stay (λc v hc q=>k c v ?_ q) (λc q=>q) λc xs q=>q
   rcases hc with z|z
   . rw[z];exact nc b u e
   . exact nc c _ z
section
variable{X:Cx}{tg:Expr}
def HH(I l1 l2:Nat)(h1:l1<I)(h2:l2<I):ZipApart (I+4) (I+2) (I+3) I (I+1) l1 l2:=by
 constructor<;>(show(_:Nat)≠_;omega)
end
section
variable{X:Cx}{kd:KD}{tg e:Expr}{fa:EF}
def GP(st:Bool):List D->List D->List wB
 |x::r,y::t=>(st,.tup [x,y])::GP st r t
 |_,_=>[]
theorem Ea(st):∀(xs ys:List D),(GP st xs ys).length=min xs.length ys.length
 | [],_=>⋯
 |_::_,[]=>⋯
 |_::r,_::t=>by simp only[GP,zzT,Ea st r t];omega
theorem M7{st}:∀{xs ys:List D}{i:Nat}{y:wB},(GP st xs ys)[i]? = some y->∃d e,xs[i]? = some d/\ys[i]? = some e/\y=(st,.tup [d,e])
 | [],_,_,_,h=>by simp[GP]at h
 |_::_,[],_,_,h=>by simp[GP]at h
 |x::r,y::t,0,z,h=>by
  cases h;exact⟨x,y,rfl,rfl,rfl⟩
 |x::r,y::t,i+1,z,h=>by
  simp only[GP]at h;obtain⟨d,e,h1,h2,h3⟩:=M7 h;exact⟨d,e,⋯,⋯,h3⟩
def Dq{K ad st q}(rp:Rp K kd (Lv F B (Gw [] ad) st) H v (.lst ds))(hq:q=true->st=true):∃a vs,v = .ref a/\(∀(ad3:Ad) (H3:Hp),Grow (Gw [] ad) H (Gw [] ad3) H3->Pc K H3 a vs)/\RpL K kd (Lv F B (Gw [] ad) q) H vs ds:=by
 have le:∀a,Lv F B _ q a->Lv F B (Gw [] ad) st a:=λa z=>z.imp (λy=>y.imp (λx=>⟨hq x.1,x.2⟩) id) id;cases rp with
 |lst hn hr rl=>exact⟨_,_,rfl,λad3 H3 g3=>.inl<|W8 g3 (λz=>hn<|.inr z) hr,rl.less le⟩
 |lstK a b c rl=>exact⟨_,_,rfl,λad3 H3 g3=>.inr ⟨_,_,_,a,rfl,rfl,rfl,b,c⟩,rl.less le⟩
end
def insI(x:Int):List Int->List Int
 | []=>[x]
 |y::r=>if x<=y then x::y::r else y::insI x r
def sortI:List Int->List Int
 | []=>[]
 |x::r=>insI x<|sortI r
theorem insI_perm(x):∀l:List Int,(insI x l).Perm (x::l)
 | []=>List.Perm.refl _
 |y::r=>by
  unfold insI
  split
  . exact List.Perm.refl _
  . exact((insI_perm x r).cons y).trans<|List.Perm.swap x y r
theorem sortI_perm:∀l:List Int,(sortI l).Perm l
 | []=>List.Perm.refl _
 |x::r=>(insI_perm x _).trans<|(sortI_perm r).cons x
theorem U3(x):∀l:List Int,l.Pairwise (· <= ·)->(insI x l).Pairwise (· <= ·)
 | [],_=>by simp[insI]
 |y::r,h=>by
  unfold insI;rw[List.pairwise_cons]at h
  split
  . rename_i a;rw[List.pairwise_cons,List.pairwise_cons];refine⟨λz b=>?_,h⟩
    rcases zzC.mp b with rfl|b
    . exact a
    . exact Int.le_trans a<|h.1 z b
  . rename_i a;rw[List.pairwise_cons];refine⟨λz b=>?_,U3 x r h.2⟩
    rcases zzC.mp ((insI_perm x r).mem_iff.mp b)with rfl|b
    . omega
    . exact h.1 z b
theorem Y_:∀l:List Int,(sortI l).Pairwise (· <= ·)
 | []=>List.Pairwise.nil
 |x::r=>U3 x _<|Y_ r
theorem KY:∀(a b:List Int),a.Perm b->a.Pairwise (· <= ·)->b.Pairwise (· <= ·)->a=b
 | [],b,p,_,_=>by rw[List.nil_perm]at p;exact p.symm
 |x::r,[],p,_,_=>by rw[List.perm_nil]at p;cases p
 |x::r,y::t,p,c,d=>by
  rw[List.pairwise_cons]at c d;have f:x=y:=by
   have h:=p.mem_iff.mp<|zzF ..;have i:=p.mem_iff.mpr<|zzF ..
   rcases zzC.mp h with e|e
   . exact e
   . rcases zzC.mp i with g|g
     . exact g.symm
     . have:=d.1 x e;have:=c.1 y g;omega
  subst f;rw[KY r t (List.Perm.cons_inv p) c.2 d.2]
def De{K O}(h:RpL K kd O H vs ds)(hv:zQ vs us)(e:WW ds=some ns):IntsAre us ns:=
 RpL.ind (P:=λvs ds=>∀us ns,zQ vs us->WW ds=some ns->IntsAre us ns) (λus ns hv e=>by cases e;cases hv;exact .nil) (λ{v d vs ds} a _ ih us ns hv e=>by
  cases hv with
  |cons b t=>
   cases a with
   |int x=>
    obtain⟨ys,h1,h2⟩:=bS_<|e;cases h2;obtain⟨tk,rfl⟩:=b;exact .cons _ _ (ih _ _ t h1)
   |_=>cases e) h us ns hv e
theorem YZ:∀{us:List Value}{ns:List Int},IntsAre us ns->zQ (ns.map V.int) us
 |_,_,.nil=>.nil
 |_,_,.cons n t r=>.cons ⟨t,rfl⟩<|YZ r
theorem Ep{K O}:∀ns:List Int,RpL K kd O H (ns.map V.int)<|ns.map D.int
 | []=>.nil
 |y::r=>.cons (.int y)<|Ep r
def Jo:List D->Option R0:=qE λx=>(qP x).bind λds=>(WW ds).bind λns=>if ns.length<64 then some (.fl<|(sortI ns).map .int)else none
section
variable{X:Cx}{kd:KD}
def Bh:Z8 X kd (.builtin "sorted") Jo:=by
 intro pins s σ H xs us Q I r h;obtain⟨O,ds,z,ht,vl,he,q⟩:=h;obtain⟨x,d,rfl,vx,he⟩:=Ur vl he;obtain⟨ds,h0,he2⟩:=bS_<|he;cases Pg h0
 . obtain⟨ns,h1,he⟩:=bS_ he2;obtain⟨hz,he⟩:=zq he;cases he;cases vx with
   |lst hr rl=>
    obtain⟨u,rfl,ru⟩:=vals1 r;cases ru;obtain⟨its,rv,pl,_⟩:=I.list hr.sq;have hI:=De rl rv h1;have hl:=hI.length;refine sorted_ints pl.isList hI ⋯ λout ns' a1 a2 a3=>?_;have e:=KY _ _ (a2.trans (sortI_perm ns).symm) a3<|Y_ ns;subst e;obtain⟨ee,hob⟩:=sortedAll_at s.heap its out;have hn:=I.hok.fresh<|zyV _;refine⟨.ref _,_,I.laid (t':=s.toks) (λb o e=>sortedAll_old e) (zyV _) (show xY X.prog X.w _ _ _ (.lst _)from⟨?_,out.toList,ee,YZ a1,by simpa[seqObj]using hob⟩),rfl,We q (Ep _) _ hn⟩;rw[zzB,(sortI_perm ns).length_eq];exact Nat.le_of_lt<|Vf ⋯
end
theorem UJ:∀{vs:List V}{us:List Value},vs.length=us.length->(∀(i:Nat) v u,vs[i]? = some v->us[i]? = some u->RelV v u)->zQ vs us
 | [],[],_,_=>.nil
 | [],_::_,h,_=>by simp at h
 |_::_,[],h,_=>by simp at h
 |v::c,u::d,h,k=>.cons (k 0 v u rfl rfl)<|UJ (by simpa using h) λi a b x y=>k (i+1) a b ⋯ ⋯
section
variable{X:Cx}{tg:Expr}
def oU(ta:TA):TE:=λσ H Q=>ta σ H λvs H1=>∃j:Int,vs=[.int j] /\ -(2 ^ 62)<=j/\j<2 ^ 62/\∀r,H1 r=none->Q (.ref r) (upd H1 r<|.rng 0 j)
def H_(hg:Gl X "range")(hm:X.mg "range"=none)(ha:PA X [a] ta)(hs:starEach [a] X.env=[(false,eval a X.env)]):PE X (.Call (.Name "range" p) [a] [] pos) (oU ta):=by
 intro c s σ H Q I h;refine Call_<|WI I hg hm boot_range<|PyProof.Rows.callWith_type1 (xU (ha pos c s σ H _ I h) λl f ⟨m,n,d,g,i⟩=>?_) hs rfl;obtain⟨j,e,u,v,q⟩:=i;subst e;cases g with
 |cons r k=>
  cases k;obtain⟨t,rfl⟩:=r;exact call_range_1 ⟨.ref f.heap.objs.size,_,d.laid (λb o e=>zxG _ e) (zzN _) (show xY X.prog X.w _ _ _ (.rng 0 j)from⟨_,_,_,zxI _ rfl⟩),rfl,q _<|d.hok.fresh<|zzN _⟩
def gx(ta:TA):TE:=λσ H Q=>ue (oU ta) tL σ H λvs H2=>∃r H1,∃j:Int,vs=[.ref r]/\H1 r=none/\H2=upd H1 r (.rng 0 j)/\0<=j/\j<=100000/\∀l,H2 l=none->Q (.ref l) (upd H2 l<|.lst<|(List.range j.toNat).map λ(i:Nat)=>V.int i)
def Hn(hc:X.calm=true)(hg:Gl X "range")(hm:X.mg "range"=none)(hgl:Gl X "list")(hml:X.mg "list"=none)(ha:PA X [a] ta)(hs:starEach [a] X.env=[(false,eval a X.env)])
 (hs':starEach [.Call (.Name "range" p) [a] [] pos] X.env=[(false,eval (.Call (.Name "range" p) [a] [] pos) X.env)]):PE X (.Call (.Name "list" p') [.Call (.Name "range" p) [a] [] pos] [] pos') (gx ta):=by
 intro b s σ H Q I h;refine Call_<|WI I hgl hml Bt.list<|PyProof.Rows.callWith_type1 (xU ((Xp (H_ hg hm ha hs) Us hs') pos' b s σ H (λD g=>∃r o,∃j:Int,D=[.ref r]/\o r=none/\g=upd o r (.rng 0 j)/\0<=j/\j<=100000/\∀l,g l=none->Q (.ref l) (upd g l<|.lst<|(List.range j.toNat).map λ(i:Nat)=>V.int i)) I ?_) λP E ⟨D,g,m,F,G⟩=>?_) hs' rfl
 . exact h
 obtain⟨r,o,j,rfl,R,rfl,S,T,q⟩:=G;cases F with
 |cons J K=>
  cases K;cases J;obtain⟨t,u,v,L⟩:=m.hok r _<|z8 ..;have z:Builtin.Range.rangeSize 0 j 1=j.toNat:=by rw[rangeSize_one];split<;>omega
  refine call_list_range (m.ok.hd hc) L (small_one (by omega) (by omega) (by omega)<|by omega) ⋯ (by omega) λU W A M N B c=>?_;refine⟨.ref E.heap.objs.size,_,m.laid N (zzN _) (show xY X.prog X.w _ _ _ (.lst _)from⟨?_,A.toList,M, ?_,⋯⟩),rfl,q _<|m.hok.fresh<|zzN _⟩
  . rw[zzB,zyT];exact zzO (show j.toNat<=100000 by omega) (by decide)
  . refine UJ (by simpa using c.1.symm) λi x y d O=>?_;rw[zzI]at d;obtain⟨C,e⟩:=c.2 i y (by simpa using O);cases hr:(List.range j.toNat)[i]? with
    |none=>rw[hr]at d;cases d
    |some k=>
     rw[hr]at d;obtain⟨_,f⟩:=zzG.mp hr;subst f;cases d;exact⟨C,by rw[e];simp⟩
end
section
variable{X:Cx}{kd:KD}
def ic:List D->Option R0
 | [.int j]=>if 0<=j/\j<=100000 then some (.fl<|(List.range j.toNat).map λ(i:Nat)=>.int i)else none
 |_=>none
theorem Sn{K O}:∀l:List Nat,RpL K kd O H (l.map λ(i:Nat)=>V.int i)<|l.map λ(i:Nat)=>D.int i
 | []=>.nil
 |y::r=>.cons (.int y)<|Sn r
def SX(hc:X.calm=true)(hg:Gl X "range")(hm:X.mg "range"=none)(hgl:Gl X "list")(hml:X.mg "list"=none)(ha:AA X kd [a] fr)(hs:starEach [a] X.env=[(false,eval a X.env)])
 (hs':starEach [.Call (.Name "range" p) [a] [] pos] X.env=[(false,eval (.Call (.Name "range" p) [a] [] pos) X.env)]):AE X kd (.Call (.Name "list" p') [.Call (.Name "range" p) [a] [] pos] [] pos') (fP fr ic):=by
 with_unfolding_all exact(yb (Hn hc hg hm hgl hml ha hs hs') λσ H Q h=>by
  obtain⟨F,B,y,as,r,A,R,e,q⟩:=h;obtain⟨⟨C,d⟩,D,e⟩:=bS_<|e;obtain⟨⟨E,Z⟩,f,e⟩:=bS_ e;obtain⟨G,g,e⟩:=bS_ e;obtain⟨z,I,e⟩:=bS_ e;cases e
  match E,g,f with
  | [.int j],g,f=>
   obtain⟨⟨J,L⟩,M⟩:=zq<|g;cases M;refine(⟨F,B,y,as,C,d,R,D,λvs k u v m N=>?_⟩);have O:=Vb v m f;have P:=Zm v I λw S T U n V=>q w S k T U n<|N.trans V;cases O with
   |cons W Y=>
    cases Y;cases W;refine⟨j,rfl,⋯,⋯,λr x=>⟨r,u,j,rfl,x,rfl,J,L,λl c=>?_⟩⟩;have s:l≠r:=λe=>by rw[e,z8]at c;cases c
    have t:u l=none:=by rwa [zF s]at c
    exact P l _ _ t (λb o q=>Yk c b o<|Yk x b o q) z8<|Sn _)
end
def ZD(n:Nat)(os:List O):AS:=os.map some++List.replicate (n-os.length) none
theorem BF:∀(ls:List O) {vs:List V}{fp:List Addr},ls.all O.isLf=true->RoL L N H vs ls fp->fp=[]
 | [],_,_,_,r=>by cases r;rfl
 |o::ls,_,_,h,r=>by
  rw[List.all_cons,zyB]at h;cases r with
  |cons a r=>
   cases a with
   |lf _=>rw[BF ls h.2 r];rfl
   |_=>exact absurd h.1 (by simp[O.isLf])
def Br(h:RoL L N H vs ls fp):vs.length=ls.length:=RoL.length h
theorem Sf:∀(ls:List O) {vs:List V}{fp:List Addr}{i:Nat}{o:O},ls.all O.isLf=true->RoL L N H vs ls fp->ls[i]? = some o->∃v,vs[i]? = some v/\Ro L N H v o []
 | [],_,_,_,_,_,_,e=>by simp at e
 |d::ls,_,_,i,o,h,r,e=>by
  rw[List.all_cons,zyB]at h;cases r with
  |cons a r=>
   cases i with
   |zero=>
    simp at e;subst e;cases a with
    |lf z=>exact⟨_,rfl,.lf z⟩
    |_=>exact absurd h.1 (by simp[O.isLf])
   |succ i=>
    obtain⟨v,b,c⟩:=Sf ls h.2 r ⋯;exact⟨v,⋯,c⟩
def Ga{K}(ht:∀a,F a->H a≠none)(hn:T.Nodup)(hT:∀a ∈ T,H a≠none/\¬F a)(hl:ls.all O.isLf=true)(hN:(o::ls).length<=N.length)(ro:wb K kd F (λ_=>False) (· ∈ T) H vs (o::ls) T):
 Rel K kd F (λ_=>False) [] (λi=>if i=0 then T else[]) (ZD N.length (o::ls)) (L2.start N vs) H:=by
 have b:=Br ro;have n:∀a,Gw [] (λi=>if i=0 then T else[]) a ↔ a ∈ T:=λa=>⟨λz=>z.elim ⋯ λ⟨i,y⟩=>by
  by_cases e:i=0
  . subst e;simpa using y
  . simp[e]at y,λz=>.inr ⟨0,⋯⟩⟩
 have p:∀f a,Lv F (λ_=>False) _ f a->Lv F (λ_=>False) _ f a:=λf a z=>z.imp id (n a).mp;refine⟨by unfold ZD L2.start;simp[b];omega,λi c=>?_,λi=>?_,λi j a x y=>?_,zyI,(λ_ _ _ z=>nomatch z),ht,⋯,λa z=>hT a<|(n a).mp z,λi s e=>?_⟩
 . have:i≠0:=λz=>by subst z;unfold ZD at c;simp at c
   simp[this]
 . by_cases e:i=0
   . subst e;simpa using hn
   . simp[e]
 . have g:i=0:=by
    by_cases e:i=0
    . exact e
    . simp[e]at x
   have h:j=0:=by
    by_cases e:j=0
    . exact e
    . simp[e]at y
   rw[g,h]
 . unfold ZD at e;unfold L2.start
   by_cases c:i<(o::ls).length
   . rw[zyO (by rwa [zzB]),zzI]at e;obtain⟨d,k,l⟩:=zzW.mp e;subst l;rw[zyO<|by rwa [zzB,b]];cases ro with
     |cons a r=>
      rename_i v q A t;have u:=BF ls hl r;subst u;cases i with
      |zero=>
       simp at k;subst k;exact⟨v,rfl,by simpa using vN.lv p a⟩
      |succ i=>
       obtain⟨w,g,h⟩:=Sf ls hl r ⋯;exact⟨w,by simp[g],by simpa using vN.lv p h⟩
   . rw[zyQ<|by rw[zzB];exact q0B b c]at e;have:=zzZ e;have l:=(List.mem_replicate.mp this).2;subst l;have m:i≠0:=λz=>by subst z;exact c ⋯
     show _=[];rw[if_neg m]
section
variable{K:zzA}{kd:KD}{F B G:Addr->Prop}{H:Hp}
theorem Ez{st}(h:L st v d):∀(os:List O) {vs:List V}{fp:List Addr},RoL L N H vs os fp->RoL L N H (vs++[v]) (os++[.lf st d]) fp
 | [],_,_,r=>by cases r;exact .cons (.lf h) .nil
 |o::b,_,_,r=>by
  cases r with
  |cons a r=>
   exact .cons a<|Ez h b r
end
section
variable{K:zzA}{kd:KD}{F B G:Addr->Prop}{H:Hp}
def Q1(hp:G p):Grow G H G (upd H p u):=⟨λb w h n=>by rw[zF λe=>n<|by subst e;exact hp];exact h,λb z=>.inl z⟩
theorem BS:∀(os:List O) {vs:List V}{fp:List Addr}{n:Nat}{o:O},wb K kd F B G H vs os fp->fp.Nodup->(∀a ∈ fp,G a)->os[n]? = some o->
 ∃v f,vs[n]? = some v/\vN K kd F B G H v o f/\f.Nodup/\(∀a ∈ f,a ∈ fp)/\∀(p:Addr) (u:HO) (o':O),p ∈ f->vN K kd F B G (upd H p u) v o' f->wb K kd F B G (upd H p u) vs (os.set n o') fp
 | [],_,_,_,_,_,_,_,e=>by simp at e
 |E::k,_,_,n,o,r,l,c,e=>by
  cases r with
  |cons a r=>
   rename_i v I q J;obtain⟨s,t,i⟩:=zxD.mp l;cases n with
   |zero=>
    simp at e;subst e;exact⟨v,q,rfl,a,s,λx m=>zzP _ m,λp u j b d=>.cons d<|wb.grow (Q1<|c p<|zzP _ b) (λx m w h=>by rwa [zF λe=>i p b x m e.symm]) r⟩
   |succ n=>
    obtain⟨y,f,z,A,C,g,D⟩:=BS k r t (λx m=>c x<|zzL _ m) ⋯;exact⟨y,f,⋯,A,C,λx m=>zzL _<|g x m,λp u j b d=>.cons (vN.grow (Q1<|c p<|zzL _<|g p b) (λx m w h=>by rwa [zF λe=>i x m p (g p b) e]) a)<|D p u j b d⟩
theorem KG(h:L st' v d'):∀(os:List O) {vs:List V}{fp:List Addr}{n:Nat}{st:Bool}{d:D},RoL L N H vs os fp->os[n]? = some (.lf st d)->RoL L N H (vs.set n v) (os.set n<|.lf st' d') fp
 | [],_,_,_,_,_,_,e=>by simp at e
 |f::b,_,_,n,c,d,r,e=>by
  cases r with
  |cons a r=>
   cases n with
   |zero=>
    simp at e;subst e;cases a with
    |lf _=>exact .cons (.lf h) r
   |succ n=>exact .cons a (KG h b r ⋯)
def BO{n:Nat}{st}(c)(r:vN K kd F B G H v (.nd .ls inner) fp)(hn:fp.Nodup)(hG:∀a ∈ fp,G a)(e:inner[n]? = some (.lf st d)):
 ∃p ivs,v = .ref p/\p ∈ fp/\H p=some (.lst ivs)/\n<ivs.length/\vN K kd F B G (upd H p<|.lst<|ivs.set n<|.int c) v (.nd .ls<|inner.set n<|.lf true<|.int c) fp:=by
 cases r with
 |ls hp ir=>
  rename_i p ivs ifp;have hpfp:=(zzV.mp hn).1;refine⟨p,ivs,rfl,zzF ..,hp,by rw[Br ir];exact(zzG.mp e).1,.ls z8<|KG (.int c) inner (wb.grow (Q1<|hG p ⋯) (λx m w h=>by rwa [zF λe=>hpfp<|by subst e;exact m]) ir) e⟩
def tB{os}{n:Nat}(r:vN K kd F B G H v (.nd .ls os) fp)(hn:fp.Nodup)(hG:∀a ∈ fp,G a)(e:os[n]? = some o):
 ∃l vs w f,v = .ref l/\H l=some (.lst vs)/\vs[n]? = some w/\vN K kd F B G H w o f/\f.Nodup/\(∀a ∈ f,a ∈ fp)/\∀(p:Addr) (u:HO) (o':O),p ∈ f->vN K kd F B G (upd H p u) w o' f->vN K kd F B G (upd H p u) v (.nd .ls<|os.set n o') fp:=by
 cases r with
 |ls c g=>
  rename_i l h i;obtain⟨w,f,j,k,q,d,s⟩:=BS os g (zzV.mp hn).2 (λa m=>hG a<|zzD _ m) e;exact⟨l,h,w,f,rfl,c,j,k,q,λa m=>zzD _<|d a m,λp u t b x=>.ls (by rwa [zF λe=>(zzV.mp hn).1<|by rw[e];exact d p b])<|s p u t b x⟩
end
section
variable{K:zzA}{kd:KD}{F B:Addr->Prop}{ad:Ad}{as:AS}{σ:St}{H:Hp}{i:Nat}{o:O}
def Rel.slotU(R:Rel K kd F B [] ad as σ H)(k:as[i]? = some (some o)):
 ∃v,σ[i]? = some (some v)/\vN K kd F B (Gw [] ad) H v o (ad i)/\(ad i).Nodup/\(∀a ∈ ad i,Gw [] ad a)/\
  ∀(p:Addr) (u:HO) (o':O),p ∈ ad i->vN K kd F B (Gw [] ad) (upd H p u) v o' (ad i)->Rel K kd F B [] ad (as.set i<|some o') σ (upd H p u)/\Grow (Gw [] ad) H (Gw [] ad) (upd H p u):=by
 obtain⟨v,d,n⟩:=R.sl i _ k;have r:=(zzG.mp k).1;refine⟨v,d,n,R.nd i,λa m=>.inr ⟨i,m⟩,λp u t f b=>?_⟩;have g:Grow _ H (Gw [] ad) (upd H p u):=Q1<|.inr ⟨i,f⟩;have c:∀a,H a≠none->upd H p u a≠none:=λa z=>by
  by_cases e:a=p
  . subst e;rw[z8];simp
  . rwa [zF e]
 refine⟨⟨by rw[zzU];exact R.len,λj l=>R.out j (by rwa [zzU]at l),R.nd,R.inj,R.tnd,R.dis,λa z=>c a<|R.ftr a z,λa z=>⟨c a (R.btr a z).1,(R.btr a z).2⟩,λa z=>⟨c a (R.gtr a z).1,(R.gtr a z).2⟩,λj s e=>?_⟩,g⟩
 by_cases q:j=i
 . subst q;rw[zyJ r]at e;cases e;exact⟨v,d,b⟩
 . rw[zzX<|Ne.symm q]at e;exact(R.sl j s e).grow g λa m u h=>by rwa [zF λe=>q<|R.inj j i a m<|by rwa [e]]
end
abbrev EJ:=AS->Option Int
def iY(K:zzA)(kd:KD)(f:EJ):TE:=λσ H Q=>∃F B ad as k,Rel K kd F B [] ad as σ H/\f as=some k/\Q (.int k) H
@[irreducible] def AK(X:Cx)(kd:KD)(e:Expr)(f:EJ):Prop:=PE X e<|iY X.K kd f
def TN:O->Option (List O)
 | .nd .ls os=>some os
 |_=>none
def QI:O->Option D
 | .lf _ d=>some d
 |_=>none
def S5{α:Type}(f:O->Option α)(os:List O)(k:Nat):Option α:=os[k]?.bind f
def BH{α:Type}(f:O->Option α)(as:AS)(i:Nat):Option α:=as[i]?.bind λs=>s.bind f
def Bo{os}(h:TN o=some os):o = .nd .ls os:=by
 cases o with
 |lf s d=>cases h
 |nd k a=>cases k<;>cases h;rfl
def Sq(h:QI o=some d):∃st,o = .lf st d:=by
 cases o with
 |lf s d=>cases h;exact⟨s,rfl⟩
 |nd k a=>cases h
def IQ{α:Type}{f os}{k:Nat}{a:α}(h:S5 f os k=some a):∃o,os[k]? = some o/\f o=some a:=bS_ h
def IC(h:BH f as k=some a):∃o,as[k]? = some (some o)/\f o=some a:=by
 obtain⟨s,b,h⟩:=bS_ h;obtain⟨o,rfl,h⟩:=bS_ h;exact⟨o,b,h⟩
def jD{os inner:List O}{k:Nat}(h:S5 TN os k=some inner):os[k]? = some (.nd .ls inner):=by
 obtain⟨o,a,h⟩:=IQ h;cases Bo h;exact a
def lE{os}{d:D}{k:Nat}(h:S5 QI os k=some d):∃st,os[k]? = some (.lf st d):=by
 obtain⟨o,a,h⟩:=IQ h;obtain⟨b,rfl⟩:=Sq h;exact⟨b,a⟩
def nu{inner}{k:Nat}(h:BH TN as k=some inner):as[k]? = some (some<|.nd .ls inner):=by
 obtain⟨o,a,h⟩:=IC h;cases Bo h;exact a
def pC(h:BH QI as k=some d):∃st,as[k]? = some (some<|.lf st d):=by
 obtain⟨o,a,h⟩:=IC h;obtain⟨b,rfl⟩:=Sq h;exact⟨b,a⟩
def NT{α:Type}{f os}{k:Nat}{a:α}(h:os[k]? = some o)(e:f o=some a):S5 f os k=some a:=by unfold S5;rwa [h]
def L3(h:as[k]? = some (some o))(e:f o=some a):BH f as k=some a:=by unfold BH;rwa [h]
def xV(i:Nat):EJ:=λas=>(BH QI as i).bind N0
def CD(i:Nat)(f:EJ):EJ:=λas=>(f as).bind λk=>if 0<=k then(BH QI as i).bind λd=>(qP d).bind λds=>ds[k.toNat]?.bind N0 else none
section
variable{X:Cx}{kd:KD}{f g:EJ}{a b:Expr}
def rL(hv:PE X (.Name x p) (Y1 i)):AK X kd (.Name x p) (xV i):=by
 with_unfolding_all exact(yb hv λσ H Q h=>by
  obtain⟨F,B,ad,as,k,R,e,q⟩:=h;obtain⟨d,e1,e⟩:=bS_<|e;cases LR e;obtain⟨st,k1⟩:=pC e1;obtain⟨v,hv,ro⟩:=R.sl i _ k1;generalize ad i=fp at ro;cases ro with
  |lf rp=>cases rp;exact⟨_,hv,q⟩)
def nV(hv:PE X (.Name x p) (Y1 i))(hb:AK X kd b f)(hs:Qb b):AK X kd (.Subscript (.Name x p) b pos) (CD i f):=by
 with_unfolding_all exact(yb (OY NR hv hb hs) λσ H Q h=>by
  obtain⟨F,B,ad,as,c,R,e,q⟩:=h;obtain⟨k,h1,e⟩:=bS_<|e;obtain⟨hk,e⟩:=ite_some' e;obtain⟨d0,e1,e3⟩:=bS_ e;obtain⟨ds,e2,e4⟩:=bS_ e3;obtain⟨d,k2,e5⟩:=bS_ e4;cases Pg e2;cases LR e5;obtain⟨st,k1⟩:=pC e1;obtain⟨v,hv,ro⟩:=R.sl i _ k1;generalize ad i=fp at ro;cases ro with
  |lf rp=>
   obtain⟨l,vs,rfl,hq,rl⟩:=Dq rp λz=>z;obtain⟨w,hw,rw'⟩:=rl.get k2;cases rw';refine⟨_,hv,F,B,ad,as,k,R,h1,l,vs,k,_,rfl,rfl,hq ad H Grow.refl, ?_,q⟩;have:=Ve hw
   rwa [zyX hk]at this)
end
def Sg(i:Nat)(f1 f2 fv:EJ):SF:=λas=>(f1 as).bind λk1=>(f2 as).bind λk2=>(fv as).bind λc=>if 0<=k1/\0<=k2 then(BH TN as i).bind λos=>(S5 TN os k1.toNat).bind λinner=>(S5 QI inner k2.toNat).bind λ_=>some (.nx<|as.set i<|some<|.nd .ls<|os.set k1.toNat<|.nd .ls<|inner.set k2.toNat<|.lf true<|.int c)else none
def Dg(h:j<n):ixN n (j:Int)=some j:=by
 unfold ixN;rw[if_pos ⋯,if_pos ⋯];simp
def Sv(h0:0<=k)(h:k.toNat<n):ixN n k=some k.toNat:=by
 have:=Dg h
 rwa [show k.toNat=k from q0u h0]at this
def JJ(h0:0<=k)(h:xs[k.toNat]? = some v):atI xs k=some v:=by
 have:=Ve h
 rwa [show k.toNat=k from q0u h0]at this
section
variable{X:Cx}{kd:KD}
def qJ:pb X (λx lo hi H Q=>∃z,x = .str z/\z.length<=sizeLine/\Q (.str<|Txt.slice z lo hi) H):=by
 intro f s σ H x v p r w y A Q I n a o g h;obtain⟨z,rfl,b,q⟩:=h;obtain⟨t,rfl⟩:=n;refine⟨"str",_,F.slot_str_getitem.lookup,typeIs_str _ _ _, ?_⟩;cases o with
 |none=>
  cases g with
  |none=>exact wpAny_getItem_str_slice (l:=none) (u:=none) (st:=none) a rfl (post_val_or_str ⟨zzO (Txt.slice_le z _ _) b,λc k=>⟨.str _,H,I.kept λ_ _ e=>e,⟨_,rfl⟩,q⟩⟩)
  |int j d=>exact wpAny_getItem_str_slice (l:=none) (u:=some (j,d)) (st:=none) a rfl (post_val_or_str ⟨zzO (Txt.slice_le z _ _) b,λc k=>⟨.str _,H,I.kept λ_ _ e=>e,⟨_,rfl⟩,q⟩⟩)
 |int i m=>
  cases g with
  |none=>exact wpAny_getItem_str_slice (l:=some (i,m)) (u:=none) (st:=none) a rfl (post_val_or_str ⟨zzO (Txt.slice_le z _ _) b,λc k=>⟨.str _,H,I.kept λ_ _ e=>e,⟨_,rfl⟩,q⟩⟩)
  |int j d=>exact wpAny_getItem_str_slice (l:=some (i,m)) (u:=some (j,d)) (st:=none) a rfl (post_val_or_str ⟨zzO (Txt.slice_le z _ _) b,λc k=>⟨.str _,H,I.kept λ_ _ e=>e,⟨_,rfl⟩,q⟩⟩)
def HY:D->Option Int->Option Int->Option R0
 | .str z,lo,hi=>if z.length<=sizeLine then some (.im<|.str<|Txt.slice z lo hi)else none
 |_,_,_=>none
def oo:pb X (λx lo hi H Q=>∃O d r,(∀a,O a->H a≠none)/\Vw X.K kd O H x d/\HY d lo hi=some r/\RQ X.K kd O H Q r):=by
 intro b s σ H x v f g i j k Q I l m n o h;obtain⟨O,d,r,t,p,e,q⟩:=h;unfold HY at e
 split at e
 . obtain⟨c,rfl⟩:=zq e;cases p;exact qJ b s σ H _ v f g i j k Q I l m n o ⟨_,rfl,c,yk q<|.str _⟩
 . cases e
def HN{lo hi}(ha:AE X kd a fa)(hl:AO X kd lo fl)(hh:AO X kd hi fh):AE X kd (.Subscript a (.Slice lo hi none p2) pos) (ZY fa fl fh HY):=by with_unfolding_all exact(yb (EG oo ha hl hh) λσ H Q h=>by
 obtain⟨F,B,O,as,r,s,R,e,q⟩:=h;obtain⟨⟨p,c⟩,t,e⟩:=bS_<|e;obtain⟨⟨l,b⟩,x,e⟩:=bS_ e;obtain⟨⟨u,y⟩,A,e⟩:=bS_ e;obtain⟨⟨d,P⟩,C,e⟩:=bS_ e;obtain⟨D,E,e⟩:=bS_ e;obtain⟨z,G,e⟩:=bS_ e;cases e;refine xS R t λv f S I g J=>⟨F,B,f,c,l,b,I,x,λi T R2 n=>⟨F,B,i,b,u,_,R2,A,λj U k o=>?_⟩⟩;exact⟨_,d,D,k.tr _,xq.vw k ((g.grow n).grow o) C,E,Zm k G λw K L M m N=>q w K j L M m<|((J.trans n).trans o).trans N⟩)
end
def Nq:typeLookup (.type "list") "keys"=pure none:=⋯
def FT
 (hx:s.heap.get? a=some o) (hc:o.cls = .type "list") (hdat:o.data = .seq xs k) (hd:o.dict=none) (hA:A.handled=none)
 (h:∀h' tk,(∀b o,s.heap.get? b=some o->h'.get? b=some o)->Q none {s with heap:=h',toks:=tk}):
 wpAny (model prog w) A (getAttr? (.ref a) "keys") Q E s:=by
 obtain⟨c,dct,dat,sl⟩:=o;simp only at hc hdat hd;subst hc hdat hd;obtain⟨hp,g,d,tk,os⟩:=s;have hT:∀tk',(⟨hp,g,d,tk',os⟩:Shared).TypeIs (.ref a) "list":=λ_=>⟨_,hx,rfl⟩;have f1:=sub_AttributeError;have f3:=F.slot_list_getattribute.lookup;have f4:=F.slot_list_getattribute.bind<|.ref a;have f5:=am_list_getattr_none;unfold getAttr? getAttrBy? getAttrBy
 repeat (any_goals (first|assumption|exact hT _|((with_reducible show wpAny _ _ (call _ _ _) _ _ _);refine call_meets F.slot_list_getattribute (hT _) am_entry_list_getattribute (F.args_list_getattribute_2 _ _) (meets_getattribute_miss_list a xs k sl "keys" _ Nq<|by decide +kernel) ⟨hx,hA,λh' tk' e hx'=>?_⟩)|wp_step))
 obtain⟨t',u',he⟩:=hx'.there;unfold getattributeRaised
 repeat (any_goals (first|assumption|wp_step))
 exact h _ _ hx'.keeps
def vV:plainId "dict.update.loop"=true:=by decide +kernel
def WC:entryFor table "dict.update.loop"=some Builtin.«dict.update.loop» := ⋯
section
variable{prog:Program}{w:World}{κ:Type}[DecidableEq κ]{knd:KeyKind prog w κ}{A:Around}{R:Result->Shared->Prop}{d I l:Addr}{items:Array Value}{N:Nat}
def putAll(kvs:List (κ×Value)):List (κ×Value)->List (κ×Value)
 | []=>kvs
 |p::r=>putAll (stored kvs p.1 p.2) r
def E5(kvs)(k:κ)(v):(stored kvs k v).length<=kvs.length+1:=by
 unfold stored
 split
 . rw[zzB];exact q0i
 . rw[zzJ];exact zzN _
def CG(hh:A.handled=none)(hdN:N<=d)(hIN:N<=I)(hdI:d≠I)(hlN:l<N):∀(rest:List (κ×Value)) (i:Nat) (s:Shared) (kvs:List (κ×Value)),s.heap.IsListIter I l i->s.heap.IsList l items->s.heap.DictOf knd d kvs->kvs.length+rest.length<=sizeLine->
 (∀j p,rest[j]? = some p->∃q key,items[i+j]? = some (.ref q)/\q<N/\IsTup s.heap q #[key,p.2]/\knd.is p.1 key=true)->items[i+rest.length]? = none->
 (∀h' tk,h'.DictOf knd d (putAll kvs rest)->(∀b o,b<N->s.heap.get? b=some o->h'.get? b=some o)->R (.ok<|.ret .none) {s with heap:=h',toks:=tk})->
 codeAny (model prog w) A (.builtin "dict.update.loop" ⟨[.ref d,.ref I,rawInt i,.none],[]⟩) R s:=by
 intro rest
 induction rest with
 |nil=>
  intro i s kvs hit hl hm hz hp he hR;refine codeAny_builtin WC ?_;rw[Around.under_plainId vV _];refine zxE<|wpAny_pyNext_list_end hh hit hl he λh' hx=>?_;refine zxE<|zxF<|zxF ?_;obtain⟨o,es,ep,ho,r⟩:=hm;exact hR h' s.toks ⟨o,es,ep,hx d o hdI ho,r⟩ λb o hb e=>hx b o (zzQ<|zzK hb hIN) e
 |cons p rest ih=>
  intro i s kvs hit hl hm hz hp he hR;obtain⟨q,key,hq,hqN,ht,hkey⟩:=hp 0 p rfl;refine codeAny_builtin WC ?_;rw[Around.under_plainId vV _];refine zxE<|wpAny_pyNext_list_item hit hl hq λh' hit' hs=>?_;have sm:∀b o,b≠I->s.heap.get? b=some o->h'.get? b=some o:=λb o hb e=>(hs.2 b hb).trans e;obtain⟨oq,hoq,hcq,nq,hdq⟩:=ht;have hoq':=sm q oq (zzQ<|zzK hqN hIN) hoq;have hm':h'.DictOf knd d kvs:=let⟨o,es,ep,ho,r⟩:=hm;⟨o,es,ep,sm d o hdI ho,r⟩;have hl':h'.IsList l items:=let⟨o,ho,r⟩:=hl;⟨o,sm l o (zzQ<|zzK hlN hIN) ho,r⟩;have hT:({s with heap:=h'}:Shared).TypeIs (.ref q) "tuple":=⟨oq,hoq',hcq⟩;refine zxE<|zxJ<|zxE<|wpAny_tryCatch ?_;unfold Builtin.Dict.pairItems;refine zxE<|wpAny_typeOf hT ?_;rw[if_pos<|by decide];refine zxE<|wpAny_seqItems hoq' hdq<|zxF ?_;refine zxJ<|wpAny_dictSet_pairs hkey hm' λh'' hm'' hs''=>?_;have sm2:∀b o,b≠d->h'.get? b=some o->h''.get? b=some o:=λb o hb e=>(hs''.2 b hb).trans e;refine zxF ⟨plainId_quiet vV _, ?_⟩;have hit'':h''.IsListIter I l (i+1):=let⟨o,ho,r⟩:=hit';⟨o,sm2 I o (Ne.symm hdI) ho,r⟩;have hl'':h''.IsList l items:=let⟨o,ho,r⟩:=hl';⟨o,sm2 l o (zzQ<|zzK hlN hdN) ho,r⟩;have keep:=λb o hb e=>sm2 b o (zzQ<|zzK hb hdN)<|sm b o (zzQ<|zzK hb hIN) e;have:=ih (i+1) {s with heap:=h'',toks:=s.toks+1} _ hit'' hl'' hm'' (by have:=E5 kvs p.1 p.2;simp only[zzT]at hz;omega)
   (λj p' hj=>by
    obtain⟨q',key',a1,a2,⟨o',a3,a4⟩,a5⟩:=hp (j+1) p' (by simpa using hj);exact⟨q',key',by rw[show i+1+j=i+(j+1) from q0D];exact a1,a2,⟨o',keep q' o' a2 a3,a4⟩,a5⟩)
   (by rw[show i+1+rest.length=i+(p::rest).length by simp only[zzT];exact q0D];exact he)
   (λh3 tk hm3 k3=>hR h3 tk hm3 λb o hb e=>k3 b o hb<|keep b o hb e)
  exact this
end
def P3{κ:Type}[DecidableEq κ]{knd:KeyKind prog w κ}{n:Nat}{ps}(hh:A.handled=none)
 (ho:s.heap.get? l=some o) (hc:o.cls = .type "list") (hd:o.data = .seq items n) (hn:o.dict=none) (hsz:ps.length<=sizeLine)
 (hp:∀(j:Nat) (p:κ×Value),ps[j]? = some p->∃(q:Addr) (key:Value),items[j]? = some (Value.ref q)/\IsTup s.heap q #[key,p.2]/\knd.is p.1 key=true) (he:items[ps.length]? = none)
 (h:∀h' tk,h'.DictOf knd s.heap.objs.size (putAll [] ps)->(∀b o,s.heap.get? b=some o->h'.get? b=some o)->Q (.ref s.heap.objs.size) {s with heap:=h',toks:=tk}):wpAny (model prog w) A (call (.type "dict") [.ref l]) Q E s:=by
 refine callType_codes (Q₁:=λd z=>d = .ref s.heap.objs.size/\z={s with heap:=s.heap.push {cls:=.type "dict",data:=.dict #[]}}) F.kt_called_dict (F.kt_typeCall_dict_1 _) F.entry_dict_init (kt_code_dict_new _ ⟨rfl,rfl⟩) ?_
 rintro d z ⟨rfl,rfl⟩
 have a:(s.heap.push {cls:=.type "dict",data:=.dict #[]}).DictOf knd s.heap.objs.size []:=Heap.DictOf.new s.heap;have f:∀b o,s.heap.get? b=some o->(s.heap.push {cls:=.type "dict",data:=.dict #[]}).get? b=some o:=λb o e=>zxG _ e;have C:({s with heap:=s.heap.push {cls:=.type "dict",data:=.dict #[]}}:Shared).TypeIs (.ref l) "list":=⟨o,f l o ho,hc⟩;refine⟨a.typeIs,F.args_dict_init_2 _ _, ?_⟩;refine zxE ?_;refine zxE<|wpAny_notOrdered_dict a.typeIs ?_;refine zxF ?_;show wpAny _ _ (Builtin.Dict.updateFrom "dict.__init__" s.heap.objs.size _ [] .none) _ _ _;refine zxE<|wpAny_typeOf C ?_;refine zxE<|FT (f l o ho) hc hd hn hh λg v i=>?_;refine zxE<|wpAny_rule ?_;have k:=i l o<|f l o ho;have x:g.IsList l items:=⟨o,k,hc,n,hd⟩;refine zxE<|wpAny_pyIter_list x ?_;have t:∀b o,g.get? b=some o->(g.push {cls:=.type "list_iterator",data:=.fields #[.ref l,.int 0 0]}).get? b=some o:=λb o e=>zxG _ e;have m:s.heap.objs.size<g.objs.size:=by
  obtain⟨u,_,_,c,_⟩:=a;exact zxH<|i _ _ c
 refine zxF ⟨plainId_quiet vV _, ?_⟩;refine CG (A:=A.in1) (knd:=knd) hh (zzN _) (Nat.le_of_lt m) (zzQ m) (zxH ho) ps 0 {s with heap:=g.push {cls:=.type "list_iterator",data:=.fields #[.ref l,.int 0 0]},toks:=v} [] ⟨_,zxI _ rfl,rfl,rfl⟩ ⟨o,t l o k,hc,n,hd⟩ ?_ (by rw[List.length_nil];omega) (λj p D=>?_) (by rwa [zyW]) λG H I J=>?_
 . obtain⟨u,K,L,c,r⟩:=a;exact⟨u,K,L,t _ _<|i _ _ c,r⟩
 . obtain⟨q,y,M,⟨u,B,O⟩,P⟩:=hp j p D;exact⟨q,y,by rw[zyW];exact M,zxH B,⟨u,t _ _<|i _ _<|f _ _ B,O⟩,P⟩
 . exact⟨rfl,h G H I λb o e=>J b o (zxH e)<|t _ _<|i _ _<|f _ _ e⟩
def Uz:List D->Option (List<|Key×D)
 | []=>some []
 |d::r=>(jI d).bind λl=>(rW l).bind λp=>(Bl p.1).bind λk=>(Uz r).bind λt=>some ((k,p.2)::t)
def j5:D->Option R0
 | .dct kvs=>some<|.fd kvs
 | .lst ds=>(Uz ds).bind λkvs=>if(kvs.map (·.1)).Nodup then some (.fd kvs)else none
 |_=>none
def MD:List D->Option R0:=qE j5
theorem T4[DecidableEq κ]:∀(ps acc:List (κ×Value)),((acc++ps).map (·.1)).Nodup->putAll acc ps=acc++ps
 | [],a,_=>(zyD a).symm
 |p::r,a,h=>by
  have b:stored a p.1 p.2=a++[p]:=by
   unfold stored;rw[if_neg];rw[zyL]at h;obtain⟨_,_,c⟩:=zxD.mp h;intro z;obtain⟨q,m,e⟩:=List.any_eq_true.mp z;exact c q.1 (List.mem_map_of_mem m) p.1 (zzF ..)<|of_decide_eq_true e
  show putAll _ r=_;rw[b,T4 r _ (by rwa [zxB]),zxB];rfl
section
variable{X:Cx}{kd:KD}{O:Addr->Prop}{pins:List (Addr×Obj)}{σ:St}{H:Hp}{s:Shared}
theorem Tt(I:Inv X pins σ H s):∀{vs:List V}{us:List Value}{ds:List D}{dk:List (Key×D)},RpL X.K kd O H vs ds->zQ vs us->Uz ds=some dk->
 ∃(kvs:List (Key×V)) (ps:List (Key×Value)),KV kvs ps/\RpM X.K kd O H kvs dk/\ps.length=us.length/\ps.map (·.1)=dk.map (·.1)/\kvs.length=ps.length/\
  ∀(j:Nat) (p:Key×Value),ps[j]? = some p->∃(q:Addr) (key:Value),us[j]? = some (Value.ref q)/\IsTup s.heap q #[key,p.2]/\(yB X.prog X.w).is p.1 key=true
 |_,_,[],_,b,r,e=>by
  cases b;cases r;cases e;exact⟨[],[],.nil,.nil,rfl,rfl,rfl,λj p h=>by simp at h⟩
 |_,_,d::i,dk,b,r,e=>by
  cases b with
  |cons l b=>
   cases r with
   |cons m r=>
    obtain⟨l0,n,o⟩:=bS_<|e;obtain⟨_,x,y⟩:=bS_ o;cases Ii n;cases BX x
    . obtain⟨c,z,e⟩:=bS_ y;obtain⟨t,A,e⟩:=bS_ e;cases e;obtain⟨f,B,C,E,F,G,J,L⟩:=Tt I b r A;cases l.vw with
      | tup M N a=>
            rename_i q ws;cases a with
            |cons P a=>
             cases a with
             |cons Q a=>
              cases a;rename_i R g;have S:=FK P.vw z;subst S;obtain⟨T,U,W,_⟩:=I.tuple N;obtain⟨Y,Z,rfl,r1,r2⟩:=vals2 U;cases m;refine⟨_::f,(c,Z)::B,.cons ⟨rfl,r2⟩ C,.cons Q E,congrArg _ F,congrArg _ G,congrArg _ J,λj p h=>?_⟩;cases j with
              |zero=>
               simp at h;subst h;exact⟨q,Y,rfl,W,Mf r1⟩
              |succ j=>simpa using L j p ⋯
def FV(hc:X.calm=true)(hk:KdOk X kd):Z8 X kd (.type "dict") MD:=by
 intro c s σ H xs A Q I r h;obtain⟨O,ds,z,B,C,b,q⟩:=h;obtain⟨x,d,rfl,D,b⟩:=Ur C b;cases D with
 |dct e E=>exact Hq hk c s σ H _ A Q I r ⟨O,[.dct _],z,B,.cons (.dct e E) .nil,b,q⟩
 |lst e F=>
  obtain⟨dk,G,b⟩:=bS_<|b;obtain⟨J,b⟩:=zq b;cases b;obtain⟨u,rfl,K⟩:=vals1 r;cases K;obtain⟨L,m,⟨o,n,M,f,g,i⟩,hz⟩:=I.list e.sq;obtain⟨k,t,N,P,R,S,a5,T⟩:=Tt I F m G;have v:=m.length;refine P3 (knd:=yB X.prog X.w) (ps:=t) (I.ok.hd hc) M f i g ⋯ (λj p U=>?_) (by rw[R];simp) λh' V y W=>?_
  . obtain⟨Y,l,Z,b2,b3⟩:=T j p U;exact⟨Y,l,by simpa using Z,b2,b3⟩
  . rw[T4 t []<|by rwa [List.nil_append,S]]at y;exact⟨.ref _,_,I.laid (t':=V) W (zzN _)<|Fx ⋯ (beq_eq_false_iff_ne.mpr<|Ne.symm<|zzQ I.big) N y,rfl,OA q P _<|I.hok.fresh<|zzN _⟩
 |_=>cases b
end
def pR{α:Type}{P:List α->Prop}(h:∀a,P [a]):∀us:List α,us.length=1->P us
 | [a],_=>h a
def pB{α:Type}{P:List α->Prop}(h:∀a b,P [a,b]):∀us:List α,us.length=2->P us
 | [a,b],_=>h a b
def nB{α:Type}{P:List α->Prop}(h:∀a b c,P [a,b,c]):∀us:List α,us.length=3->P us
 | [a,b,c],_=>h a b c
def mG{α:Type}{P:List α->Prop}(h:∀a b c d,P [a,b,c,d]):∀us:List α,us.length=4->P us
 | [a,b,c,d],_=>h a b c d
def nW{α:Type}{P:List α->Prop}(h:∀a b c d e,P [a,b,c,d,e]):∀us:List α,us.length=5->P us
 | [a,b,c,d,e],_=>h a b c d e
section
variable{X:Cx}{kd:KD}
def aI:AE X kd (.Constant (.int c) j pos) (fC<|.int c):=TB uU λ_ _=>.int _
def aS:AE X kd (.Constant (.str c) j pos) (fC<|.str c):=TB rE λ_ _=>.str _
def aZ:AE X kd (.Constant .none j pos) (fC .non):=TB qu λ_ _=>.non
def aB:AE X kd (.Constant (.bool c) j pos) (fC<|.bl c):=TB p9 λ_ _=>.bl _
def ax{K}(hkd:q_ P w K kd)(ha:AE X kd a fa)(hb:AE X kd b fb)(h1:X.prog=P:=by rfl)(h2:X.w=w:=by rfl)(h3:X.K=K:=by rfl)(hm:Qb b:=by exact λ_ _=>rfl):AE X kd (.Subscript a b pos) (f2 fa fb zD):=n_ (jl<|hkd _ h1 h2 h3) ha hb hm
def sv(z)(i:Nat)(hN:X.N.Nodup)(he:AE X kd e fa)(hi:X.N[i]? = some x:=by rfl)(hx:Loc X.env.scope x:=by first|exact Or.inl rfl|exact Or.inr rfl)(hs:swapsWith e (some<|.Name x pos') pos.line X.env=pure false:=by rfl)(hf:X.fn x=true\/X.env.scope.names.lookup x=some .local:=by first|exact Or.inl rfl|exact Or.inr rfl):
 Ld X kd (.Assign [.Name x pos'] e pos) (zr z i fa):=IY hN hi hx he hs hf
def an(i:Nat)(hN:X.N.Nodup)(hi:X.N[i]? = some x:=by rfl)(hx:Loc X.env.scope x:=by first|exact Or.inl rfl|exact Or.inr rfl)(hf:X.fn x=true\/X.env.scope.names.lookup x=some .local:=by first|exact Or.inl rfl|exact Or.inr rfl):AG X kd (.Name x pos) [i] (gN i):=SB hN hi hx hf
def av(i:Nat)(hN:X.N[i]? = some x:=by rfl)(hv:kj X.env.scope x:=by first|exact Or.inl rfl|exact Or.inr (Or.inl rfl)|exact Or.inr (Or.inr rfl))(hd:(x==("__debug__":Str))=false:=by decide)
 (hcd:(x==("__classdict__":Str))=false:=by decide):AE X kd (.Name x pos) (fV i):=sk<|Ov hN hv hd hcd
end
def EK{α:Type}:List Str->List α->Str->Option α
 | [],_,_=>none
 |_,[],_=>none
 |n::ns,a::as,f=>if f=n then some a else EK ns as f
theorem Yb(f):∀(ns:List Str) (vs:List V),(ns.zip vs).lookup f=EK ns vs f
 | [],_=>rfl
 |_::_,[]=>rfl
 |n::a,v::b=>by
  show List.lookup f (_::a.zip b)=if f=n then some v else EK a b f
  rw[List.lookup_cons]
  by_cases h:f=n
  . rw[if_pos h,beq_iff_eq.mpr h]
  . rw[if_neg h,beq_eq_false_iff_ne.mpr h];exact Yb f a b
theorem II{K O}:∀{ns:List Str}{vs:List V}{ds:List D},RpL K kd O H vs ds->EK ns ds f=some d->∃v,EK ns vs f=some v/\Rp K kd O H v d
 | [],_,_,_,e=>by cases e
 |_::_,_,_,.nil,e=>by cases e
 |n::a,_,_,.cons (v:=v) (d:=b) (vs:=c) (ds:=g) h r,e=>by
  have e:(if f=n then some b else EK a g f)=some d:=e;show ∃w,(if f=n then some v else EK a c f)=some w/\_
  by_cases q:f=n
  . rw[if_pos q]at e ⊢;cases e;exact⟨v,rfl,h⟩
  . rw[if_neg q]at e ⊢;exact II r e
theorem QW:∀{ns:List Str}{vs:List α},f ∉ ns->EK ns vs f=none
 | [],_,_=>rfl
 |_::_,[],_=>rfl
 |n::a,v::b,h=>by
  show(if f=n then some v else EK a b f)=_;rw[if_neg λe=>h<|by rw[e];exact zzF];exact QW λm=>h<|zzD _ m
theorem PB:∀{ns:List Str}{vs:List V},ns.length=vs.length->f ∉ ns->WM f v (ns.zip vs)=(ns++[f]).zip (vs++[v])
 | [],[],_,_=>rfl
 | [],_::_,h,_=>by cases h
 |_::_,[],h,_=>by cases h
 |n::a,w::b,h,c=>by
  show(if n=f then _::a.zip b else _::WM f v (a.zip b))=_::(a++_).zip (b++_);rw[if_neg λe=>c (by rw[e];exact zzF),PB (Nat.succ.inj h) λm=>c<|zzD _ m]
def zP(cs:List Str)(f:Str):D->Option R0
 | .ob c ns ds=>if c ∈ cs then(EK ns ds f).bind λd=>some (.im d)else none
 |_=>none
def CF(K:zzA)(kd:KD)(cs:List Str)(f:Str):Prop:=∀c ∈ cs,Cls K (kd.c c)/\yG K (kd.c c) f
section
variable{X:Cx}{kd:KD}{a e o:Expr}{es:List Expr}{fa fo fe:EF}{fr:AF}{pos pos' apos:Pos}{m f:Str}{cs:List Str}
def rC(hc:CF X.K kd cs f)(ha:AE X kd a fa)(hb:attributeBase a f X.env (eval a X.env)=eval a X.env):AE X kd (.Attribute a f pos) (f1 fa<|zP cs f):=by
 with_unfolding_all exact(yb (NZ ha hb) λσ H Q h=>by
  obtain⟨F,B,P,as,r,m,R,e,q⟩:=h;obtain⟨_,o,e⟩:=bS_<|e;obtain⟨⟨x,S⟩,s,e⟩:=bS_ e;obtain⟨z,b,e⟩:=bS_ e;obtain⟨y,t,e⟩:=bS_ e;cases e;refine xS R o λv c u k g A=>?_;have C:=xq.vw k g s;have D:=Zm k t λw E G I i J=>q w E c G I i<|A.trans J;cases C with
  |ob L T M=>
   obtain⟨l,b⟩:=ite_some' b;obtain⟨d,N,b⟩:=bS_ b;cases b;obtain⟨w,O,j⟩:=II M N;exact⟨_,_,_,_,w,rfl,L,(hc _ l).1,(hc _ l).2,(Yb _ _ _).trans O,D w u (λ_ _ z=>z) j⟩
  |_=>cases b)
def IA(X:Cx)(m:Str)(ta:TE)(t:TA):TE:=λσ H Q=>ta σ H λx H1=>∃a C dx fs k f fd ps sp,x = .ref a/\H1 a=some (.ins C dx fs)/\Cls X.K C/\Meth X.K C m f/\fs.lookup m=none/\
 FnOk X.prog X.w X.K X.mg X.base Ys k f fd ps sp/\Room k X.A/\Binds X.K fd ps []/\t σ H1 λvs H2=>sp (x::vs) H2 Q λ_ _ _=>False
def Fm(he:PE X o ta)(hx:vF Ys X λ_ _ _=>False)(ha:PA X (e::es) t)
 (hst:starEach (e::es) X.env=(false,eval e X.env)::starEach es X.env) (hpl:(backTo pos<|starEach es X.env).any (·.1)=false)
 (ht:eval (.Call (.Attribute o m apos) (e::es) [] pos) X.env=(do
  let ov <-eval o X.env
  standAt apos.atName
  let(f,first) <-holding [ov] (getMethod ov m pl)
  callWith pos f first (backTo pos<|starEach (e::es) X.env) (backToKw pos<|keywordEach [] X.env))):
 PE X (.Call (.Attribute o m apos) (e::es) [] pos) (IA X m ta t):=by
 intro b s σ H Q I h;refine W.methodCall_KW (xU (he b s σ H _ I h) λu j hq0=>?_) ht;obtain⟨x,n,d,p,a,C,E,G,k,f,fd,J,K,v,w,c,g,l,F,y,z,q⟩:=hq0;subst v;obtain rfl:u=Value.ref a:=p;refine TC d w c g l ?_;refine W.callWith_K I.ok.mod.kin g.kp (xU (ha pos b j σ n _ d q) λA L ⟨B,M,i,r,D⟩=>⟨i.kIn, ?_⟩) hst hpl;refine Fv (vs:=.ref a::B) F y z .nil hx i (.cons rfl r) ?_
 rwa [zyD]
def JG(he:PE X o ta)(hx:vF Ys X λ_ _ _=>False)
 (ht:eval (.Call (.Attribute o m apos) [] [] pos) X.env=(do
  let ov <-eval o X.env
  standAt apos.atName
  let(f,first) <-holding [ov] (getMethod ov m pl)
  callWith pos f first (backTo pos<|starEach [] X.env) (backToKw pos<|keywordEach [] X.env))):
 PE X (.Call (.Attribute o m apos) [] [] pos) (IA X m ta tL):=by
 intro b s σ H Q I h;refine W.methodCall_KW (xU (he b s σ H _ I h) λu r hq0=>?_) ht;obtain⟨x,t,d,g,a,C,v,w,k,f,fd,y,z,i,j,c,e,l,F,n,p,q⟩:=hq0;subst i;obtain rfl:u=Value.ref a:=g;refine TC d j c e l ?_;exact W.callWith_K0 d.kIn e.kp<|Fv (vs:=[.ref a]) F n p .nil hx d (.cons rfl .nil) q
end
def Fw:List (Str×Fn)->Str->Option Fn
 | [],_=>none
 |p::r,c=>if c=p.1 then some p.2 else Fw r c
def MT(P:Program)(w:World)(K:zzA)(mg:Str->Option Value)(base:Heap)(kd:KD)(m:Str)(k:Nat)(tbl:List (Str×Fn)):Prop:=
 ∀c g,Fw tbl c=some g->∃k' f fd ps,k'<=k/\Cls K (kd.c c)/\Meth K (kd.c c) m f/\FnOk P w K mg base Ys k' f fd ps (XX K kd g)/\Binds K fd ps []
section
variable{P:Program}{w:World}{K:zzA}{mg:Str->Option Value}{base:Heap}{kd:KD}{m:Str}{k:Nat}{tbl:List (Str×Fn)}
def xT:MT P w K mg base kd m k []:=λc g h=>by cases h
def A9(hk:k'<=k)(cl:Cls K (kd.c c))(me:Meth K (kd.c c) m f)(F:FnOk P w K mg base Ys k' f fd ps (XX K kd g))(b:Binds K fd ps [])(h:MT P w K mg base kd m k tbl):MT P w K mg base kd m k ((c,g)::tbl):=λc' g' e=>by
 have e:(if c'=c then some g else Fw tbl c')=some g':=e
 by_cases q:c'=c
 . rw[if_pos q]at e;cases e;subst q;exact⟨k',f,fd,ps,hk,cl,me,F,b⟩
 . rw[if_neg q]at e;exact h c' g' e
end
def iJ(m:Str):D->Option Str
 | .ob c ns _=>if m ∈ ns then none else some c
 |_=>none
def y_(tbl:List (Str×Fn))(m:Str)(fo:EF)(fr:AF):EF:=λas=>(fo as).bind λp=>(p.1.frz.view p.2).bind λw=>(iJ m w.1).bind λc=>(Fw tbl c).bind λg=>(fr p.2).bind λq=>(ZE q.2 (p.1.frz::q.1)).bind λx=>(g x).bind λo=>some (.ow o,q.2)
section
variable{X:Cx}{kd:KD}{a e o:Expr}{es:List Expr}{fa fo fe:EF}{fr:AF}{pos pos' apos:Pos}{m f:Str}{cs:List Str}{tbl:List (Str×Fn)}{k:Nat}
def uH(hT:MT X.prog X.w X.K X.mg X.base kd m k tbl)(hr:Room k X.A)(ht:∀σ H Q,AB X.K kd fr σ H Q->t σ H Q)(h:al X.K kd (y_ tbl m fo fr) σ H Q):IA X m (al X.K kd fo) t σ H Q:=by
 obtain⟨F,B,ad,as,r,E,R,e,q⟩:=h;obtain⟨⟨p,i⟩,G,e⟩:=bS_<|e;obtain⟨⟨w,lv⟩,I,e⟩:=bS_ e;obtain⟨c,a,e⟩:=bS_ e;obtain⟨g,J,e⟩:=bS_ e;obtain⟨⟨L,j⟩,M,e⟩:=bS_ e;obtain⟨N,O,e⟩:=bS_ e;obtain⟨o,P,e⟩:=bS_ e;cases e;refine xS R G λv l H1 z d S=>?_;have T:=xq.vw z d I;cases T with
 | @ob a' dx U C V W Y hl rl=>
  have a:(if m ∈ C then none else some U)=some c:=a
  by_cases n:m ∈ C
  . rw[if_pos n]at a;cases a
  . rw[if_neg n]at a;cases a;obtain⟨Z,f,fd,ps,s,cl,me,F1,b⟩:=hT _ _ J;refine⟨_,_,_,_,Z,f,fd,ps,_,rfl,Y,cl,me,(Yb _ _ _).trans<|QW n,F1,hr.mono s,b,ht _ _ _ ⟨F,B,l,i,L,j,z,M,λvs u H2 R2 x D=>?_⟩⟩;exact⟨_,N,o,R2.trk true,RX R2 (.cons (d.grow D) x) O,P,FO R2 λw T' H' R' y g'=>q w T' u H' R' y<|(S.trans D).trans g'⟩
 |_=>cases a
def qr(hT:MT X.prog X.w X.K X.mg X.base kd m k tbl)(hr:Room k X.A)(hx:vF Ys X λ_ _ _=>False)(ho:AE X kd o fo)(ha:AA X kd (e::es) fr)
 (hst:starEach (e::es) X.env=(false,eval e X.env)::starEach es X.env) (hpl:(backTo pos<|starEach es X.env).any (·.1)=false)
 (ht:eval (.Call (.Attribute o m apos) (e::es) [] pos) X.env=(do
  let ov <-eval o X.env
  standAt apos.atName
  let(f,first) <-holding [ov] (getMethod ov m pl)
  callWith pos f first (backTo pos<|starEach (e::es) X.env) (backToKw pos<|keywordEach [] X.env))):
 AE X kd (.Call (.Attribute o m apos) (e::es) [] pos) (y_ tbl m fo fr):=by
 with_unfolding_all exact(yb (Fm ho hx ha hst hpl ht) λσ H Q h=>uH hT hr (λ_ _ _ z=>z) h)
def AH(hT:MT X.prog X.w X.K X.mg X.base kd m k tbl)(hr:Room k X.A)(hx:vF Ys X λ_ _ _=>False)(ho:AE X kd o fo)
 (ht:eval (.Call (.Attribute o m apos) [] [] pos) X.env=(do
  let ov <-eval o X.env
  standAt apos.atName
  let(f,first) <-holding [ov] (getMethod ov m pl)
  callWith pos f first (backTo pos<|starEach [] X.env) (backToKw pos<|keywordEach [] X.env))):
 AE X kd (.Call (.Attribute o m apos) [] [] pos) (y_ tbl m fo aN):=by
 with_unfolding_all exact(yb (JG ho hx ht) λσ H Q h=>uH hT hr (λσ H Q z=>by
  obtain⟨F,B,a,as,c,b,R,e,q⟩:=z;cases e;exact q [] a H R .nil Grow.refl) h)
end
abbrev HD:=AS->Option AS
def bf(K:zzA)(kd:KD)(f:HD):TS:=λD σ H=>∃F B ad as as',Rel K kd F B [] ad as σ H/\f as=some as'/\∀ad' H',Rel K kd F B [] ad' as' σ H'->Grow (Gw [] ad) H (Gw [] ad') H'->D.nx σ H'
@[irreducible] def mr(X:Cx)(kd:KD)(st:List Stmt)(f:HD):Prop:=Nv X st<|bf X.K kd f
@[irreducible] def pe(X:Cx)(kd:KD)(st:Stmt)(f:HD):Prop:=PS X st<|bf X.K kd f
def XT(i:Nat)(cs:List Str)(f:Str)(fe:EF):HD:=λas=>(fe as).bind λp=>(Y8 p.2 p.1).bind λx=>match x.2[i]? with
 |some (some (.nd (.ob c ns) os))=>if c ∈ cs/\f ∉ ns/\ns.length<1000 then some (x.2.set i<|some<|.nd (.ob c<|ns++[f])<|os++[.lf x.1.1 x.1.2])else none
 |_=>none
def DT(fe:EF):HD:=λas=>(fe as).bind λp=>some p.2
def Zo(f g:HD):HD:=λas=>(f as).bind g
section
variable{X:Cx}{kd:KD}{e o:Expr}{st:Stmt}{rest:List Stmt}{fe:EF}{f g:HD}{pos pos':Pos}{cs:List Str}{n:Str}
def JV(he:AE X kd e fe)(hs:swapsWith e none pos.line X.env=pure false):pe X kd (.Expr e pos) (DT fe):=by
 with_unfolding_all exact(xm (Qv he hs) λD σ H h=>by
  obtain⟨F,B,c,as,o,R,e,q⟩:=h;obtain⟨⟨p,a⟩,d,e⟩:=bS_<|e;cases e;exact⟨F,B,c,as,p,a,R,d,λv j b f i k g=>q b f i.drop<|g.trans<|Grow.less Gw.drop⟩)
def xX(hc:CF X.K kd cs n)(ho:PE X o (Y1 j))(he:AE X kd e fe)(hs:swapsWith e (some<|.Attribute o n pos') pos.line X.env=pure false):pe X kd (.Assign [.Attribute o n pos'] e pos) (XT j cs n fe):=by
 with_unfolding_all exact(xm (CW ho he hs) λD σ H h=>by
  obtain⟨F,B,P,as,o,R,e,q⟩:=h;obtain⟨⟨p,t⟩,Q,e⟩:=bS_<|e;obtain⟨⟨⟨A,d⟩,w⟩,S,e⟩:=bS_ e;cases f:w[j]? with
  |none=>rw[f]at e;cases e
  |some T=>
   rw[f]at e
   match T,e,f with
   |some (.nd (.ob c E) G),e,f=>
    obtain⟨⟨I,U,V⟩,e⟩:=zq e;cases e;refine⟨F,B,P,as,p,t,R,Q,λv T1 W J Y x Z=>?_⟩;obtain⟨b,R2,rp,le⟩:=ZV Y x S;obtain⟨v0,g,i⟩:=R2.sl j _ f;refine⟨v0,g, ?_⟩;generalize k:b j=fp1 at i;cases i with
    |ob hC L s rl=>
     rename_i l M C O fp;have ec:=hC.cl_eq;subst ec;have r:=R2.nd j;rw[k]at r;have y : wb X.K kd F B (Gw [] b) J (O++[v]) (G++[.lf A d]) fp:=by
            have:=rl.append<|RoL.one<|Ro.lf rp
            rwa [zyD]at this
     refine⟨l,_,M,_,rfl,L,(hc _ I).1,(hc _ I).2,by rw[List.length_zip,s,Nat.min_self,<-s];exact V, ?_⟩;rw[PB s U];obtain⟨R4,g4⟩:=R2.mut (n:=.nd (.ob c<|E++[n]) _) (zzG.mp f).1 k g (fp':=fp) (λa m=>m) (by rw[zyD];exact(zzV.mp r).2) (by rw[L];simp) λH' G' z gr kp=>.ob (.cl c) z (by rw[zzJ,zzJ,s];rfl)<|wb.grow gr kp y;exact q _ _ R4<|(Z.trans<|Grow.less le).trans g4)
def A4(h:pe X kd st f):mr X kd [st] f:=by
 with_unfolding_all exact(QM h)
def OZ(h1:pe X kd st f)(h2:mr X kd rest g):mr X kd (st::rest) (Zo f g):=by
 with_unfolding_all exact(ZQ (Yp h1 h2) λD σ H h=>by
  obtain⟨F,B,d,as,o,R,e,q⟩:=h;obtain⟨c,i,e⟩:=bS_<|e;exact⟨F,B,d,as,c,R,i,λa n j k=>⟨F,B,a,c,o,j,e,λb l R2 m=>q b l R2<|k.trans m⟩⟩)
end
def n4(c:Str):O:=.nd (.ob c []) []
def O7(x:Bool×D):O:=.lf x.1 x.2
def slot0:AS->Option O
 |some o::_=>if o.str=true then some o else none
 |_=>none
def rV(c:Str)(n m:Nat)(f:HD)(ds:List (Bool×D)):Option O:=if ds.length+1=m then(f<|ZD n (n4 c::ds.map O7)).bind slot0 else none
def uV(K:zzA)(kd:KD)(c:Str)(g:Fn):Sp:=λvs H Q _=>∃F x dx vs' ds o,vs = .ref x::vs'/\H x=some (.ins (kd.c c) dx [])/\(∀a,F a->H a≠none)/\¬F x/\RpI K kd F (λ_=>False) (· = x) H vs' ds/\g ds=some o/\
 ∀T H',T.Nodup->(∀a ∈ T,a=x\/H a=none)->(∀b u,H b=some u->b≠x->H' b=some u)->(∀a ∈ T,H' a≠none)->Ro (λ_ v d=>Rp K kd (Wj F (· ∈ T)) H' v d) (λa=>¬Wj F (· ∈ T) a) H' (.ref x) o T->Q .non H'
def Jc{K}(h:RpI K kd F B G H vs ds):wb K kd F B G H vs (ds.map O7) []:=by
 induction h with
 |nil=>exact .nil
 |cons a _ b=>exact RoL.cons (Ro.lf a) b
def SC(ds:List (Bool×D)):(ds.map O7).all O.isLf=true:=by
 induction ds with
 |nil=>rfl
 |cons x r a=>exact a
section
variable{P:Program}{w:World}{K:zzA}{mg:Str->Option Value}{base:Heap}
def FB{st}{k:Nat}(Fn:Fun K x qual st f fd)(S:FnScope N ps (zR st))(hps:ps.length<=N.length)
 (hb:∀(cdv:Value) (A:Around) (outer:List Env) (s:Shared) (H:Hp) (E:XK),Room k (A.deeper<|envOfC qual (zR st) s.heap.objs.size f cdv)->mr (RA Ys P w K mg base N qual (zR st) f cdv A outer s H E).nox kd (v7 st) b):
 FnOk P w K mg base Ys (k+1) f fd ps (uV K kd c<|rV c N.length ps.length b):=by
 with_unfolding_all (
 refine Fn.ok S (λvs H Q E h=>?_) λcdv A outer s H vs Q E hr h=>⟨_,hb cdv A outer s H E hr, ?_⟩
 . obtain⟨F,x,dx,vs',ds,o,rfl,_,_,_,rp,e,_⟩:=h;obtain⟨hl,_⟩:=ite_some'<|e;rw[zzT,rp.length,hl]
 . obtain⟨F,x,dx,vs',ds,o,rfl,hx,ht,hF,rp,e,q⟩:=h;obtain⟨hl,e⟩:=ite_some'<|e;obtain⟨as',e1,e2⟩:=bS_ e;have ro:wb K kd F (λ_=>False) (· ∈ [x]) H (V.ref x::vs') (n4 c::ds.map O7) [x]:=by
    have e0:(λa=>a ∈ [x])=(λa=>a=x):=⋯;rw[e0];exact RoL.cons (Ro.ob (.cl c) hx rfl .nil)<|Jc rp
   have R0:=Ga (N:=N) ht ⋯ (λa m=>by rw[zzR.mp m,hx];exact⟨⋯,hF⟩) (SC ds) (by rw[zzT,zzB];exact q1h hl hps) ro;have gw:∀a,Gw [] (λi=>if i=0 then[x]else[]) a->a=x:=λa z=>z.elim ⋯ λ⟨i,y⟩=>by
    by_cases e:i=0
    . subst e;simpa using y
    . simp[e]at y
   refine⟨F,λ_=>False,_,_,as',R0,e1,λad' H' R' g'=>?_⟩
   match as',e2,R' with
   |some o'::r,e2,R'=>
    obtain⟨hs,e2⟩:=zq<|e2;subst e2;obtain⟨v,hv,ro'⟩:=R'.sl 0 _ rfl;have hv0:(L2.start N (V.ref x::vs'))[0]? = some _:=rfl;cases hv;have rt:=LM R' (R'.nd 0) (λa m=>.inr ⟨0,m⟩) ro' hs;exact q _ H' rt.nd (λa m=>(g'.own a<|.inr ⟨0,m⟩).imp (gw a) id) (λb u h hb=>g'.keep b u h λz=>hb<|gw b z) rt.tr rt.ro)
end
section
variable{X:Cx}{kd:KD}{e:Expr}{es:List Expr}{fr:AF}{pos p:Pos}{g:Fn}
def sx(h:al X.K kd (ze fr g) σ H Q):uc (kd.c c) (uV X.K kd c g) [] E (AB X.K kd fr) σ H Q:=by
 obtain⟨F,B,G,as,r,I,R,e,q⟩:=h;obtain⟨⟨p,J⟩,L,e⟩:=bS_<|e;obtain⟨M,A,e⟩:=bS_ e;obtain⟨o,C,e⟩:=bS_ e;cases e;refine⟨F,B,G,as,p,_,R,L,λN d f n i O x j l s P=>?_⟩;rw[zyD];have k:∀b u,f b=some u->upd (upd f j<|.own x) x (.ins (kd.c c) j []) b=some u:=λb u h=>by rwa [zF<|zY h l,zF<|zY h s]
 have D:∀b,upd _ x _ b=none->f b=none:=λb h=>by
  cases e:f b with
  |none=>rfl
  |some u=>rw[k b u e]at h;cases h
 refine⟨Lv F B _ true,x,j,N,M,o,rfl,z8,λa z y=>n.trk true a z<|D a y,λz=>n.trk true x z l, ?_,C,λT t S U V Y Z=>⟨rfl, ?_⟩⟩
 . have ra:=RX n i A;clear e C A i
   induction ra with
   |nil=>exact .nil
   |cons h _ ih=>
    refine .cons ?_ ih;exact Rp.grow (W:=λ_=>False) (W':=_) ⟨λb u h _=>k b u h,λb e=>.inr<|by rwa [e]⟩<|h.less λa z=>z.elim ⋯ λy=>y.elim
 . exact FO n (λw T' t R' v g'=>q w T' d t R' v<|O.trans g') _ T t S (λa m=>(U a m).elim (λe=>by rwa [e])<|D a) (λb u h=>V b u (k b u h)<|zY h l) Y Z
def J9(hC:kd.c c=C)(M:Mk X.K C f)(F:FnOk X.prog X.w X.K X.mg X.base Ys k f fdt ps (uV X.K kd c g))(hr:Room (k+1) X.A)(hg:Gl X x)(hm:X.mg x=some (.ref C))(hb:Binds X.K fdt ps [])(hx:vF Ys X λ_ _ _=>False)
 (ha:AA X kd (e::es) fr) (hdb:(x==("__debug__":Str))=false) (he:starEach (e::es) X.env=(false,eval e X.env)::starEach es X.env) (hpl:(backTo pos<|starEach es X.env).any (·.1)=false):
 AE X kd (.Call (.Name x p) (e::es) [] pos) (ze fr g):=by
 subst hC
 with_unfolding_all exact(yb (JM M F hr hg hm hb .nil hx ha hdb he hpl) λσ H Q h=>sx h)
end
def Gu(mg:Str->Option Value):Str->Addr:=λx=>match mg x with
 |some (.ref a)=>a
 |_=>0
def NX(h:mg x=some (.ref a)):Gu mg x=a:=by
 unfold Gu;rw[h]
structure CI(K:zzA)(kd:KD)(mg:Str->Option Value)(c:Str)(C:Addr):Prop where
 eq:kd.c c=C
 cl:Cls K C
 mks:W.makesIn K C=true
 kp:W.keepIn K (.ref C)=true
 mg:mg c=some (.ref C)
section
variable{P:Program}{w:World}{K:zzA}{mg:Str->Option Value}{base:Heap}{kd:KD}{m f:Str}{k:Nat}{tbl:List (Str×Fn)}{cs:List Str}{c:Str}{C:Addr}
def u_{k':Nat}{f}(ci:CI K kd mg c C)(me:Meth K C m f)(F:FnOk P w K mg base Ys k' f fd ps (XX K kd g))(hk:k'<=k)(b:Binds K fd ps [])(h:MT P w K mg base kd m k tbl):MT P w K mg base kd m k ((c,g)::tbl):=by
 have e:=ci.eq;subst e;exact A9 hk ci.cl me F b h
def vD:CF K kd [] f:=λc h=>nomatch h
def wU(ci:CI K kd mg c C)(n:yG K C f)(h:CF K kd cs f):CF K kd (c::cs) f:=λb a=>by
 have e:=ci.eq;subst e
 rcases zzC.mp a with rfl|a
 . exact⟨ci.cl,n⟩
 . exact h b a
def CI.mk'{f}(ci:CI K kd mg c C)(me:Meth K C "__init__" f):Mk K C f:=⟨ci.mks,me.at_,me.fn,ci.kp⟩
end
def Qk{prog w A E s it l}{i:Nat}{items x Q}(hit:s.heap.IsTupleIter it l i)(hl:s.heap.IsTuple l items)(hx:items[i]? = some x)
 (h:∀h':Heap,h'.IsTupleIter it l (i+1)->Heap.SameBut it s.heap h'->Q x {s with heap:=h'}):wpAny (model prog w) A (Builtin.SmallTypes.nextOf<|.ref it) Q E s:=by
 obtain⟨o,ho,hc,hd⟩:=id hit;obtain⟨ol,hol,hcl,nl,hdl⟩:=hl;refine zxE<|wpAny_callSpecial?_slot hit.typeIs F.slot_tuple_iterator_next<|zxM F.slot_tuple_iterator_next hit.typeIs F.entry_tuple_iterator_next ?_;unfold Builtin.«tuple_iterator.__next__»
 wp_walk using wpAny_field ho hd rfl,wpAny_seqItems hol hdl
 rw[hdl]
 wp_walk
 rw[zyH,hx];refine zxE<|wpAny_setField ho hd (by simp) ?_;refine zxF ⟨x,rfl,zxF<|h _ ⟨_,Heap.get?_update_self _ ho<|Obj.isFreed_of_fields<|Obj.data_mapFields hd _,(Obj.cls_mapFields o _).trans hc,(Obj.data_mapFields hd _).trans<|by simp[rawInt]⟩<|Heap.SameBut.update _ _ _⟩
def Uu{prog w A E s it l}{i:Nat}{items Q}(hh:A.handled=none)(hit:s.heap.IsTupleIter it l i)(hl:s.heap.IsTuple l items)(hx:items[i]? = none)
 (h:∀(h':Heap) (e:Addr),Heap.ExtBut it s.heap h'->(∃o,h'.get? e=some o/\o.cls = .type "StopIteration")->E (.ref e) {s with heap:=h'}):wpAny (model prog w) A (Builtin.SmallTypes.nextOf<|.ref it) Q E s:=by
 obtain⟨o,ho,hc,hd⟩:=id hit;obtain⟨ol,hol,hcl,nl,hdl⟩:=hl;refine zxE<|wpAny_callSpecial?_slot hit.typeIs F.slot_tuple_iterator_next<|zxM F.slot_tuple_iterator_next hit.typeIs F.entry_tuple_iterator_next ?_;unfold Builtin.«tuple_iterator.__next__»
 wp_walk using wpAny_field ho hd rfl,wpAny_seqItems hol hdl
 rw[hdl]
 wp_walk
 rw[zyH,hx];refine zxE (wpAny_rule<|zxE<|wpAny_setField ho hd (by simp) ?_)
 wp_walk
 refine wpAny_raiseNew_none hh<|h _ _ (((Heap.SameBut.update _ _ _).extBut.push _).push _) ⟨_,zxI _ rfl,rfl⟩
def XM(b:Bool)(h:Heap)(it l:Addr)(k:Nat):Prop:=if b=true then h.IsTupleIter it l k else h.IsListIter it l k
def RY(b:Bool)(h:Heap)(l:Addr)(xs:Array Value):Prop:=if b=true then h.IsTuple l xs else h.IsList l xs
def vI{prog w A E s it l}{i:Nat}{items x Q}:∀{b:Bool},XM b s.heap it l i->RY b s.heap l items->items[i]? = some x->
 (∀h':Heap,XM b h' it l (i+1)->Heap.SameBut it s.heap h'->Q x {s with heap:=h'})->wpAny (model prog w) A (Builtin.SmallTypes.nextOf<|.ref it) Q E s
 |true,h1,h2,h3,h4=>Qk h1 h2 h3 h4
 |false,h1,h2,h3,h4=>wpAny_nextOf_list_item h1 h2 h3 h4
def Xe{prog w A E s it l}{i:Nat}{items Q}(hh:A.handled=none):∀{b:Bool},XM b s.heap it l i->RY b s.heap l items->items[i]? = none->
 (∀(h':Heap) (e:Addr),Heap.ExtBut it s.heap h'->(∃o,h'.get? e=some o/\o.cls = .type "StopIteration")->E (.ref e) {s with heap:=h'})->wpAny (model prog w) A (Builtin.SmallTypes.nextOf<|.ref it) Q E s
 |true,h1,h2,h3,h4=>Uu hh h1 h2 h3 h4
 |false,h1,h2,h3,h4=>wpAny_nextOf_list_end hh h1 h2 h3 h4
def XM.ext{a h h' it l}{k:Nat}:∀{b:Bool},XM b h it l k->Heap.ExtBut a h h'->it≠a->XM b h' it l k
 |true,x,e,n=>Heap.IsTupleIter.extBut x e n
 |false,x,e,n=>Heap.IsListIter.extBut x e n
def RY.ext{a h h' l xs}:∀{b:Bool},RY b h l xs->Heap.ExtBut a h h'->l≠a->RY b h' l xs
 |true,x,e,n=>Heap.IsTuple.extBut x e n
 |false,x,e,n=>Heap.IsList.extBut x e n
def XM.at{h h' it l}{k:Nat}(k':∀o,h.get? it=some o->h'.get? it=some o):∀{b:Bool},XM b h it l k->XM b h' it l k
 |true,⟨o,e,c⟩=>⟨o,k' o e,c⟩
 |false,⟨o,e,c⟩=>⟨o,k' o e,c⟩
theorem XM.push{h it l}{k:Nat}{o b}(x:XM b h it l k):XM b (h.push o) it l k:=x.at λ_ e=>zxG _ e
def GR{M A E s a Q}(h:Q (s.heap.get? a) s):wpAny M A (loadIfAlive a) Q E s:=λΓ p hΓ=>⋯
def N1(h:Heap)(z TI TO:Addr)(f0:Value)(f1:Bool):Prop:=h.get? z=some {cls:=.type "zip",data:=.fields #[f0,.bool f1,.bool false,.ref TI,.ref TO]}
def Zf(f0:Value):Prop:=f0 = .none\/∃n:Int,f0=rawInt n
def Sw{prog w A E s z TI TO f0 f1 Q}(hz:N1 s.heap z TI TO f0 f1)(hf:Zf f0)(h1:Q true s)(h2:∀h' f1',N1 h' z TI TO f0 f1'->Heap.SameBut z s.heap h'->Q false {s with heap:=h'}):
 wpAny (model prog w) A (Builtin.SmallTypes.ownedTupleIsFree<|.ref z) Q E s:=by
 rcases hf with rfl|⟨n,rfl⟩
 . exact zxE<|wpAny_field hz rfl rfl<|zxF h1
 . refine zxE<|wpAny_field hz rfl rfl ?_;refine zxE<|GR ?_;cases e:s.heap.get? n.toNat with
   |none=>exact zxF h1
   |some o=>
    refine zxE<|wpAny_field hz rfl rfl ?_;cases f1 with
    |true=>exact zxF (h2 s.heap true hz<|Heap.SameBut.refl _ _)
    |false=>exact zxE (wpAny_setField_rec hz ⋯ λh' hz' hs=>zxF<|h2 h' true hz' hs)
def CP{b1 b2 prog w A E s z TI TO i1 i2 l1 l2}{k1 k2:Nat}{xs ys}{x y a b f0:Value}{f1:Bool}{Q:Value->Shared->Prop}(D:ZipApart z TI TO i1 i2 l1 l2)
 (hz:N1 s.heap z TI TO f0 f1) (hf:Zf f0) (hTI:IsPair s.heap TI (.ref i1) (.ref i2)) (hTO:IsPair s.heap TO a b) (h1:XM b1 s.heap i1 l1 k1) (h2:XM b2 s.heap i2 l2 k2) (q1:RY b1 s.heap l1 xs) (q2:RY b2 s.heap l2 ys) (hx:xs[k1]? = some x) (hy:ys[k2]? = some y)
 (h:∀(h':Heap) (g0:Value) (g1:Bool),N1 h' z TI TO g0 g1->Zf g0->(∃p q,IsPair h' TO p q)->XM b1 h' i1 l1 (k1+1)->XM b2 h' i2 l2 (k2+1)->IsPair h' s.heap.objs.size x y->(∀c o,c≠z->c≠TO->c≠i1->c≠i2->s.heap.get? c=some o->h'.get? c=some o)->Q (.ref s.heap.objs.size) {s with heap:=h'}):
 wpAny (model prog w) A (Builtin.«zip.__next__» {pos:=[.ref z]}) (λfin s'=>∃v,fin=Fin.done (Flow.ret v)/\Q v s') E s:=by
 change wpAny (model prog w) A (bind (field (.ref z) 2) _) _ E s;refine zxE<|wpAny_field hz rfl rfl ?_;refine zxE<|wpAny_field hz rfl rfl<|zxE<|wpAny_seqItems hTI rfl ?_;refine zxE<|Sw hz hf ?_ λh₁ g1 z1 hs₁=>?_
 . rw[if_pos rfl];refine zxE<|wpAny_rule<|zxE<|wpAny_field hz rfl rfl ?_;refine zxE<|wpAny_setField_rec hz (by simp) λh₁ hz₁ hs₁=>?_;refine zxE ?_;rw[show(#[Value.ref i1,Value.ref i2].toList.zipIdx)=[(Value.ref i1,0),(Value.ref i2,1)]from rfl,List.forIn_cons];have x1:=h1.ext hs₁.extBut D.i1z;have y1:=q1.ext hs₁.extBut D.l1z;refine zxE<|zxE<|wpAny_onRaise ?_;refine zxE<|vI x1 y1 hx λh₂ x2 hs₂=>zxF ?_;have t2:IsPair h₂ TO a b:=hs₂.extBut TO _ D.TOi1<|hs₁.extBut TO _ D.TOz hTO;refine zxE<|wpAny_seqItems t2 rfl<|zxE<|wpAny_updateSeq_pair t2 λh₃ t3 hs₃=>?_;refine zxE<|wpAny_letGo<|zxF ?_;have x3:=((h2.ext hs₁.extBut D.i2z).ext hs₂.extBut D.i12.symm).ext hs₃.extBut D.TOi2.symm;have y3:=((q2.ext hs₁.extBut D.l2z).ext hs₂.extBut D.l2i1).ext hs₃.extBut D.l2TO;change wpAny (model prog w) A (forIn [(Value.ref i2,1)] _ _) _ E _;rw[List.forIn_cons];refine zxE<|zxE<|wpAny_onRaise ?_;refine zxE<|vI x3 y3 hy λh₄ x4 hs₄=>zxF ?_;have t4:IsPair h₄ TO x b:=hs₄.extBut TO _ D.TOi2 t3;refine zxE<|wpAny_seqItems t4 rfl<|zxE<|wpAny_updateSeq_pair t4 λh₅ t5 hs₅=>?_;refine zxE<|wpAny_letGo<|zxF ?_;change wpAny (model prog w) A (forIn [] _ _) _ E _;rw[List.forIn_nil];refine zxF ?_;have t5:IsPair h₅ TO x y:=t5;refine zxE<|wpAny_seqItems t5 rfl<|zxE<|wpAny_newTuple ?_;have e5:h₅.objs.size=s.heap.objs.size:=hs₅.1.trans<|hs₄.1.trans<|hs₃.1.trans<|hs₂.1.trans hs₁.1;have z1:N1 h₁ z TI TO .ellipsis f1:=hz₁;have z5:N1 h₅ z TI TO .ellipsis f1:=hs₅.extBut z _ D.TOz.symm<|hs₄.extBut z _ D.i2z.symm<|hs₃.extBut z _ D.TOz.symm<|hs₂.extBut z _ D.i1z.symm z1;refine zxE ?_;refine zxE<|wpAny_setField_rec (zxG _ z5) (by simp) λh₇ z7 hs₇=>?_;refine wpAny_setField_rec z7 (by simp) λh₆ z6 hs₆'=>zxF ⟨_,rfl, ?_⟩;have hs₆:=hs₇.trans hs₆';have lt:=λc o q n=>hs₆.extBut c o n<|zxG _ q;have nz:h₅.objs.size≠z:=λe=>by
    have:=zxH z5;rw[<-e]at this;exact Nat.lt_irrefl _ this
   rw[e5];refine h h₆ (rawInt (h₅.objs.size:Int)) false z6 (.inr ⟨_,rfl⟩) ⟨_,_,lt TO _ t5 D.TOz⟩ ?_ ?_ ?_ λc o c1 c2 c3 c4 q=>?_
   . have:=((x2.ext hs₃.extBut D.TOi1.symm).ext hs₄.extBut D.i12).ext hs₅.extBut D.TOi1.symm;exact(XM.push this).ext hs₆.extBut D.i1z
   . exact(XM.push<|x4.ext hs₅.extBut D.TOi2.symm).ext hs₆.extBut D.i2z
   . rw[<-e5];exact hs₆.extBut _ _ nz<|zxI _ rfl
   . exact lt c o (hs₅.extBut c o c2<|hs₄.extBut c o c4<|hs₃.extBut c o c2<|hs₂.extBut c o c3<|hs₁.extBut c o c1 q) c1
 . rw[if_neg<|by simp];change wpAny (model prog w) A (bind (forIn #[Value.ref i1,Value.ref i2] _ _) _) _ E _;rw[<-Array.forIn_toList,List.forIn_cons];have x1:=h1.ext hs₁.extBut D.i1z;have y1:=q1.ext hs₁.extBut D.l1z;refine zxE<|zxE<|zxE<|zxJ ?_;refine zxE<|vI x1 y1 hx λh₂ x2 hs₂=>zxF<|zxF ?_;change wpAny (model prog w) A (forIn [Value.ref i2] _ _) _ E _;rw[List.forIn_cons];have x3:=(h2.ext hs₁.extBut D.i2z).ext hs₂.extBut D.i12.symm;have y3:=(q2.ext hs₁.extBut D.l2z).ext hs₂.extBut D.l2i1;refine zxE<|zxE<|zxJ ?_;refine zxE<|vI x3 y3 hy λh₄ x4 hs₄=>zxF<|zxF ?_;change wpAny (model prog w) A (forIn [] _ _) _ E _;rw[List.forIn_nil];refine zxF<|zxE<|wpAny_newTuple ?_ (show 2<=sizeLine by decide);refine zxF ⟨_,rfl, ?_⟩;have e4:h₄.objs.size=s.heap.objs.size:=hs₄.1.trans<|hs₂.1.trans hs₁.1;have z4:N1 h₄ z TI TO f0 g1:=hs₄.extBut z _ D.i2z.symm<|hs₂.extBut z _ D.i1z.symm z1;have t4:IsPair h₄ TO a b:=hs₄.extBut TO _ D.TOi2<|hs₂.extBut TO _ D.TOi1<|hs₁.extBut TO _ D.TOz hTO;rw[e4];refine h _ f0 g1 (zxG _ z4) hf ⟨_,_,zxG _ t4⟩ (XM.push<|x2.ext hs₄.extBut D.i12) (XM.push x4) ?_ λc o c1 c2 c3 c4 q=>zxG _<|hs₄.extBut c o c4<|hs₂.extBut c o c3<|hs₁.extBut c o c1 q;rw[<-e4];exact zxI _ rfl
def AQ{b1 b2 prog w A E s z TI TO i1 i2 l1 l2}{k1 k2:Nat}{xs ys a b f0 f1 Q}(hh:A.handled=none)(D:ZipApart z TI TO i1 i2 l1 l2)
 (hz:N1 s.heap z TI TO f0 f1) (hf:Zf f0) (hTI:IsPair s.heap TI (.ref i1) (.ref i2)) (hTO:IsPair s.heap TO a b) (h1:XM b1 s.heap i1 l1 k1) (h2:XM b2 s.heap i2 l2 k2) (q1:RY b1 s.heap l1 xs) (q2:RY b2 s.heap l2 ys) (hx:xs[k1]? = none\/ys[k2]? = none)
 (h:∀(h':Heap) (e:Addr),(∀c o,c≠z->c≠TO->c≠i1->c≠i2->s.heap.get? c=some o->h'.get? c=some o)->(∃o,h'.get? e=some o/\o.cls = .type "StopIteration")->E (.ref e) {s with heap:=h'}):
 wpAny (model prog w) A (Builtin.«zip.__next__» {pos:=[.ref z]}) Q E s:=by
 have fin:∀(h':Heap) (e:Addr),(∃f g,N1 h' z TI TO f g)->(∀c o,c≠z->c≠TO->c≠i1->c≠i2->s.heap.get? c=some o->h'.get? c=some o)->(∃o,h'.get? e=some o/\o.cls = .type "StopIteration")->
  wpAny (model prog w) A (setField (.ref z) 0 Value.none) (λ_ s''=>E (.ref e) s'') E {s with heap:=h'}:=λh' e ⟨f,g,hf⟩ kk ⟨o,ho,hc⟩=>by
  refine wpAny_setField_rec (s:={s with heap:=h'}) hf (by simp) λh'' z'' hs=>?_;have ne:e≠z:=λe'=>by
   subst e';have:=(hf).symm.trans ho;cases this;exact absurd (show Value.type "zip"=Value.type "StopIteration" from hc) (by decide)
  exact h h'' e (λc o c1 c2 c3 c4 q=>hs.extBut c o c1<|kk c o c1 c2 c3 c4 q) ⟨o,hs.extBut e o ne ho,hc⟩
 change wpAny (model prog w) A (bind (field (.ref z) 2) _) _ E s;refine zxE<|wpAny_field hz rfl rfl ?_;refine zxE<|wpAny_field hz rfl rfl<|zxE<|wpAny_seqItems hTI rfl ?_;refine zxE<|Sw hz hf ?_ λh₁ g1 z1 hs₁=>?_
 . rw[if_pos rfl];refine zxE<|wpAny_rule<|zxE<|wpAny_field hz rfl rfl ?_;refine zxE<|wpAny_setField_rec hz (by simp) λh₁ hz₁ hs₁=>?_;refine zxE ?_;rw[show(#[Value.ref i1,Value.ref i2].toList.zipIdx)=[(Value.ref i1,0),(Value.ref i2,1)]from rfl,List.forIn_cons];have z1:=hz₁;have x1:=h1.ext hs₁.extBut D.i1z;have y1:=q1.ext hs₁.extBut D.l1z;refine zxE<|zxE<|wpAny_onRaise ?_;cases e1:xs[k1]? with
   |none=>exact zxE (Xe hh x1 y1 e1 λh' e ex ho=>fin h' e ⟨_,_,ex z _ D.i1z.symm z1⟩ (λc o c1 c2 c3 c4 q=>ex c o c3<|hs₁.extBut c o c1 q) ho)
   |some x=>
    have hy:ys[k2]? = none:=hx.resolve_left (by rw[e1];simp);refine zxE<|vI x1 y1 e1 λh₂ x2 hs₂=>zxF ?_;have t2:=hs₂.extBut TO _ D.TOi1<|hs₁.extBut TO _ D.TOz hTO;refine zxE<|wpAny_seqItems t2 rfl<|zxE<|wpAny_updateSeq_pair t2 λh₃ t3 hs₃=>?_;refine zxE<|wpAny_letGo<|zxF ?_;have x3:=((h2.ext hs₁.extBut D.i2z).ext hs₂.extBut D.i12.symm).ext hs₃.extBut D.TOi2.symm;have y3:=((q2.ext hs₁.extBut D.l2z).ext hs₂.extBut D.l2i1).ext hs₃.extBut D.l2TO;change wpAny (model prog w) A (forIn [(Value.ref i2,1)] _ _) _ E _;rw[List.forIn_cons];refine zxE<|zxE<|wpAny_onRaise ?_;exact zxE<|Xe hh x3 y3 hy λh' e ex ho=>fin h' e ⟨_,_,ex z _ D.i2z.symm<|hs₃.extBut z _ D.TOz.symm<|hs₂.extBut z _ D.i1z.symm z1⟩
     (λc o c1 c2 c3 c4 q=>ex c o c4<|hs₃.extBut c o c2<|hs₂.extBut c o c3<|hs₁.extBut c o c1 q) ho
 . rw[if_neg<|by simp];change wpAny (model prog w) A (bind (forIn #[Value.ref i1,Value.ref i2] _ _) _) _ E _;rw[<-Array.forIn_toList,List.forIn_cons];have x1:=h1.ext hs₁.extBut D.i1z;have y1:=q1.ext hs₁.extBut D.l1z;refine zxE<|zxE<|zxE<|zxJ ?_;cases e1:xs[k1]? with
   |none=>exact zxE (Xe hh x1 y1 e1 λh' e ex ho=>h h' e (λc o c1 c2 c3 c4 q=>ex c o c3<|hs₁.extBut c o c1 q) ho)
   |some x=>
    have hy:ys[k2]? = none:=hx.resolve_left (by rw[e1];simp);refine zxE<|vI x1 y1 e1 λh₂ x2 hs₂=>zxF<|zxF ?_;change wpAny (model prog w) A (forIn [Value.ref i2] _ _) _ E _;rw[List.forIn_cons];have x3:=(h2.ext hs₁.extBut D.i2z).ext hs₂.extBut D.i12.symm;have y3:=(q2.ext hs₁.extBut D.l2z).ext hs₂.extBut D.l2i1;refine zxE<|zxE<|zxJ ?_;exact zxE<|Xe hh x3 y3 hy λh' e ex ho=>h h' e (λc o c1 c2 c3 c4 q=>ex c o c4<|hs₂.extBut c o c3<|hs₁.extBut c o c1 q) ho
def M9{b1 b2 prog w A E s z TI TO i1 i2 l1 l2}{k1 k2:Nat}{xs ys x y a b f0 f1 Q}(D:ZipApart z TI TO i1 i2 l1 l2)
 (hz:N1 s.heap z TI TO f0 f1) (hf:Zf f0) (hTI:IsPair s.heap TI (.ref i1) (.ref i2)) (hTO:IsPair s.heap TO a b) (h1:XM b1 s.heap i1 l1 k1) (h2:XM b2 s.heap i2 l2 k2) (q1:RY b1 s.heap l1 xs) (q2:RY b2 s.heap l2 ys) (hx:xs[k1]? = some x) (hy:ys[k2]? = some y)
 (h:∀(h':Heap) (g0:Value) (g1:Bool),N1 h' z TI TO g0 g1->Zf g0->(∃p q,IsPair h' TO p q)->XM b1 h' i1 l1 (k1+1)->XM b2 h' i2 l2 (k2+1)->IsPair h' s.heap.objs.size x y->(∀c o,c≠z->c≠TO->c≠i1->c≠i2->s.heap.get? c=some o->h'.get? c=some o)->Q (some<|.ref s.heap.objs.size) {s with heap:=h'}):
 wpAny (model prog w) A (pyNext<|.ref z) Q E s:=by
 have hT:s.TypeIs (.ref z) "zip":=⟨_,hz,rfl⟩;exact zxE<|wpAny_attempt<|wpAny_callSpecial?_slot hT F.slot_zip_next<|zxM F.slot_zip_next hT F.entry_zip_next (CP D hz hf hTI hTO h1 h2 q1 q2 hx hy λh' g0 g1 a1 a2 a3 a4 a5 a6 a7=>zxF<|h h' g0 g1 a1 a2 a3 a4 a5 a6 a7)<|F.args_zip_next_1 _
def ED{b1 b2 prog w A E s z TI TO i1 i2 l1 l2}{k1 k2:Nat}{xs ys a b f0 f1 Q}(hh:A.handled=none)(D:ZipApart z TI TO i1 i2 l1 l2)
 (hz:N1 s.heap z TI TO f0 f1) (hf:Zf f0) (hTI:IsPair s.heap TI (.ref i1) (.ref i2)) (hTO:IsPair s.heap TO a b) (h1:XM b1 s.heap i1 l1 k1) (h2:XM b2 s.heap i2 l2 k2) (q1:RY b1 s.heap l1 xs) (q2:RY b2 s.heap l2 ys) (hx:xs[k1]? = none\/ys[k2]? = none)
 (h:∀h':Heap,(∀c o,c≠z->c≠TO->c≠i1->c≠i2->s.heap.get? c=some o->h'.get? c=some o)->Q none {s with heap:=h'}):wpAny (model prog w) A (pyNext<|.ref z) Q E s:=by
 have hT:s.TypeIs (.ref z) "zip":=⟨_,hz,rfl⟩;exact zxE<|wpAny_attempt<|wpAny_callSpecial?_slot hT F.slot_zip_next<|zxM F.slot_zip_next hT F.entry_zip_next (AQ hh D hz hf hTI hTO h1 h2 q1 q2 hx λh' e hk _=>zxE<|wpAny_isInstance ⋯ isSubtype_stop (zxF<|h h' hk))<|F.args_zip_next_1 _
def SY{prog w A E s z TI TO T f0 f1 Q}(tg)(hz:N1 s.heap z TI TO f0 f1)(hf:Zf f0)
 (h:∀(h':Heap) (g0:Value),N1 h' z TI TO g0 f1->Zf g0->Heap.SameBut z s.heap h'->Q () {s with heap:=h'}):wpAny (model prog w) A (letOwnedTupleGo tg (.ref z)<|.ref T) Q E s:=by
 have no:wpAny (model prog w) A _ Q E s:=zxF<|h s.heap f0 hz hf<|Heap.SameBut.refl _ _;have go:wpAny (model prog w) A (bind (load z) λo=>match o.cls,o.data with
  |Value.type n,Data.fields vs=>if(["enumerate","zip","dict_itemiterator","dict_reverseitemiterator","odict_iterator","itertools.zip_longest","itertools.pairwise"].contains n&&vs[0]? == some (rawInt T))=true then(do rule "for.unpacks-the-owned-tuple";updateField z 0 Value.none)else pure ()
  |_,_=>pure ()) Q E s:=by
  refine zxE<|wpAny_load hz ?_;show wpAny _ A (if _ then _ else _) Q E s
  split
  . refine zxE<|wpAny_rule ?_;exact wpAny_setField_rec hz ⋯ λh' z' hs=>h h' .none z' (.inl rfl) hs
  . exact no
 cases tg with
 |Tuple elts k pos=>exact go
 |List elts pos=>exact go
 |_=>exact no
def YB(b:Bool)(l:Addr):Obj:={cls:=.type (if b=true then "tuple_iterator" else "list_iterator"),data:=.fields #[.ref l,.int 0 0]}
def Md{prog w A E s l xs Q}:∀{b:Bool},RY b s.heap l xs->Q (.ref s.heap.objs.size) {s with heap:=s.heap.push (YB b l)}->wpAny (model prog w) A (pyIter<|.ref l) Q E s
 |true,h1,h2=>wpAny_pyIter_tuple h1 h2
 |false,h1,h2=>wpAny_pyIter_list h1 h2
def RY.at{h h' l xs}(k:∀o,h.get? l=some o->h'.get? l=some o):∀{b:Bool},RY b h l xs->RY b h' l xs
 |true,⟨o,e,c⟩=>⟨o,k o e,c⟩
 |false,⟨o,e,c⟩=>⟨o,k o e,c⟩
def ID{b1 b2}(l1 l2)(xs ys):Meets (Builtin.«zip.__new__» {pos:=[.type "zip",.ref l1,.ref l2]}) λ_ R s=>RY b1 s.heap l1 xs/\RY b2 s.heap l2 ys/\
 ∀h':Heap,N1 h' (s.heap.objs.size+4) (s.heap.objs.size+2) (s.heap.objs.size+3) .none false->IsPair h' (s.heap.objs.size+2) (.ref s.heap.objs.size) (.ref<|s.heap.objs.size+1)->IsPair h' (s.heap.objs.size+3) .none .none->XM b1 h' s.heap.objs.size l1 0->XM b2 h' (s.heap.objs.size+1) l2 0->
  (∀c o,s.heap.get? c=some o->h'.get? c=some o)->R (.ok<|.ret<|.ref<|s.heap.objs.size+4) {s with heap:=h'}:=
 .of_wp λprog w A R s h=>by
  obtain⟨hp,g,d,tk,os⟩:=s;obtain⟨hl1,hl2,h⟩:=h;have hsub:=sub_zip;have p1:∀{Q:Value->Shared->Prop}{E:Value->Shared->Prop}{A:Around},Q (.ref hp.objs.size) ⟨hp.push<|YB b1 l1,g,d,tk,os⟩->wpAny (model prog w) A (pyIter<|.ref l1) Q E ⟨hp,g,d,tk,os⟩:=λh=>Md hl1 h;have p2:∀{Q:Value->Shared->Prop}{E:Value->Shared->Prop}{A:Around},Q (.ref (hp.push<|YB b1 l1).objs.size) ⟨(hp.push<|YB b1 l1).push<|YB b2 l2,g,d,tk,os⟩->wpAny (model prog w) A (pyIter<|.ref l2) Q E ⟨hp.push<|YB b1 l1,g,d,tk,os⟩:=λh=>Md (s:=⟨hp.push<|YB b1 l1,g,d,tk,os⟩) (hl2.at λo e=>zxG _ e) h
  wp_walk using p1,p2
  refine⟨_,rfl, ?_⟩;have s1:(hp.push<|YB b1 l1).objs.size=hp.objs.size+1:=zxK _ _;have s2:((hp.push<|YB b1 l1).push<|YB b2 l2).objs.size=hp.objs.size+2:=(zxK _ _).trans (congrArg (· + 1) s1);generalize hh2:(hp.push<|YB b1 l1).push (YB b2 l2)=h2 at s2 ⊢;have i1:XM b1 h2 hp.objs.size l1 0:=by
   have:h2.get? hp.objs.size=some (YB b1 l1):=by rw[<-hh2];exact zxG _<|zxI _ rfl
   cases b1<;>exact⟨_,this,rfl,rfl⟩
  have i2:XM b2 h2 (hp.objs.size+1) l2 0:=by
   have:h2.get? (hp.objs.size+1)=some (YB b2 l2):=by rw[<-hh2,<-s1];exact zxI _ rfl
   cases b2<;>exact⟨_,this,rfl,rfl⟩
  have kp:∀c o,hp.get? c=some o->h2.get? c=some o:=λc o q=>by rw[<-hh2];exact zxG _<|zxG _ q
  rw[s1];change R (.ok<|.ret<|.ref ((h2.push {cls:=.type "tuple",data:=.seq #[.ref hp.objs.size,.ref<|hp.objs.size+1]}).push {cls:=.type "tuple",data:=.seq #[.none,.none]}).objs.size)
   ⟨((h2.push {cls:=.type "tuple",data:=.seq #[.ref hp.objs.size,.ref<|hp.objs.size+1]}).push {cls:=.type "tuple",data:=.seq #[.none,.none]}).push {cls:=.type "zip",data:=.fields #[.none,.bool false,.bool false,.ref h2.objs.size,.ref (h2.push {cls:=.type "tuple",data:=.seq #[.ref hp.objs.size,.ref<|hp.objs.size+1]}).objs.size]},g,d,tk,os⟩
  have g3:=zxI h2 (o:={cls:=.type "tuple",data:=.seq #[.ref hp.objs.size,.ref<|hp.objs.size+1]}) rfl;have s3:(h2.push {cls:=.type "tuple",data:=.seq #[.ref hp.objs.size,.ref<|hp.objs.size+1]}).objs.size=hp.objs.size+3:=(zxK _ _).trans (congrArg (· + 1) s2);rw[s2]at g3;rw[s2,s3];have k3:∀c o,h2.get? c=some o->(h2.push {cls:=.type "tuple",data:=.seq #[.ref hp.objs.size,.ref<|hp.objs.size+1]}).get? c=some o:=λc o q=>zxG _ q;generalize (h2.push {cls:=.type "tuple",data:=.seq #[.ref hp.objs.size,.ref<|hp.objs.size+1]})=h3 at *;have g4:=zxI h3 (o:={cls:=.type "tuple",data:=.seq #[.none,.none]}) rfl;have s4:(h3.push {cls:=.type "tuple",data:=.seq #[.none,.none]}).objs.size=hp.objs.size+4:=(zxK _ _).trans (congrArg (· + 1) s3);have k4:∀c o,h3.get? c=some o->(h3.push {cls:=.type "tuple",data:=.seq #[.none,.none]}).get? c=some o:=λc o q=>zxG _ q;rw[s3]at g4;rw[s4];generalize (h3.push {cls:=.type "tuple",data:=.seq #[.none,.none]})=h4 at *;have g5:=zxI h4 (o:={cls:=.type "zip",data:=.fields #[.none,.bool false,.bool false,.ref<|hp.objs.size+2,.ref<|hp.objs.size+3]}) rfl;rw[s4]at g5;exact h _ g5 (zxG _<|k4 _ _ g3) (zxG _ g4) (i1.at λo e=>zxG _<|k4 _ _<|k3 _ _ e) (i2.at λo e=>zxG _<|k4 _ _<|k3 _ _ e) λc o q=>zxG _<|k4 _ _<|k3 _ _<|kp c o q
def Hd{b1 b2 prog w A E s l1 l2 xs ys Q}(hl1:RY b1 s.heap l1 xs)(hl2:RY b2 s.heap l2 ys)
 (h:∀h':Heap,N1 h' (s.heap.objs.size+4) (s.heap.objs.size+2) (s.heap.objs.size+3) .none false->IsPair h' (s.heap.objs.size+2) (.ref s.heap.objs.size) (.ref<|s.heap.objs.size+1)->IsPair h' (s.heap.objs.size+3) .none .none->XM b1 h' s.heap.objs.size l1 0->XM b2 h' (s.heap.objs.size+1) l2 0->
  (∀c o,s.heap.get? c=some o->h'.get? c=some o)->Q (.ref<|s.heap.objs.size+4) {s with heap:=h'}):wpAny (model prog w) A (call (.type "zip") [.ref l1,.ref l2]) Q E s:=
 callType_new F.called_zip (by decide) ⋯ (F.newCall_zip_2 _ _) (λobj=>F.args_object_init_3 obj _ _) F.entry_zip_new (ID l1 l2 xs ys)
  ⟨hl1,hl2,λh' a1 a2 a3 a4 a5 a6=>⟨⟨_,a1,rfl⟩,h h' a1 a2 a3 a4 a5 a6⟩⟩
def U5{prog w A E s z TI TO f0 f1 Q}(hz:N1 s.heap z TI TO f0 f1)(h:Q (.ref z) s):wpAny (model prog w) A (pyIter<|.ref z) Q E s:=by
 have hT:s.TypeIs (.ref z) "zip":=⟨_,hz,rfl⟩;exact wpAny_pyIter_slot hT F.slot_zip_iter<|zxM F.slot_zip_iter hT F.entry_zip_iter (zxF ⟨.ref z,rfl,"zip",.builtin "zip.__next__",hT,F.slot_zip_next.lookup,h⟩)<|F.args_zip_iter_1 _
def Lp(K:zzA)(H:Hp):Bool->Addr->List V->Prop
 |true,a,xs=>V_ K H a xs
 |false,a,xs=>Pc K H a xs
def Lp.ok{X pins σ H s}(I:Inv X pins σ H s):∀{b:Bool}{a:Addr}{xs:List V},Lp X.K H b a xs->∃its:List Value,zQ xs its/\RY b s.heap a its.toArray
 |true,a,xs,h=>by obtain⟨its,rv,p,_⟩:=I.tuple h;exact⟨its,rv,p⟩
 |false,a,xs,h=>by obtain⟨its,rv,p,_⟩:=I.list h;exact⟨its,rv,p.isList⟩
def Lp.inj{X pins σ H s}(I:Inv X pins σ H s):∀{b:Bool}{a:Addr}{xs ys:List V},Lp X.K H b a xs->Lp X.K H b a ys->xs=ys
 |true,_,_,_,h,h'=>I.tuple_inj h h'
 |false,_,_,_,h,h'=>I.list_inj h h'
def RY.ex{h l xs}:∀{b:Bool},RY b h l xs->∃o,h.get? l=some o
 |true,⟨o,e,_⟩=>⟨o,e⟩
 |false,⟨o,e,_⟩=>⟨o,e⟩
def XM.ex{h it l}{k:Nat}:∀{b:Bool},XM b h it l k->∃o,h.get? it=some o/\∀v,o.data ≠ .cell v
 |true,⟨o,e,_,d⟩=>⟨o,e,λv z=>by rw[d]at z;cases z⟩
 |false,⟨o,e,_,d⟩=>⟨o,e,λv z=>by rw[d]at z;cases z⟩
def tR(K:zzA)(b1 b2:Bool)(a b:Addr):It:=
 ⟨λi H=>∃xs ys x y,Lp K H b1 a xs/\Lp K H b2 b ys/\xs[i]? = some x/\ys[i]? = some y,
  λi H v H'=>∃T x y,H T=none/\v = .ref T/\H'=upd H T (.tup [x,y])/\(∀xs,Lp K H b1 a xs->xs[i]? = some x)/\∀ys,Lp K H b2 b ys->ys[i]? = some y,
  λi H=>∃xs ys,Lp K H b1 a xs/\Lp K H b2 b ys/\(xs.length<=i\/ys.length<=i)⟩
def Hz{P w K tg b1 b2}(a b z TI TO i1 i2)(D:ZipApart z TI TO i1 i2 a b):Turn P w K tg (tR K b1 b2 a b) [z,TI,TO,i1,i2] z
 (λi h=>(∃f0 f1,N1 h z TI TO f0 f1/\Zf f0)/\IsPair h TI (.ref i1) (.ref i2)/\(∃p q,IsPair h TO p q)/\XM b1 h i1 a i/\XM b2 h i2 b i)where
 mem:=by simp
 obj:=λi h st c hc=>by
  obtain⟨⟨f0,f1,hz,_⟩,hTI,⟨p,q,hTO⟩,h1,h2⟩:=st;simp at hc
  rcases hc with rfl|rfl|rfl|rfl|rfl
  . exact⟨_,hz,λv z=>by cases z⟩
  . exact⟨_,hTI,λv z=>by cases z⟩
  . exact⟨_,hTO,λv z=>by cases z⟩
  . exact h1.ex
  . exact h2.ex
 keep:=λi h h' st kk=>by
  obtain⟨⟨f0,f1,hz,hf⟩,hTI,⟨p,q,hTO⟩,h1,h2⟩:=st;exact⟨⟨f0,f1,kk z (by simp) _ hz,hf⟩,kk TI (by simp) _ hTI,⟨p,q,kk TO (by simp) _ hTO⟩,h1.at λo e=>kk i1 (by simp) o e,h2.at λo e=>kk i2 (by simp) o e⟩
 item:=by
  intro X hP hw hK hc i pins s σ H E I hf st hg;subst hP hw hK;obtain⟨xs,ys,x,y,hq,hr,hx,hy⟩:=hg;obtain⟨its,rv,p⟩:=hq.ok I;obtain⟨jts,rw',p'⟩:=hr.ok I;obtain⟨u,hu,ru⟩:=rv.get hx;obtain⟨u',hu',ru'⟩:=rw'.get hy;obtain⟨⟨f0,f1,hz,zf⟩,hTI,⟨pp,qq,hTO⟩,h1,h2⟩:=st;refine M9 D hz zf hTI hTO h1 h2 p p' (by simpa using hu) (by simpa using hu') λh' g0 g1 z' zf' to' i1' i2' pr kk=>⟨_,rfl,SY tg z' zf' λh9 e0 z2 zf2 hs=>?_⟩;have hn:=I.hok.fresh<|zzN _;have fr:∀c o,s.heap.get? c=some o->c≠s.heap.objs.size:=λc o e z=>by
   have:=zxH e;rw[z]at this;exact Nat.lt_irrefl _ this
  have nz:=(fr z _ hz).symm;have k2:∀c o,c ∉ [z,TI,TO,i1,i2]->s.heap.get? c=some o->h9.get? c=some o:=λc o hb q=>by
   simp at hb;exact hs.extBut c o hb.1<|kk c o hb.1 hb.2.2.1 hb.2.2.2.1 hb.2.2.2.2 q
  have hTI2:=hs.extBut TI _ D.TIz<|kk TI _ D.TIz D.TITO D.TIi1 D.TIi2 hTI;obtain⟨p1,q1,to1⟩:=to';refine⟨.ref s.heap.objs.size,upd H s.heap.objs.size<|.tup [x,y],NB (s:=s) (t':=s.toks) I hf k2 (zzN _) ⟨by show 2<=sizeLine;decide,[u,u'],.cons ru<|.cons ru' .nil,⟨_,hs.extBut _ _ nz pr,rfl,_,rfl⟩⟩,rfl,
   ⟨_,x,y,hn,rfl,rfl,λq hq'=>by rw[Lp.inj I hq' hq];exact hx,λq hq'=>by rw[Lp.inj I hq' hr];exact hy⟩,⟨⟨e0,g1,z2,zf2⟩,hTI2,⟨p1,q1,hs.extBut TO _ D.TOz to1⟩,i1'.ext hs.extBut D.i1z,i2'.ext hs.extBut D.i2z⟩,λc hc=>?_⟩
  have hcT:c≠s.heap.objs.size:=by
   simp at hc
   rcases hc with rfl|rfl|rfl|rfl|rfl
   . exact fr _ _ hz
   . exact fr _ _ hTI
   . exact fr _ _ hTO
   . obtain⟨o,e,_⟩:=h1.ex;exact fr _ _ e
   . obtain⟨o,e,_⟩:=h2.ex;exact fr _ _ e
  rw[zF hcT];exact(hf c hc).1
 done:=by
  intro X hP hw hK hc i pins s σ H E I hf st hg;subst hP hw hK;obtain⟨xs,ys,hq,hr,hx⟩:=hg;obtain⟨its,rv,p⟩:=hq.ok I;obtain⟨jts,rw',p'⟩:=hr.ok I;have hl:=rv.length;have hl':=rw'.length;obtain⟨⟨f0,f1,hz,zf⟩,hTI,⟨pp,qq,hTO⟩,h1,h2⟩:=st;refine ED (I.ok.hd hc) D hz zf hTI hTO h1 h2 p p' (hx.imp (λh=>by simp;exact q0f hl h) λh=>by simp;exact q0f hl' h) λh' eb=>⟨rfl,FE (t':=s.toks) I hf λc o hc q=>?_⟩;simp at hc;exact eb c o hc.1 hc.2.2.1 hc.2.2.2.1 hc.2.2.2.2 q
 self:=λ_ _ _ _ _ st h=>let⟨⟨_,_,hz,_⟩,_⟩:=st;U5 hz h
section
variable{X:Cx}{tg:Expr}
def sG(K:zzA)(ta:TA):TI:=λσ H R=>ta σ H λvs H1=>∃a b b1 b2,vs=[.ref a,.ref b]/\(∃xs,Lp K H1 b1 a xs)/\(∃ys,Lp K H1 b2 b ys)/\R (tR K b1 b2 a b) H1
def DQ{l l' ta p pos}(hg:Gl X "zip")(hm:X.mg "zip"=none)(ha:PA X [l,l'] ta)(hs:starEach [l,l'] X.env=[(false,eval l X.env),(false,eval l' X.env)])(hs2:starEach [l'] X.env=[(false,eval l' X.env)]):
 PI X tg (.Call (.Name "zip" p) [l,l'] [] pos) (sG X.K ta):=by
 intro pins s σ H R I h;refine Call_ (WI I hg hm boot_zip<|PyProof.Rows.callWith_type1 (xU (ha pos pins s σ H _ I h) λus s1 ⟨vs,H1,I1,r1,q1⟩=>?_) (by rw[hs,hs2])<|by rw[hs2];rfl);obtain⟨a,b,b1,b2,rfl,⟨xs,hq⟩,⟨ys,hr⟩,q⟩:=q1;cases r1 with
 |cons r rr=>
  cases rr with
  |cons r' rr=>
   cases rr;cases r;cases r';obtain⟨its,rv,pl⟩:=hq.ok I1;obtain⟨jts,rw',pl'⟩:=hr.ok I1;obtain⟨o1,ho1⟩:=pl.ex;obtain⟨o2,ho2⟩:=pl'.ex;refine Hd pl pl' λh' hZ hTI hTO hi1 hi2 hk=>?_;refine U5 hZ ⟨s1.heap.objs.size+4,[s1.heap.objs.size+4,s1.heap.objs.size+2,s1.heap.objs.size+3,s1.heap.objs.size,s1.heap.objs.size+1],_,_,H1,rfl,I1.kept (t':=s1.toks) hk,Hz a b _ _ _ _ _<|HH _ _ _ (zxH ho1)<|zxH ho2,⟨⟨_,_,hZ,.inl rfl⟩,hTI,⟨_,_,hTO⟩,hi1,hi2⟩,λc hc=>?_,q⟩;have hb':s1.heap.objs.size<=c:=by
    simp at hc
    rcases hc with rfl|rfl|rfl|rfl|rfl<;>first|exact zzN _|exact Nat.le_add_right _ _
   exact I1.fpOk hb'<|I1.hok.fresh hb'
end
section
variable{X:Cx}{kd:KD}{tg e:Expr}{fa:EF}
def D1{K F H a b b1 b2 vs ws st ds es}(ft:∀a,F a->H a≠none)(hs:∀H3:Hp,(∀b u,H b=some u->H3 b=some u)->Lp K H3 b1 a vs)(hs':∀H3:Hp,(∀b u,H b=some u->H3 b=some u)->Lp K H3 b2 b ws)
 (r:RpL K kd (λa=>st=true/\F a) H vs ds) (r':RpL K kd (λa=>st=true/\F a) H ws es):ItC K kd F H (tR K b1 b2 a b) (GP st ds es):=⟨λH3 T k hT i=>by
 have hr3:=hs H3 k;have hr4:=hs' H3 k;have hlen:=Ea st ds es;have l1:=r.length;have l2:=r'.length;refine⟨λhi=>?_,λhi=>⟨_,_,hr3,hr4,⋯⟩,λv H4 hy=>?_⟩
 . obtain⟨u,hu,_⟩:=r.get<|zzE (show i<ds.length by omega);obtain⟨u',hu',_⟩:=r'.get<|zzE (show i<es.length by omega);exact⟨_,_,u,u',hr3,hr4,hu,hu'⟩
 . obtain⟨A,x,y,hn,rfl,rfl,hv,hv'⟩:=hy;have hnH:H A=none:=by
    cases e:H A with
    |none=>rfl
    |some u=>rw[k A u e]at hn;cases hn
   refine⟨Yk hn,λq hq=>?_⟩;obtain⟨d,e,hd,he,rfl⟩:=M7 hq;obtain⟨u,hu,ru⟩:=r.get hd;obtain⟨u',hu',ru'⟩:=r'.get he;have:=hv _ hr3;rw[hu]at this;cases this;have:=hv' _ hr4;rw[hu']at this;cases this;have up:∀{v:V}{d:D},Rp K kd (λa=>st=true/\F a) H v d->Rp K kd (λa=>st=true/\(F a\/T a)) (upd H3 A<|.tup [x,y]) v d:=λrp=>
    (rp.since (λb o q=>Yk hn b o<|k b o q) λa z=>(hT a z).1).less λa z=>z.2.elim (λy=>.inl ⟨z.1,y⟩) .inr
   exact .tup (λz=>z.2.elim (λy=>ft A y hnH) λy=>(hT A y).2 hn) (.inl z8)<|.cons (up ru)<|.cons (up ru') .nil⟩
def qx:RV->Option (Bool×Bool×List D)
 | .ow (.lf s (.lst l))=>some (s,false,l)
 | .ow (.lf s (.tup l))=>some (s,true,l)
 |_=>none
def K_(fr:AF):IF:=λas=>(fr as).bind λp=>(rW p.1).bind λo=>(qx o.1).bind λa=>(qx o.2).bind λb=>some (GP (a.1&&b.1) a.2.2 b.2.2,p.2)
def BM{K F B ad σ H v r x}(e:qx r=some x)(rv:xq K kd F B [] ad σ H v r):∃a vs,v = .ref a/\Lp K H x.2.1 a vs/\(∀H3:Hp,(∀b u,¬Gw [] ad b->H b=some u->H3 b=some u)->Lp K H3 x.2.1 a vs)/\RpL K kd (Lv F B (Gw [] ad) x.1) H vs x.2.2:=by
 cases r with
 |bo i=>cases e
 |ow o=>
  cases o with
  |nd k os=>cases e
  |lf s d=>
   cases rv with
   |lf rp=>
    cases rp with
    |lst hn hr rl=>
     cases e;refine⟨_,_,rfl,.inl hr,λH3 k=>?_,rl⟩
     rcases hr with hr|⟨o,hr⟩
     . exact .inl<|.inl<|k _ _ (λz=>hn<|.inr z) hr
     . exact .inl (.inr ⟨o,k _ _ (λz=>hn<|.inr z) hr⟩)
    |lstK a b c rl=>cases e;exact⟨_,_,rfl,.inr ⟨_,_,_,a,rfl,rfl,rfl,b,c⟩,λH3 k=>.inr ⟨_,_,_,a,rfl,rfl,rfl,b,c⟩,rl⟩
    |tup hn hr rl=>
     cases e;refine⟨_,_,rfl,.inl hr,λH3 k=>?_,rl⟩
     rcases hr with hr|⟨o,hr⟩
     . exact .inl<|.inl<|k _ _ (λz=>hn<|.inr z) hr
     . exact .inl (.inr ⟨o,k _ _ (λz=>hn<|.inr z) hr⟩)
    |tupK a b c e' f rl=>cases e;exact⟨_,_,rfl,.inr ⟨_,_,_,a,b,c,e',f⟩,λH3 k=>.inr ⟨_,_,_,a,b,c,e',f⟩,rl⟩
    |_=>cases e
def Dj{l l' fr p pos}(hg:Gl X "zip")(hm:X.mg "zip"=none)(ha:AA X kd [l,l'] fr)(hs:starEach [l,l'] X.env=[(false,eval l X.env),(false,eval l' X.env)])(hs2:starEach [l'] X.env=[(false,eval l' X.env)]):
 uo X kd tg (.Call (.Name "zip" p) [l,l'] [] pos) (K_ fr):=by
 with_unfolding_all (
 intro pins s σ H R I h;obtain⟨F,B,ad,as,ds,as',Rl,e',q⟩:=h;obtain⟨⟨rs,as1⟩,h1,e'⟩:=bS_<|e';obtain⟨_,e1,e'⟩:=bS_ e';obtain⟨x1,e2,e'⟩:=bS_ e';obtain⟨x2,e3,e'⟩:=bS_ e';cases BX e1;cases e';refine DQ hg hm ha hs hs2 pins s σ H R I ⟨F,B,ad,as,_,as1,Rl,h1,λvs ad1 H1 R1 rv1 g1=>?_⟩;cases rv1 with
 |cons r1 rr=>
  cases rr with
  |cons r2 rr=>
   cases rr;obtain⟨a,vs,rfl,sa,ka,ra⟩:=BM e2 r1;obtain⟨b,ws,rfl,sb,kb,rb⟩:=BM e3 r2;refine⟨a,b,_,_,rfl,⟨_,sa⟩,⟨_,sb⟩,q _ ad1 H1 R1 g1<|D1 (R1.trk true) (λH3 k=>ka H3 λb u n h=>k b u h) (λH3 k=>kb H3 λb u n h=>k b u h) (ra.less λa z=>?_)<|rb.less λa z=>?_⟩
   . have z1:=(Bool.and_eq_true_iff.mp z.1).1;rw[z1];exact z.2
   . have z1:=(Bool.and_eq_true_iff.mp z.1).2;rw[z1];exact z.2)
end
def Bv(h:n<=1000000):n<=sizeLine:=zzO h (by decide)
section
variable{as:AS}{f fo a b:EF}{fr:AF}{s t:Bool}{x y z d:D}{c m:Str}{ns cs:List Str}{ds:List D}{tbl:List (Str×Fn)}{g:Fn}{o:O}
def Ql(h:WD fo as s (.ob c ns ds))(hc:c ∈ cs)(hl:EK ns ds n=some d):WD (f1 fo<|zP cs n) as (zE d||s) d:=by
 unfold WD f1 at *;rw[h];show(if c ∈ cs then(EK ns ds n).bind λd=>some _ else none:Option R0).bind _=_;rw[if_pos hc,hl];show(if _=true then _ else _:Option RV).bind _=_;rw[if_pos ⋯];rfl
def Pd(ho:WD fo as s (.ob c ns ds))(hm:m ∉ ns)(ht:Fw tbl c=some g)(hr:WA fr as rs)(hg:g ((s,.ob c ns ds)::rs.map λx=>(zE x.2||x.1,x.2))=some o):y_ tbl m fo fr as=some (.ow o,as):=by
 unfold y_;rw[ho];show(if m ∈ ns then none else some c:Option Str).bind _=_;rw[if_neg hm];show(Fw tbl c).bind _=_;rw[ht];rw[hr];show((ZE as _).bind _:Option _).bind _=_;rw[ZX];show(g ((s,.ob c ns ds)::_)).bind _=_;rw[hg];rfl
def uw(ho:WD fo as true (.ob c ns ds))(hm:m ∉ ns)(ht:Fw tbl c=some g)(hg:RE (g [(true,.ob c ns ds)]) z):WE (y_ tbl m fo aN) as z:=by
 obtain⟨o,a,b,d⟩:=hg;exact⟨o,Pd ho hm ht zj a,b,d⟩
def XF(ho:WD fo as true (.ob c ns ds))(hm:m ∉ ns)(ht:Fw tbl c=some g)(ha:WE a as x)(hg:RE (g [(true,.ob c ns ds),(true,x)]) z):WE (y_ tbl m fo<|aC a aN) as z:=by
 obtain⟨o,b,d,e⟩:=hg;exact⟨o,Pd ho hm ht (xC ha zj) (by show g [_,(zE x||true,x)]=_;rwa [zyC]),d,e⟩
def Ey(ho:WD fo as true (.ob c ns ds))(hm:m ∉ ns)(ht:Fw tbl c=some g)(ha:WE a as x)(hb:WE b as y)(hg:RE (g [(true,.ob c ns ds),(true,x),(true,y)]) z):WE (y_ tbl m fo<|aC a<|aC b aN) as z:=by
 obtain⟨o,d,e,f⟩:=hg;exact⟨o,Pd ho hm ht (xC ha<|xC hb zj) (by show g [_,(zE x||true,x),(zE y||true,y)]=_;rwa [zyC,zyC]),e,f⟩
def MC(ho:WD fo as true (.ob c ns ds))(hm:m ∉ ns)(ht:Fw tbl c=some g)(ha:WE a as x)(hb:WE b as y)(he:WE e as w)(hg:RE (g [(true,.ob c ns ds),(true,x),(true,y),(true,w)]) z):WE (y_ tbl m fo<|aC a<|aC b<|aC e aN) as z:=by
 obtain⟨o,d,f,h⟩:=hg;exact⟨o,Pd ho hm ht (xC ha<|xC hb<|xC he zj) (by show g [_,(zE x||true,x),(zE y||true,y),(zE w||true,w)]=_;rwa [zyC,zyC,zyC]),f,h⟩
inductive SqD:D->List D->Prop
 |l (ds:List D):SqD (.lst ds) ds
 |t (ds:List D):SqD (.tup ds) ds
theorem MK(st):∀(xs ys:List D),GP st xs ys=(xs.zip ys).map λq=>(st,.tup [q.1,q.2])
 | [],_=>rfl
 |_::_,[]=>rfl
 |x::r,y::t=>congrArg _<|MK st r t
def Ir(ha:WE a as x)(hb:WE b as y)(hx:SqD x xs)(hy:SqD y ys):K_ (aC a<|aC b aN) as=some ((xs.zip ys).map λq=>(true,.tup [q.1,q.2]),as):=by
 have h:=xC ha<|xC hb zj;unfold K_;rw[h,<-MK];cases hx<;>cases hy<;>rfl
theorem K9:∀(l:List α),(∀q ∈ l,∃as1,gg (it q) as0=some as1/\WE fe as1 (h q))->∃os,vP gg Y2 fe as0 (l.map it)=some os/\O.strs os=true/\O.toDs os=l.map h
 | [],_=>⟨[],rfl,rfl,rfl⟩
 |q::l,H=>by
  obtain⟨a,d,e,f⟩:=K9 l λp m=>H p<|zzD _ m;obtain⟨b,g,o,i,c,j⟩:=H q zzF;refine⟨o::a, ?_,by show(o.str&&O.strs a)=_;rw[c,e];rfl,by show o.toD::O.toDs a=_;rw[j,f];rfl⟩;show vP gg Y2 fe as0 (it q::l.map it)=_;unfold vP;rw[g];show((fe b).bind _)=_;rw[i];show(if o.str=true then _ else _)=_;rw[if_pos c,d];rfl
theorem KP:∀(l:List α),(∀q ∈ l,∃as1,gg (it q) as0=some as1/\WT tt as1 (p q)/\(p q=true->WE fe as1 (h q)))->∃os,vP gg tt fe as0 (l.map it)=some os/\O.strs os=true/\O.toDs os=(l.filter p).map h
 | [],_=>⟨[],rfl,rfl,rfl⟩
 |q::l,H=>by
  obtain⟨c,d,e,f⟩:=KP l λp m=>H p<|zzD _ m;obtain⟨a,g,b,j⟩:=H q zzF;cases hp:p q with
  |false=>
   rw[hp]at b;refine⟨c,S6 g b d,e, ?_⟩
   rwa [List.filter_cons_of_neg<|by simp[hp]]
  |true=>
   rw[hp]at b;obtain⟨o,k,i,n⟩:=j hp;refine⟨o::c, ?_,by show(o.str&&O.strs c)=_;rw[i,e];rfl, ?_⟩
   . unfold WT at b;show vP gg tt fe as0 (it q::l.map it)=_;unfold vP;rw[g];show(tt a).bind _=_;rw[b];show((fe a).bind _)=_;rw[k];show(if o.str=true then _ else _)=_;rw[if_pos i,d];rfl
   . rw[List.filter_cons_of_pos hp];show o.toD::O.toDs c=_;rw[n,f];rfl
def MB{os}(h1:fi as=some (xs,as))(hl:xs.length<=1000000)(h2:vP gg tt fe (Rr cap as) xs=some os)(hs:O.strs os=true)(e:O.toDs os=zs):WE (xM fi cap gg tt fe) as (.lst zs):=by
 refine⟨.nd .ls os, ?_,hs,congrArg D.lst e⟩;unfold xM;rw[h1];show(if xs.length<=sizeLine then _ else _)=_;rw[if_pos<|Bv hl,h2];rfl
def Yg(l:List α)(h1:fi as=some (l.map it,as))(hl:l.length<=1000000)(H:∀q ∈ l,∃as1,gg (it q) (Rr cap as)=some as1/\WE fe as1 (h q)):WE (xM fi cap gg Y2 fe) as (.lst<|l.map h):=by
 obtain⟨d,a,b,c⟩:=K9 l H;exact MB h1 (by rwa [zzB]) a b c
def tZ(l:List α)(h1:fi as=some (l.map it,as))(hl:l.length<=1000000)(H:∀q ∈ l,∃as1,gg (it q) (Rr cap as)=some as1/\WT tt as1 (p q)/\(p q=true->WE fe as1 (h q))):WE (xM fi cap gg tt fe) as (.lst<|(l.filter p).map h):=by
 obtain⟨d,a,b,c⟩:=KP l H;exact MB h1 (by rwa [zzB]) a b c
def Rt(r:Option Out)(x:D):Prop:=∃o,r=some (.rt o)/\o.str=true/\o.toD=x
def zM{n m:Nat}{c ds}(hl:ds.length=m)(h:Rt (c<|vX n ds) x):RE (xZ n m c ds) x:=by
 obtain⟨o,a,b,d⟩:=h;exact⟨o,wQ hl a,b,d⟩
def zd{f g}(h1:f as=some (.nx as1))(h2:Rt (g as1) x):Rt (zl f g as) x:=by
 obtain⟨o,e,h⟩:=h2;exact⟨o,zt h1 e,h⟩
def yd{f g}(h1:Rt (f as) x):Rt (zl f g as) x:=by
 obtain⟨o,e,h⟩:=h1;exact⟨o,ZS e,h⟩
def yr{c f g}(h:WT c as true)(h1:Rt (f as) x):Rt (xg c f g as) x:=by
 obtain⟨o,e,a⟩:=h1;exact⟨o,wR h e,a⟩
def zx(h:WE f as x):Rt (zv f as) x:=by
 obtain⟨o,b,a,c⟩:=h;refine⟨o, ?_,a,c⟩;unfold zv;rw[b];show((if o.str=true then some o else none).bind _)=_;rw[if_pos a];rfl
theorem RE.lf(h:r=some (.lf true x)):RE r x:=⟨_,h,rfl,rfl⟩
def Pn{c}(h:WT c as true)(ha:WE a as x):WE (Fg c a b) as x:=by
 obtain⟨o,d,e,f⟩:=ha;exact⟨o,by unfold Fg;rw[h];exact d,e,f⟩
def Tb{c}(h:WT c as false)(hb:WE b as x):WE (Fg c a b) as x:=by
 obtain⟨o,d,e,f⟩:=hb;exact⟨o,by unfold Fg;rw[h];exact d,e,f⟩
def Qw{g}(ha:WE a as x)(hg:g [x]=some (.im z)):WE (fP (aC a aN) g) as z:=WD.e<|Fu ha hg
def Iw{os}(h:WO fd as os)(hl:os.length<=1000000)(hs:O.strs os=true)(e:O.toDs os=zs):WE (yL fd) as (.tup zs):=by
 refine⟨XC os,FH h<|Bv hl, ?_, ?_⟩
 . unfold XC;split
   . exact hs
   . exact hs
 . subst e;unfold XC;split
   . rfl
   . rfl
def qi{os}(h:WE a as x)(hr:WO fd as os):∃o,o.str=true/\o.toD=x/\WO (dC a fd) as (o::os):=by
 obtain⟨o,b,c,d⟩:=h;exact⟨o,c,d,X4 b hr⟩
def Ac(ha:WE a as x):WE (yL<|dC a dN) as (.tup [x]):=by
 obtain⟨o,b,rfl,c⟩:=qi ha ye;exact Iw c ⋯ (by show(o.str&&true)=_;rw[b];rfl) rfl
def xD(ha:WE a as x)(hb:WE b as y):WE (yL<|dC a<|dC b dN) as (.tup [x,y]):=by
 obtain⟨p,c,rfl,d⟩:=qi hb ye;obtain⟨o,e,rfl,f⟩:=qi ha d;exact Iw f ⋯ (by show(o.str&&(p.str&&true))=_;rw[e,c];rfl) rfl
def VO{g}(ha:WE a as x)(hb:WE b as y)(hg:g x y=some (.im z)):WE (f2 a b g) as z:=WD.e<|Ba ha hb hg
end
open AutoSeq1 (wpAny_loadPart')
section
variable{X:Cx}{kd:KD}
def tP(x y:D):Option R0:=A6 (λi j=>if 0<=j/\j<=1000000/\i.natAbs<2 ^ 64 then some (.im<|.int<|i*2 ^ j.toNat)else none) x y
def AY:uP X kd (binaryOp .LShift) tP:=by
 intro pins s σ H x y v u Q I rx ry h;obtain⟨O,d,e,r,ht,vx,vy,he,q⟩:=h;obtain⟨i,j,rfl,rfl,he⟩:=YM vx vy he;obtain⟨c,rfl⟩:=zq he;exact qO pins s σ H _ _ v u Q I rx ry ⟨_,_,rfl,rfl,c,yk q<|.int _⟩
end
section
variable{X:Cx}{kd:KD}
def je(x:D)(lo hi:Option Int):Option R0:=(qP x).bind λxs=>if lo=none/\hi=some (-1)then some (.fl xs.reverse)else none
theorem M0:∀r:List Value,(List.range r.length).filterMap (λk=>r[k]?)=r
 | []=>rfl
 |a::r=>by
  rw[zzT,List.range_succ_eq_map,List.filterMap_cons,List.filterMap_map];show a::(List.range r.length).filterMap (λk=>r[k]?)=_;rw[M0 r]
theorem WX{α β:Type}{f g:α->Option β}:∀{l:List α},(∀a ∈ l,f a=g a)->l.filterMap f=l.filterMap g
 | [],_=>rfl
 |a::l,h=>by rw[List.filterMap_cons,List.filterMap_cons,h a zzF,WX λb hb=>h b<|zzD _ hb]
def IV(l:List Value):slicePick l.toArray none none (some (-1))=l.reverse.toArray:=by
 have e:sliceBounds none none (some (-1)) l.toArray.size=((l.length:Int)-1, -1, -1):=⋯;unfold slicePick;rw[e];have e2:(sliceRange (l.length-1) (-1) (-1))=(List.range l.length).map λk=>l.length-1-k:=by
  unfold sliceRange;rw[if_neg<|by decide]
  rcases Nat.eq_zero_or_pos l.length with h|h
  . rw[h];rfl
  . rw[if_pos ⋯,Int.neg_neg,Int.ediv_one];have:((l.length:Int)-1 - -1 - -1-1).toNat=l.length:=⋯;show List.map _ _=_;rw[this];refine List.map_congr_left λk hk=>?_;have:=List.mem_range.mp hk;omega
 rw[e2]
 congr 1
 rw[List.filterMap_map];have e3:(List.range l.length).filterMap (λk=>l.toArray[l.length-1-k]?)=(List.range l.reverse.length).filterMap (λk=>l.reverse[k]?):=by
  rw[List.length_reverse];refine WX λk hk=>?_;rw[List.getElem?_reverse<|List.mem_range.mp hk];simp
 exact e3.trans<|M0 _
def Do{K O H vs ds}(r:RpL K kd O H vs ds):RpL K kd O H vs.reverse ds.reverse:=RpL.ind (P:=λvs ds=>RpL K kd O H vs.reverse ds.reverse) .nil (λa _ ih=>by
 rw[List.reverse_cons,List.reverse_cons];exact ih.append<|.cons a .nil) r
def sy{e st te th p2 pos}(he:PE X e te)(hst:PO X (some st) th):PE X (.Subscript e (.Slice none none (some st) p2) pos)
 (iH (λx lo u H Q=>∃a xs,x = .ref a/\Pc X.K H a xs/\u=some (-1)/\∀p,H p=none->Q (.ref p) (upd H p<|.lst xs.reverse)) te Su th):=by
 intro pins s σ H Q I h;refine Subscript_<|xU (he pins s σ H _ I h) λv s1 ⟨x,H1,I1,r1,q1⟩=>?_;refine wpAny_Slice ?_;refine zxF<|zxF<|xU (hst pins s1 σ H1 _ I1 q1) λvu s3 ⟨u,H3,I3,pu,q3⟩=>?_;have I4:Inv X pins σ H3 {s3 with heap:=s3.heap.push {cls:=.type "slice",data:=.fields #[.none,.none,vu]}}:=I3.kept (t':=s3.toks) λb ob q=>zxG _ q;obtain⟨a,xs,rfl,hx,rfl,q⟩:=q3;cases r1;obtain⟨its,r',pl,hz⟩:=I4.list hx;have hlen:=r'.length;refine tail_any pl.isList.typeIs slot_list_getitem.lookup (wpAny_getItem_list_slice pl.isList (Heap.IsSliceOf.new ..) .none .none pu (by decide) ?_<|by rw[zzH];exact q0f hlen hz) ⋯;rw[IV];exact⟨.ref _,_,I4.lnew (t':=s3.toks) r'.reverse (by rwa [List.length_reverse]),rfl,q _ I4.fresh⟩
def Oa{a st fa fs pos p2}(ha:AE X kd a fa)(hs:AE X kd st fs):AE X kd (.Subscript a (.Slice none none (some st) p2) pos) (ZY fa oN (oS fs) je):=by with_unfolding_all exact(yb (sy ha<|yD hs) λσ H Q h=>by
 obtain⟨F,B,ad,as,r,as',R,e,q⟩:=h;obtain⟨⟨p,as1⟩,h1,e⟩:=bS_<|e;obtain⟨_,h2,e⟩:=bS_ e;cases h2;obtain⟨⟨u,as3⟩,h3,e⟩:=bS_ e;obtain⟨⟨d,lv⟩,h4,e⟩:=bS_ e;obtain⟨r',h5,e⟩:=bS_ e;obtain⟨z,h6,e⟩:=bS_ e;cases e;obtain⟨xs,h7,h5⟩:=bS_<|h5;obtain⟨c,e5⟩:=zq h5;cases e5;refine xS R h1 λv ad1 H1 R1 rv1 g1=>⟨F,B,ad1,as1,u,_,R1,h3,λad3 H3 R3 g3=>?_⟩;have vx:=xq.vw R3 (rv1.grow g3) h4;have rq:=Zm R3 h6 λw T' H' R' rv' g'=>q w T' ad3 H' R' rv'<|(g1.trans g3).trans g';cases Pg h7;cases vx with
 |lst hr rl=>exact⟨_,_,rfl,hr.sq,c.2,We rq<|Do rl⟩)
end
def DN(n:Nat)(K:zzA)(kd:KD)(F B:Addr->Prop)(ad:Ad)(σ:St)(H:Hp)(D:Ends):Out->Prop
 | .nx as'=>∀σ' ad' H',(∀i,i<n->σ'[i]? = σ[i]?)->Rel K kd F B [] ad' as' σ' H'->Grow (Gw [] ad) H (Gw [] ad') H'->D.nx σ' H'
 | .bk as'=>∀σ' ad' H',(∀i,i<n->σ'[i]? = σ[i]?)->Rel K kd F B [] ad' as' σ' H'->Grow (Gw [] ad) H (Gw [] ad') H'->D.bk σ' H'
 | .ct as'=>∀σ' ad' H',(∀i,i<n->σ'[i]? = σ[i]?)->Rel K kd F B [] ad' as' σ' H'->Grow (Gw [] ad) H (Gw [] ad') H'->D.ct σ' H'
 | .rt _=>False
def bp(n:Nat)(K:zzA)(kd:KD)(f:SF):TS:=λD σ H=>∃F B ad as o,Rel K kd F B [] ad as σ H/\f as=some o/\DN n K kd F B ad σ H D o
@[irreducible] def AP(X:Cx)(kd:KD)(n:Nat)(st:Stmt)(f:SF):Prop:=PS X st<|bp n X.K kd f
@[irreducible] def Jz(X:Cx)(kd:KD)(n:Nat)(st:List Stmt)(f:SF):Prop:=Nv X st<|bp n X.K kd f
def DN.pre{n:Nat}{K ad ad1 D}(s:∀i,i<n->σ1[i]? = σ[i]?)(g:Grow (Gw [] ad) H (Gw [] ad1) H1)(h:DN n K kd F B ad σ H D o):DN n K kd F B ad1 σ1 H1 D o:=by
 cases o with
 |nx as=>exact λσ' ad' H' s' R g'=>h σ' ad' H' (λi hi=>(s' i hi).trans<|s i hi) R (g.trans g')
 |bk as=>exact λσ' ad' H' s' R g'=>h σ' ad' H' (λi hi=>(s' i hi).trans<|s i hi) R (g.trans g')
 |ct as=>exact λσ' ad' H' s' R g'=>h σ' ad' H' (λi hi=>(s' i hi).trans<|s i hi) R (g.trans g')
 |rt _=>exact h
section
variable{X:Cx}{kd:KD}{n:Nat}{e c tg iter:Expr}{st:Stmt}{rest sts body:List Stmt}{fa:EF}{ta:TF}{f g:SF}{pos pos':Pos}
def DJ:Jz X kd n [] xj:=by with_unfolding_all exact(ZQ RO λD σ H h=>by
 obtain⟨F,B,a,as,o,R,e,q⟩:=h;cases e;exact q σ a H (λ_ _=>rfl) R Grow.refl)
def Io(h1:AP X kd n st f)(h2:Jz X kd n rest g):Jz X kd n (st::rest) (zl f g):=by with_unfolding_all exact(ZQ (Yp h1 h2) λD σ H h=>by
 obtain⟨F,B,ad,as,o,R,e,q⟩:=h;obtain⟨o1,e1,e⟩:=bS_<|e;refine⟨F,B,ad,as,o1,R,e1, ?_⟩;cases o1 with
 |nx as1=>exact λσ' ad' H' s' R' g'=>⟨F,B,ad',as1,o,R',e,q.pre s' g'⟩
 |bk as1=>cases e;exact q
 |ct as1=>cases e;exact q
 |rt r=>cases e;exact q)
def Dr(h1:AP X kd n st f):Jz X kd n [st] f:=by with_unfolding_all exact(QM h1)
def pH(hc:AT X kd c ta)(ha:Jz X kd n sts f)(hb:Jz X kd n rest g):AP X kd n (.If c sts rest pos) (xg ta f g):=by with_unfolding_all exact(xm (BG hc ha hb) λD σ H h=>by
 obtain⟨F,B,i,as,o,R,e,q⟩:=h;obtain⟨⟨p,a⟩,j,e⟩:=bS_<|e;refine⟨F,B,i,as,p,a,R,j,λb k d g=>?_⟩;cases p with
 |true=>exact⟨F,B,b,a,o,d,e,q.pre (λ_ _=>rfl) g⟩
 |false=>exact⟨F,B,b,a,o,d,e,q.pre (λ_ _=>rfl) g⟩)
def J5(he:AE X kd e fa)(hs:swapsWith e none pos.line X.env=pure false):AP X kd n (.Expr e pos) (yw fa):=by with_unfolding_all exact(xm (Qv he hs) λD σ H h=>by
 obtain⟨F,B,c,as,o,R,e,q⟩:=h;obtain⟨⟨p,a⟩,d,e⟩:=bS_<|e;cases e;exact⟨F,B,c,as,p,a,R,d,λv j b f i k g=>q σ b f (λ_ _=>rfl) i.drop<|g.trans<|Grow.less Gw.drop⟩)
def uW{i:Nat}(hn:n<=i)(hN:X.N.Nodup)(hi:X.N[i]? = some x)(hx:Loc X.env.scope x)(he:AE X kd e fa)(hs:swapsWith e (some<|.Name x pos') pos.line X.env=pure false)(hf:X.fn x=true\/X.env.scope.names.lookup x=some .local):
 AP X kd n (.Assign [.Name x pos'] e pos) (zr z i fa):=by with_unfolding_all exact(xm (Of hN hi hx he hs hf) λD σ H h=>by
 obtain⟨F,B,c,as,o,R,e,q⟩:=h;obtain⟨⟨p,a⟩,d,e⟩:=bS_<|e;obtain⟨_,j,e⟩:=bS_ e;obtain⟨l,e⟩:=zq e;cases e;refine⟨F,B,c,as,p,a,R,d,λv w m r s t g=>?_⟩;obtain⟨b,R2,u⟩:=ET s t j l;exact q _ b r (λk A=>zzX ⋯) R2<|g.trans<|Grow.less u)
def rg(hS:∀i,i<n->i ∉ S)(hp:PassesOwn (model X.prog X.w) X.A X.env X.xe)(hc:X.calm=true)(hi:AI X kd tg iter fi)(hg:AG X kd tg S gt)(hb:Jz X kd n body f)(hs:∀x,foldedSetIterable iter X.env x=pure x):
 AP X kd n (.For tg iter body [] pos) (y9 fi gt f):=by with_unfolding_all exact(xm (OI hp hc hi hg hb hs) λD σ H h=>by
 obtain⟨F,B,ad,as,o,R,e,q⟩:=h;obtain⟨⟨ds,as1⟩,h1,e⟩:=bS_<|e;refine⟨F,B,ad,as,ds,as1,R,h1,λJ ad1 H1 R1 g1 it=>?_⟩;refine⟨λi m σ2 H2=>m+i=ds.length/\∃ad2 as2,(∀k,k<n->σ2[k]? = σ[k]?)/\Rel X.K kd F B [] ad2 as2 σ2 H2/\Grow _ H1 (Gw [] ad2) H2/\forL gt f (ds.drop i) as2=some o,⟨ds.length,rfl,ad1,as1,λ_ _=>rfl,R1,Grow.refl,e⟩, ?_⟩
 rintro i m σ2 H2 ⟨hm,ad2,as2,s2,R2,g2,e2⟩
 obtain⟨k1,k2,k3⟩:=it.all ad2 H2 g2 R2.trk i
 by_cases hi:i<ds.length
 . refine .inr ⟨k1 hi,λσ3 H3=>∃ad3 as3,_/\Rel X.K kd F B [] ad3 as3 σ3 H3/\Grow _ H1 _ H3/\forL gt f _ as3=some o,λσ3 H3 ⟨ad3,as3,s3,R3,g3,e3⟩=>⟨m-1,⋯,⋯,ad3,as3,s3,R3,g3,e3⟩,λv H3 hy=>?_⟩;obtain⟨kp,rp⟩:=k3 v H3 hy;rw[zyP hi]at e2;obtain⟨as3,e3,e2⟩:=bS_<|e2;obtain⟨o3,e4,e2⟩:=bS_ e2;obtain⟨R3,g3⟩:=R2.more kp;refine⟨F,B,ad2,as2,_,as3,R3,rp _ ⋯,e3,λσ4 ad4 H4 R4 g4 s4=>?_⟩;refine⟨F,B,ad4,as3,o3,R4,e4, ?_⟩;have gg:=(g2.trans g3).trans g4;have s4':∀k,k<n->σ4[k]? = σ[k]? := λk hk=>(s4 k<|hS k hk).trans<|s2 k hk;cases o3 with
   |nx as5=>exact λσ5 ad5 H5 s5 R5 g5=>⟨ad5,as5,λk hk=>(s5 k hk).trans<|s4' k hk,R5,gg.trans g5,e2⟩
   |ct as5=>exact λσ5 ad5 H5 s5 R5 g5=>⟨ad5,as5,λk hk=>(s5 k hk).trans<|s4' k hk,R5,gg.trans g5,e2⟩
   |bk as5=>
    cases e2;exact λσ5 ad5 H5 s5 R5 g5=>q σ5 ad5 H5 (λk hk=>(s5 k hk).trans<|s4' k hk) R5 (g1.trans<|gg.trans g5)
   |rt r=>cases e2;exact q.elim
 . refine .inl ⟨k2 ⋯, ?_⟩;rw[List.drop_eq_nil_of_le ⋯]at e2;cases e2;exact q σ2 ad2 H2 s2 R2<|g1.trans g2)
end
section
variable{K:zzA}{kd:KD}{F B:Addr->Prop}{ad:Ad}{as:AS}{σ:St}{H H':Hp}
def G1(G:Addr->Prop)(T T':List Addr):Addr->Prop:=λa=>(G a/\a ∉ T)\/a ∈ T'
def Rel.chg1{i:Nat}(R:Rel K kd F B [] ad as σ H)(hi:i<as.length)(s0:σ[i]? = some (some v0))(nd:T0.Nodup)
 (sub:∀a ∈ T0,a ∈ ad i\/H a=none) (kp:∀c u,H c=some u->c ∉ ad i->H' c=some u) (al:∀a ∈ T0,H' a≠none)
 (r0:vN K kd F B (G1 (Gw [] ad) (ad i) T0) H' v0 o0 T0):
 Rel K kd F B [] (Zt ad i T0) (as.set i<|some o0) σ H'/\Grow (Gw [] ad) H (Gw []<|Zt ad i T0) H':=by
 have v:Zt ad i T0 i=T0:=zZ;have q:∀k,k≠i->Zt ad i T0 k=ad k:=λk h=>ya h;have r:∀k a,k≠i->a ∈ ad k->a ∉ ad i:=λk a h m z=>h<|R.inj k i a m z;have C:∀a,Gw [] (Zt ad i T0) a->G1 (Gw [] ad) _ T0 a:=λa z=>by
  rcases z with z|⟨k,z⟩
  . exact nomatch z
  . by_cases e:k=i
    . subst e;rw[v]at z;exact .inr z
    . rw[q k e]at z;exact .inl ⟨.inr ⟨k,z⟩,r k a e z⟩
 have A:=λk a h m z=>(sub a z).elim (r k a h m) λy=>(R.gtr a<|.inr ⟨k,m⟩).1 y;have g:Grow _ H _ H':=⟨λb o h n=>kp b o h λz=>n<|.inr ⟨i,z⟩,λb z=>(C b z).elim (λy=>.inl y.1) λy=>(sub b y).elim (λx=>.inl<|.inr ⟨i,x⟩) .inr⟩;have D:∀a,H a≠none->a ∉ ad i->H' a≠none:=λa h n=>by
  cases e:H a with
  |none=>exact absurd e h
  |some u=>rw[kp a u e n];simp
 have d:∀a,a ∈ ad i->Gw [] ad a:=λa z=>.inr ⟨i,z⟩;refine⟨⟨by rw[zzU];exact R.len,λk I=>?_,λk=>?_,λk l a j p=>?_,zyI,(λ_ _ _ z=>nomatch z),λa z=>D a (R.ftr a z) λy=>(R.gtr a<|d a y).2 z,λa z=>?_,λa z=>?_,λk s e=>?_⟩,g⟩
 . rw[zzU]at I;rw[q k ⋯];exact R.out k I
 . by_cases e:k=i
   . subst e;rwa [v]
   . rw[q k e];exact R.nd k
 . by_cases e:k=i
   . subst e;rw[v]at j
     by_cases E:l=k
     . exact E.symm
     . rw[q l E]at p;exact absurd j<|A l a E p
   . rw[q k e]at j
     by_cases t:l=i
     . subst t;rw[v]at p;exact absurd p<|A k a e j
     . rw[q l t]at p;exact R.inj k l a j p
 . obtain⟨j,p,G⟩:=R.btr a z;refine⟨D a j λy=>G<|d a y,p,λy=>(C a y).elim (λx=>G x.1) λx=>(sub a x).elim (λw=>G<|d a w) j⟩
 . rcases C a z with⟨y,n⟩|y
   . exact⟨D a (R.gtr a y).1 n,(R.gtr a y).2⟩
   . exact⟨al a y,(sub a y).elim (λw=>(R.gtr a<|d a w).2) λw f=>R.ftr a f w⟩
 . by_cases t:k=i
   . subst t;rw[zyJ hi]at e;cases e;rw[v];exact⟨v0,s0,vN.lv (λJ a z=>z.imp id<|C a) r0⟩
   . rw[zzX λz=>t z.symm]at e;rw[q k t];exact(R.sl k s e).grow g λa m u h=>kp a u h<|r k a t m
end
def FS(K:zzA)(kd:KD)(g:List wB->O->Option O):Sp:=λvs H Q _=>∃(F B G:Addr->Prop) (T:List Addr) (ws:List V) (v:V) (xs:List wB) (o r:O),vs=ws++[v]/\(∀a,F a->H a≠none)/\(∀a,B a->H a≠none/\¬F a/\¬G a)/\(∀a,G a->H a≠none/\¬F a)/\
 T.Nodup/\(∀a ∈ T,G a)/\RpI K kd F B G H ws xs/\vN K kd F B G H v o T/\g xs o=some r/\
 ∀(H':Hp) (T':List Addr),(∀c u,H c=some u->c ∉ T->H' c=some u)->T'.Nodup->(∀a ∈ T',a ∈ T\/H a=none)->(∀a ∈ T',H' a≠none)->vN K kd F B (G1 G T T') H' v r T'->Q .non H'
def MY(i:Nat):List RV->Option (List wB)
 | []=>none
 |r::rs=>match r with
  | .bo j=>if j=i/\rs.isEmpty=true then some []else none
  | .ow (.lf st d)=>(MY i rs).bind λxs=>some ((st,d)::xs)
  | .ow (.nd _ _)=>none
theorem MI{K ad}{i:Nat}:∀{rs:List RV}{vs:List V}{xs:List wB},RVs K kd F B ad σ H vs rs->MY i rs=some xs->∃ws v,vs=ws++[v]/\RpI K kd F B (Gw [] ad) H ws xs/\σ[i]? = some (some v)
 | [],_,_,_,e=>by cases e
 |r::rs,_,xs,h,e=>by
  cases h with
  |cons hv hr=>
   rename_i v vs;cases r with
   |bo j=>
    obtain⟨⟨e1,e2⟩,e3⟩:=zq e;cases e3;rw[List.isEmpty_iff]at e2;subst e1 e2;cases hr;exact⟨[],v,rfl,.nil,hv.2⟩
   |ow o=>
    cases o with
    |lf st d=>
     obtain⟨ys,e1,e⟩:=bS_<|e;cases e;obtain⟨ws,w,rfl,h1,h2⟩:=MI hr e1;cases hv with
     |lf rp=>exact⟨v::ws,w,rfl,.cons rp h1,h2⟩
    |nd k os=>cases e
def Yc(i:Nat)(fr:AF)(g:List wB->O->Option O):SF:=λas=>(fr as).bind λp=>(MY i p.1).bind λxs=>(p.2[i]?).bind λa=>a.bind λo=>(g xs o).bind λr=>some<|.nx<|p.2.set i<|some r
section
variable{X:Cx}{kd:KD}{e:Expr}{es:List Expr}{fr:AF}{pos pos':Pos}
def Me{n i k:Nat}{f}(F:FnOk X.prog X.w X.K X.mg X.base Ys k f fdt ps (FS X.K kd g))(hr:Room k X.A)(hg:Gl X x)(hm:X.mg x=some (.ref f))(hk:W.keepIn X.K (.ref f)=true)
 (hb:Binds X.K fdt ps []) (hx:vF Ys X (λ_ _ _=>False)) (ha:AA X kd (e::es) fr) (hdb:(x==("__debug__":Str))=false) (he:starEach (e::es) X.env=(false,eval e X.env)::starEach es X.env) (hpl:(backTo pos<|starEach es X.env).any (·.1)=false)
 (hs:swapsWith (.Call (.Name x p) (e::es) [] pos) none pos'.line X.env=pure false):
 AP X kd n (.Expr (.Call (.Name x p) (e::es) [] pos) pos') (Yc i fr g):=by
 with_unfolding_all exact(xm (Qv (Nz F hr hg hm hk hb .nil hx ha hdb he hpl) hs) λD σ H h=>by
  obtain⟨F,B,I,as,o,R,e,q⟩:=h;obtain⟨⟨J,d⟩,L,M⟩:=bS_<|e;obtain⟨N,P,Q⟩:=bS_ M;obtain⟨a,z,S⟩:=bS_ Q;obtain⟨T,U,V⟩:=bS_ S;obtain⟨r,j,Y⟩:=bS_ V;subst U;have l:=zzY Y;refine(⟨F,B,I,as,J,d,R,L,λvs c Z b s g1=>?_⟩);obtain⟨C,v,rfl,t,E⟩:=MI s P;obtain⟨w0,G,u⟩:=b.sl i _ z;rw[E]at G;cases G;rw[zyD];refine⟨F,B,Gw [] c,c i,C,v,N,T,r,rfl,b.ftr,b.btr,b.gtr,b.nd i,λa m=>.inr ⟨i,m⟩,t,u,j,λH' T' kp nd y al r0=>?_⟩;obtain⟨R3,g3⟩:=b.chg1 (zzG.mp z).1 E nd y kp al r0;subst l;exact q σ _ _ (λ_ _=>rfl) R3<|g1.trans g3)
def OL{i k:Nat}(F:FnOk X.prog X.w X.K X.mg X.base Ys k f fdt ps (FS X.K kd g))(hr:Room k X.A)(hg:Gl X x)(hm:X.mg x=some (.ref f))(hk:W.keepIn X.K (.ref f)=true)
 (hb:Binds X.K fdt ps []) (hx:vF Ys X (λ_ _ _=>False)) (ha:AA X kd (e::es) fr) (hdb:(x==("__debug__":Str))=false) (he:starEach (e::es) X.env=(false,eval e X.env)::starEach es X.env) (hpl:(backTo pos<|starEach es X.env).any (·.1)=false)
 (hs:swapsWith (.Call (.Name x p) (e::es) [] pos) none pos'.line X.env=pure false):
 Ld X kd (.Expr (.Call (.Name x p) (e::es) [] pos) pos') (Yc i fr g):=by
 have h:=Me (n:=0) (i:=i) F hr hg hm hk hb hx ha hdb he hpl hs
 with_unfolding_all exact(xm h λD σ H h=>by
  obtain⟨F,B,ad,as,o,R,e,q⟩:=h;refine⟨F,B,ad,as,o,R,e, ?_⟩;cases o with
  |nx as'=>exact λσ' ad' H' _ R' g'=>q σ' ad' H' R' g'
  |bk as'=>exact λσ' ad' H' _ R' g'=>q σ' ad' H' R' g'
  |ct as'=>exact λσ' ad' H' _ R' g'=>q σ' ad' H' R' g'
  |rt r=>
   obtain⟨_,h1,e1⟩:=bS_<|e;obtain⟨xs,h2,e2⟩:=bS_ e1;obtain⟨a,ka,e3⟩:=bS_ e2;obtain⟨o0,qa,e4⟩:=bS_ e3;obtain⟨r,hgr,e5⟩:=bS_ e4;cases e5)
end
def br(n:Nat)(K:zzA)(kd:KD)(f:SF):TS:=λD σ H=>∃F B ad as as',Rel K kd F B [] ad as σ H/\f as=some (.nx as')/\∀σ' ad' H',(∀i,i<n->σ'[i]? = σ[i]?)->Rel K kd F B [] ad' as' σ' H'->Grow (Gw [] ad) H (Gw [] ad') H'->D.nx σ' H'/\D.rt .non H'
@[irreducible] def jt(X:Cx)(kd:KD)(n:Nat)(st:List Stmt)(f:SF):Prop:=Nv X st<|br n X.K kd f
section
variable{X:Cx}{kd:KD}{n:Nat}{c:Expr}{st:Stmt}{rest:List Stmt}{ta:TF}{f g:SF}{pos pos':Pos}
def SN(hc:AT X kd c ta)(ha:AP X kd n st f)(hb:Jz X kd n rest g):jt X kd n (.If c [st,.Return none pos'] [] pos::rest) (xg ta f g):=by
 with_unfolding_all exact(ZQ (Yp (BG hc (Yp ha<|QM J4) RO) hb) λD σ H h=>by
  obtain⟨F,B,r,as,s,R,e,q⟩:=h;obtain⟨⟨p,a⟩,t,e⟩:=bS_<|e;refine⟨F,B,r,as,p,a,R,t,λd u m o=>?_⟩;cases p with
  |true=>exact⟨F,B,d,a,_,m,e,λi b j k R2 l=>(q i b j k R2<|o.trans l).2⟩
  |false=>exact⟨F,B,d,a,_,m,e,λi b j k R2 l=>(q i b j k R2<|o.trans l).1⟩)
end
def VX(n:Nat)(xs:List wB)(o:O):AS:=(xs.map λx=>some<|O.lf x.1 x.2)++some o::List.replicate (n-(xs.length+1)) none
def gL(n m:Nat)(c:SF)(xs:List wB)(o:O):Option O:=if xs.length+1=m then(c<|VX n xs o).bind λout=>match out with
 | .nx as=>(as[xs.length]?).bind id
 |_=>none
 else none
def tK(k:Nat)(T:List Addr):Ad:=λi=>if i=k then T else[]
def Ug{k:Nat}:Gw [] (tK k T) a ↔ a ∈ T:=by
 constructor
 . rintro(z|⟨i,z⟩)
   . exact nomatch z
   . unfold tK at z
     by_cases e:i=k
     . rwa [if_pos e]at z
     . rw[if_neg e]at z;exact nomatch z
 . intro z;exact .inr ⟨k,by unfold tK;rwa [if_pos rfl]⟩
theorem RP{K}:∀{vs:List V}{xs:List wB},RpI K kd F B G H vs xs->vs.length=xs.length
 |_,_,.nil=>rfl
 |_,_,.cons _ h=>congrArg Nat.succ<|RP h
theorem Sa{K}:∀{vs:List V}{xs:List wB}{i:Nat}{x:wB},RpI K kd F B G H vs xs->xs[i]? = some x->∃v,vs[i]? = some v/\Rp K kd (Lv F B G x.1) H v x.2
 |_,_,i,x,.nil,e=>by cases e
 |_,_,0,x,.cons r h,e=>by cases e;exact⟨_,rfl,r⟩
 |_,_,i+1,x,.cons r h,e=>Sa (i:=i) h e
def Be{K}(hN:xs.length+1<=N.length)(ht:∀a,F a->H a≠none)(hB:∀a,B a->H a≠none/\¬F a/\¬G a)(hG:∀a,G a->H a≠none/\¬F a)(nd:T.Nodup)(hT:∀a ∈ T,G a)
 (rpi:RpI K kd F B G H ws xs) (r0:vN K kd F B G H v o T):Rel K kd F (λa=>B a\/(G a/\a ∉ T)) [] (tK xs.length T) (VX N.length xs o) (L2.start N<|ws++[v]) H:=by
 have d:=RP rpi;have k:∀c a,Lv F (λa=>B a\/(G a/\a ∉ T)) (Gw []<|tK xs.length T) c a->Lv F B G c a:=λc a z=>by
  rcases z with(z|z|z)|z
  . exact .inl<|.inl z
  . exact .inl<|.inr z
  . exact .inr z.1
  . exact .inr<|hT a<|Ug.mp z
 have b:∀i,i≠xs.length->tK xs.length T i=[]:=λi h=>if_neg h;have f:tK xs.length T xs.length=T:=if_pos rfl;have l:(VX N.length xs o).length=N.length:=by unfold VX;simp;omega
 have c:L2.start N (ws++[v])=ws.map some++some v::List.replicate (N.length-(xs.length+1)) none:=by
  unfold L2.start;simp[d]
 refine⟨by rw[l,c];simp[d];omega,λi t=>b i (by omega),λi=>?_,λi j a x y=>?_,zyI,(λ_ _ _ z=>nomatch z),ht,λa z=>?_,λa z=>hG a<|hT a<|Ug.mp z,λi s e=>?_⟩
 . by_cases h:i=xs.length
   . subst h;rwa [f]
   . rw[b i h];exact zyI
 . by_cases h:i=xs.length
   . by_cases g:j=xs.length
     . rw[h,g]
     . rw[b j g]at y;exact nomatch y
   . rw[b i h]at x;exact nomatch x
 . rcases z with z|z
   . exact⟨(hB a z).1,(hB a z).2.1,λy=>(hB a z).2.2<|hT a<|Ug.mp y⟩
   . exact⟨(hG a z.1).1,(hG a z.1).2,λy=>z.2<|Ug.mp y⟩
 . rw[c];unfold VX at e
   by_cases h:i<xs.length
   . rw[zyO (by rwa [zzB]),zzI]at e;obtain⟨x,m,rfl⟩:=zzW.mp e;obtain⟨u,n,p⟩:=Sa rpi m;rw[b i (by omega),zyO (by rwa [zzB,d]),zzI,n];exact⟨u,rfl,.lf<|p.less<|k x.1⟩
   . rw[zyQ (by rw[zzB];exact q0B d h),zzB]at e;rw[zyQ (by rw[zzB,d];exact q0B d h),zzB,d]
     by_cases g:i=xs.length
     . subst g;rw[Nat.sub_self]at e ⊢;cases e;rw[f];exact⟨v,rfl,vN.lv k r0⟩
     . rw[b i g];obtain⟨j,q⟩:∃j,i-xs.length=j+1:=⟨i-xs.length-1,by omega⟩;rw[q]at e;have e:=e;have r:=(List.mem_replicate.mp<|zzZ e).2;subst r;rfl
section
variable{P:Program}{w:World}{K:zzA}{mg:Str->Option Value}{base:Heap}
def u5{kd st}{k:Nat}(Fn:Fun K x qual st f fd)(S:FnScope N ps (zR st))(hN:ps.length<=N.length)
 (hb:∀(cdv:Value) (A:Around) (outer:List Env) (s:Shared) (H:Hp) (E:XK),Room k (A.deeper<|envOfC qual (zR st) s.heap.objs.size f cdv)->jt (RA Ys P w K mg base N qual (zR st) f cdv A outer s H E).nox kd ps.length (v7 st) c):
 FnOk P w K mg base Ys (k+1) f fd ps (FS K kd<|gL N.length ps.length c):=by
 with_unfolding_all (
 refine Fn.ok S (λX H Q E h=>?_) λy A j s H X Q E Y h=>⟨_,hb y A j s H E Y, ?_⟩
 . obtain⟨F,B,G,T,I,v,d,o,r,rfl,J,L,M,nd,O,i,U,e,q⟩:=h;unfold gL at e
   by_cases p:d.length+1=ps.length
   . rwa [zzJ,RP i]
   . rw[if_neg p]at e;cases e
 . obtain⟨F,B,G,T,I,v,d,o,r,rfl,J,L,M,nd,O,i,U,e,q⟩:=h;unfold gL at e
   by_cases p:d.length+1=ps.length
   . rw[if_pos p]at e;obtain⟨C,Z,V⟩:=bS_ e;cases C with
     |nx as=>
      obtain⟨a,k0,e3⟩:=bS_ V;have e4:=e3;subst e4;refine⟨F,_,_,VX N.length d o,as,Be ⋯ J L M nd O i U,Z,λσ' b H' sp R g=>?_⟩;obtain⟨u0,W,t0⟩:=R.sl d.length _ k0;rw[sp d.length ⋯]at W;have sv:(L2.start N<|I++[v])[d.length]? = some (some v):=by
       have wl:=RP i;unfold L2.start;rw[<-wl];simp
      cases(sv.symm.trans W);have l:∀a,a ∈ b d.length->Gw [] b a:=λa z=>.inr ⟨_,z⟩;have lv:∀D a,Lv F B (G1 G T _) D a->Lv F (λa=>B a\/_) _ D a:=λD a z=>by
       rcases z with(z|z)|z|z
       . exact .inl<|.inl z
       . exact .inl<|.inr<|.inl z
       . exact .inl<|.inr<|.inr z
       . exact .inr<|l a z
      have t:=q H' _ (λc u h n=>g.keep c u h λz=>n<|Ug.mp z) (R.nd _) (λa m=>(g.own a<|l a m).imp Ug.mp id) (λa m=>(R.gtr a<|l a m).1)<|vN.lv lv t0;exact⟨t,t⟩
     |_=>cases V
   . rw[if_neg p]at e;cases e)
end
def Ko(i:Nat)(f:EJ)(fv:EF):SF:=λas=>(fv as).bind λp=>(ko p.1).bind λc=>(f p.2).bind λk=>if 0<=k then(BH TN p.2 i).bind λos=>(S5 QI os k.toNat).bind λ_=>some (.nx<|p.2.set i<|some<|.nd .ls<|os.set k.toNat<|.lf true<|.int c)else none
def Uk(i:Nat)(f1 f2:EJ)(fv:EF):SF:=λas=>(fv as).bind λp=>(ko p.1).bind λc=>(f1 p.2).bind λk1=>(f2 p.2).bind λk2=>if 0<=k1/\0<=k2 then(BH TN p.2 i).bind λos=>(S5 TN os k1.toNat).bind λinner=>(S5 QI inner k2.toNat).bind λ_=>some (.nx<|p.2.set i<|some<|.nd .ls<|os.set k1.toNat<|.nd .ls<|inner.set k2.toNat<|.lf true<|.int c)else none
section
variable{X:Cx}{kd:KD}{f f1 f2:EJ}{fv:EF}{e1 e2 ev:Expr}{i:Nat}
def JO(ho:PE X (.Name x p) (Y1 i))(h1:AK X kd e1 f)(hv:AE X kd ev fv)
 (ha:∀v,assign (.Subscript (.Name x p) e1 tpos) X.env v=(do
  let ov <-holding [v] (eval (.Name x p) X.env);let iv <-holding [v,ov] (eval e1 X.env)
  standAt tpos
  holding [v,ov,iv] (setItem ov iv v)
  release [v,ov,iv] []))
 (hs:swapsWithSole [.Subscript (.Name x p) e1 tpos] ev pos.line X.env=pure false) (hw:swappedStores [.Subscript (.Name x p) e1 tpos] ev X.env=pure none)
 (hm:(assignEach [.Subscript (.Name x p) e1 tpos] X.env).map (·.2)=[assign (.Subscript (.Name x p) e1 tpos) X.env]):
 Ld X kd (.Assign [.Subscript (.Name x p) e1 tpos] ev pos) (Ko i f fv):=by
 with_unfolding_all exact(xm (Lw hv (Od ho h1 set_list ha) hs hw hm) λD σ H h=>by
  obtain⟨F,B,ad,as,o,R,e,q⟩:=h;obtain⟨⟨pv,as1⟩,h1,e1⟩:=bS_<|e;obtain⟨c,j2,e2⟩:=bS_ e1;obtain⟨k,j1,e3⟩:=bS_ e2;obtain⟨hk,e4⟩:=ite_some' e3;obtain⟨os,e5,e6⟩:=bS_ e4;obtain⟨d,e7,e8⟩:=bS_ e6;have k1:=nu e5;obtain⟨st,k2⟩:=lE e7;cases e8;obtain⟨st',rfl⟩:=Fl j2;refine xS R h1 λu ad1 H1 R1 rv1 g1=>?_;have hv:=rv1;cases hv with
  |lf rp=>
   cases rp;obtain⟨v,sv,ro,hn,hG,up⟩:=R1.slotU k1;obtain⟨p,ivs,rfl,hp,hH,hl,ro'⟩:=BO c ro hn hG k2;obtain⟨R2,g2⟩:=up p _ _ hp ro';exact⟨_,sv,F,B,ad1,as1,k,R1,j1,p,ivs,k,k.toNat,rfl,rfl,hH,Sv hk hl,q σ ad1 _ R2<|g1.trans g2⟩)
def O_(ho:PE X (.Name x p) (Y1 i))(h1:AK X kd e1 f1)(hp1:Qb e1)(h2:AK X kd e2 f2)(hv:AE X kd ev fv)
 (ha:∀v,assign (.Subscript (.Subscript (.Name x p) e1 p1) e2 tpos) X.env v=(do
  let ov <-holding [v] (eval (.Subscript (.Name x p) e1 p1) X.env);let iv <-holding [v,ov] (eval e2 X.env)
  standAt tpos
  holding [v,ov,iv] (setItem ov iv v)
  release [v,ov,iv] []))
 (hs:swapsWithSole [.Subscript (.Subscript (.Name x p) e1 p1) e2 tpos] ev pos.line X.env=pure false) (hw:swappedStores [.Subscript (.Subscript (.Name x p) e1 p1) e2 tpos] ev X.env=pure none)
 (hm:(assignEach [.Subscript (.Subscript (.Name x p) e1 p1) e2 tpos] X.env).map (·.2)=[assign (.Subscript (.Subscript (.Name x p) e1 p1) e2 tpos) X.env]):
 Ld X kd (.Assign [.Subscript (.Subscript (.Name x p) e1 p1) e2 tpos] ev pos) (Uk i f1 f2 fv):=by
 with_unfolding_all exact(xm (Lw hv (Od (OY NR ho h1 hp1) h2 set_list ha) hs hw hm) λD σ H h=>by
  obtain⟨F,B,ad,as,o,R,e,q⟩:=h;obtain⟨⟨pv,as1⟩,h1,e1⟩:=bS_<|e;obtain⟨c,j3,e2⟩:=bS_ e1;obtain⟨n1,j1,e3⟩:=bS_ e2;obtain⟨n2,j2,e4⟩:=bS_ e3;obtain⟨⟨hk1,hk2⟩,e5⟩:=ite_some' e4;obtain⟨os,e6,e7⟩:=bS_ e5;obtain⟨inner,e8,e9⟩:=bS_ e7;obtain⟨d,e10,e11⟩:=bS_ e9;have k1:=nu e6;have k2:=jD e8;obtain⟨st,k3⟩:=lE e10;cases e11;obtain⟨st',rfl⟩:=Fl j3;refine xS R h1 λu ad1 H1 R1 rv1 g1=>?_;have hv:=rv1;cases hv with
  |lf rp=>
   cases rp;obtain⟨v,sv,ro,hn,hG,up⟩:=R1.slotU k1;obtain⟨l,vs,w,fw,rfl,hH,hvs,rw1,fn,fs,up1⟩:=tB ro hn hG k2;obtain⟨p,ivs,rfl,hp,hHp,hl,ro'⟩:=BO c rw1 fn (λa m=>hG a<|fs a m) k3;obtain⟨R2,g2⟩:=up p _ _ (fs p hp)<|up1 p _ _ hp ro';exact⟨_,sv,F,B,ad1,as1,n1,R1,j1,l,vs,n1,_,rfl,rfl,.inl<|.inl hH,JJ hk1 hvs,F,B,ad1,as1,n2,R1,j2,p,ivs,n2,n2.toNat,rfl,rfl,hHp,Sv hk2 hl,q σ ad1 _ R2<|g1.trans g2⟩)
end
section
variable{X:Cx}{kd:KD}{n:Nat}
def jm(z)(i:Nat)(hn:n<=i)(hN:X.N.Nodup)(he:AE X kd e fa)(hi:X.N[i]? = some x:=by rfl)(hx:Loc X.env.scope x:=by first|exact Or.inl rfl|exact Or.inr rfl)(hs:swapsWith e (some<|.Name x pos') pos.line X.env=pure false:=by rfl)(hf:X.fn x=true\/X.env.scope.names.lookup x=some .local:=by first|exact Or.inl rfl|exact Or.inr rfl):
 AP X kd n (.Assign [.Name x pos'] e pos) (zr z i fa):=uW hn hN hi hx he hs hf
end
section
variable{P:Program}{w:World}{K:zzA}{mg:Str->Option Value}{base:Heap}{kd:KD}
def IX{k:Nat}:FnOk P w K mg base Ys k f fd ps (FS K kd λ_ _=>none):=
 ⟨λc H Q E h=>(by obtain⟨_,_,_,_,_,_,_,_,_,_,_,_,_,_,_,_,_,e,_⟩:=h;cases e),λA a s H b d c Q E _ _ _ _ h=>(by obtain⟨_,_,_,_,_,_,_,_,_,_,_,_,_,_,_,_,_,e,_⟩:=h;cases e)⟩
end
def N4(f:EF):EF:=λas=>(f as).bind λp=>some (p.1.frz,p.2)
def Vu(h:AE X kd e fa):AE X kd e (N4 fa):=by with_unfolding_all exact(yb h λσ H Q q=>by
 obtain⟨F,B,ad,as,r,as',R,e,k⟩:=q;obtain⟨⟨p,as1⟩,h1,e⟩:=bS_<|e;cases e;exact⟨F,B,ad,as,p,as1,R,h1,λv T' ad' H' R' rv g=>k v [] ad' H' R'.drop (xq.drop R' rv)<|g.trans<|Grow.less Gw.drop⟩)
section
variable{X:Cx}{kd:KD}{P:Program}{w:World}{K:zzA}{a b e o:Expr}{es:List Expr}{fa fb fo:EF}{fr:AF}{fd_:DF}{pos p apos:Pos}{k n:Nat}
def pf(h1:sc.kind = .function:=by rfl)(h2:sc.isCoroutine=false:=by rfl)(h3:sc.isGenerator=false:=by rfl)(h4:N.Nodup:=by decide +kernel)(h5:N.take Ps.length=Ps:=by rfl)(h6:∀x ∈ Ps,sc.names.lookup x=some .local\/sc.names.lookup x=some .cell:=by decide +kernel)(h7:∀y ∈ sc.names,y.2 ≠ .free:=by decide +kernel):FnScope N Ps sc:=⟨h1,h2,h3,h4,h5,h6,h7⟩
def bc(ha:AE X kd a fa)(hr:AA X kd es fr)(hs:isStar a=false:=by rfl):AA X kd (a::es) (aC fa fr):=Au ha hr<|KU hs
def bd(ha:AE X kd a fa)(hr:AD X kd es fd_)(hs:isStar a=false:=by rfl):AD X kd (a::es) (dC fa fd_):=J3 ha hr<|KU hs
def bn{op}(ha:AE X kd a fa)(hb:AE X kd b fb):AE X kd (.BinOp a op b pos) (f2 fa fb<|YV op):=O0 (sh op) ha hb
def tc{op}(hkd:q_ P w K kd)(hr:Room k X.A)(ha:AE X kd a fa)(hb:AE X kd b fb)(h1:X.prog=P:=by rfl)(h2:X.w=w:=by rfl)(h3:X.K=K:=by rfl)(hm:behindInMarks op b=false:=by exact Ca _):AT X kd (.Compare a [op] [b] pos) (fT<|f2 fa fb<|zw op):=sr (L6 (hkd _ h1 h2 h3) (SI hr) op) (Am op) ha hb hm
def ec{op}(hkd:q_ P w K kd)(hr:Room k X.A)(ha:AE X kd a fa)(hb:AE X kd b fb)(h1:X.prog=P:=by rfl)(h2:X.w=w:=by rfl)(h3:X.K=K:=by rfl)(hm:behindInMarks op b=false:=by exact Ca _):AE X kd (.Compare a [op] [b] pos) (f2 fa fb<|zw op):=sA (L6 (hkd _ h1 h2 h3) (SI hr) op) ha hb hm
def fd(hc:CF X.K kd cs f)(ha:AE X kd a fa)(hb:attributeBase a f X.env (eval a X.env)=eval a X.env:=by rfl):AE X kd (.Attribute a f pos) (f1 fa<|zP cs f):=rC hc ha hb
def bi{id}(hc:Z8 X kd (.builtin id) gg)(hm:X.mg x=none)(hv:bootBuiltins x=some (.builtin id))(ha:AA X kd (e::es) fr)(hg:Gl X x:=by rfl)(hn:x≠"__name__":=by exact Bt.n _ rfl)(hdb:(x==("__debug__":Str))=false:=by decide)
 (he:starEach (e::es) X.env=(false,eval e X.env)::starEach es X.env:=by rfl) (hpl:(backTo pos<|starEach es X.env).any (·.1)=false:=by rfl):AE X kd (.Call (.Name x p) (e::es) [] pos) (fP fr gg):=sY hc hg hm hv ha hn hdb he hpl
def D5(hc:Z8 X kd (.type T) gg)(hm:X.mg x=none)(hv:bootBuiltins x=some (.type T))(ha:AA X kd (e::es) fr)(hg:Gl X x:=by rfl)(hn:x≠"__name__":=by exact Bt.n _ rfl)(hdb:(x==("__debug__":Str))=false:=by decide)
 (he:starEach (e::es) X.env=(false,eval e X.env)::starEach es X.env:=by rfl) (hpl:(backTo pos<|starEach es X.env).any (·.1)=false:=by rfl):AE X kd (.Call (.Name x p) (e::es) [] pos) (fP fr gg):=qH hc hg hm hv ha hn hdb he hpl
def sj(i:Nat){rest}(hN:X.N.Nodup)(he:AE X kd e fa)(h2:Sx X kd rest g)(hi:X.N[i]? = some x:=by rfl)(hx:Loc X.env.scope x:=by first|exact Or.inl rfl|exact Or.inr rfl)(hs:swapsWith e (some<|.Name x pos') pos.line X.env=pure false:=by rfl)(hf:X.fn x=true\/X.env.scope.names.lookup x=some .local:=by first|exact Or.inl rfl|exact Or.inr rfl):
 Sx X kd (.Assign [.Name x pos'] e pos::rest) (zl (zr z i fa) g):=yM (IY hN hi hx he hs hf) h2
def mt(hT:MT X.prog X.w X.K X.mg X.base kd m k tbl)(hr:Room n X.A)(ho:AE X kd o fo)(ha:AA X kd (e::es) fr)
 (ht:eval (.Call (.Attribute o m apos) (e::es) [] pos) X.env=(do
  let ov <-eval o X.env
  standAt apos.atName
  let(f,first) <-holding [ov] (getMethod ov m pl)
  callWith pos f first (backTo pos<|starEach (e::es) X.env) (backToKw pos<|keywordEach [] X.env)))
 (hn:k<=n:=by omega) (hst:starEach (e::es) X.env=(false,eval e X.env)::starEach es X.env:=by rfl) (hpl:(backTo pos<|starEach es X.env).any (·.1)=false:=by rfl):
 AE X kd (.Call (.Attribute o m apos) (e::es) [] pos) (y_ tbl m fo fr):=qr hT (hr.mono hn) vO ho ha hst hpl ht
def gh(hT:MT X.prog X.w X.K X.mg X.base kd m k tbl)(hr:Room n X.A)(ho:AE X kd o fo)
 (ht:eval (.Call (.Attribute o m apos) [] [] pos) X.env=(do
  let ov <-eval o X.env
  standAt apos.atName
  let(f,first) <-holding [ov] (getMethod ov m pl)
  callWith pos f first (backTo pos<|starEach [] X.env) (backToKw pos<|keywordEach [] X.env)))
 (hn:k<=n:=by omega):AE X kd (.Call (.Attribute o m apos) [] [] pos) (y_ tbl m fo aN):=AH hT (hr.mono hn) vO ho ht
end
section
variable{K:zzA}{kd:KD}{F B:Addr->Prop}{ad:Ad}{as:AS}{σ:St}{H:Hp}{i:Nat}{c f1 f2:Str}{st:Bool}{w:D}{ts:List O}
def Rel.mks(R:Rel K kd F B [] ad as σ H)(k:as[i]? = some (some<|.nd (.ob c [f1,f2]) [.lf st w,.nd .ls ts])):∃a dx l v1 vs fp,σ[i]? = some (some<|.ref a)/\H a=some (.ins (kd.c c) dx [(f1,v1),(f2,.ref l)])/\Rp K kd (Lv F B (Gw [] ad) st) H v1 w/\H l=some (.lst vs)/\wb K kd F B (Gw [] ad) H vs ts fp/\ad i=a::l::fp:=by
 obtain⟨v,e,d⟩:=R.sl i _ k;generalize f:ad i=g at d;cases d with
 |ob h j t m=>
  have ec:=h.cl_eq;subst ec;cases m with
  |cons n o=>
   cases n with
   |lf p=>
    cases o with
    |cons q r=>
     cases r with
     |nil=>
      cases q with
      |ls s b=>exact⟨_,_,_,_,_,_,e,j,p,s,b,⋯⟩
end
structure MV where
 (c f g:Str) (s:Bool) (w:D) (ts:List O)
def nk:Option (Option O)->Option MV
 |some (some (.nd (.ob c [f1,f2]) [.lf st w,.nd .ls ts]))=>some ⟨c,f1,f2,st,w,ts⟩
 |_=>none
def iq:Option (Option O)->Option (Bool×D)
 |some (some (.lf s d))=>some (s,d)
 |_=>none
def gQ{x y}(e:iq x=some y):x=some (some<|.lf y.1 y.2):=by
 cases x with
 |none=>cases e
 |some x=>
 cases x with
 |none=>cases e
 |some o=>
 cases o with
 |nd=>cases e
 |lf s d=>cases e;rfl
def GD(i:Nat)(cs:List Str)(f:Str):EF:=λas=>(nk as[i]?).bind λz=>if z.c ∈ cs/\f=z.f then some (.ow<|.lf z.s z.w,as)else none
def p_(i:Nat)(cs:List Str)(f:Str):EF:=λas=>(nk as[i]?).bind λz=>if z.c ∈ cs/\f=z.g/\z.f≠z.g then some (.ow<|.lf true<|.int z.ts.length,as)else none
def ng(i j:Nat)(cs:List Str)(f:Str):SF:=λas=>(nk as[i]?).bind λz=>(iq as[j]?).bind λy=>if z.c ∈ cs/\f=z.g/\z.f≠z.g/\z.ts.length<sizeLine then some (.nx<|as.set i<|some<|.nd (.ob z.c [z.f,z.g]) [.lf z.s z.w,.nd .ls<|z.ts++[.lf y.1 y.2]])else none
def kh{x z}(e:nk x=some z):x=some (some<|.nd (.ob z.c [z.f,z.g]) [.lf z.s z.w,.nd .ls z.ts]):=by
 cases x with
 |none=>cases e
 |some s=>
  cases s with
 |none=>cases e
 |some o=>
 cases o with
 |lf=>cases e
 |nd k os=>
 cases k with
 |ls=>cases e
 |tp=>cases e
 |dc _=>cases e
 |ob c ns=>
 cases ns with
 |nil=>cases e
 |cons f1 ns=>
 cases ns with
 |nil=>cases e
 |cons f2 ns=>
 cases ns with
 |cons=>cases e
 |nil=>
 cases os with
 |nil=>cases e
 |cons a os=>
 cases a with
 |nd=>cases e
 |lf st w=>
 cases os with
 |nil=>cases e
 |cons b os=>
 cases b with
 |lf=>cases e
 |nd k2 ts=>
 cases os with
 |cons=>cases k2<;>cases e
 |nil=>
 cases k2 with
 |tp=>cases e
 |dc _=>cases e
 |ob _ _=>cases e
 |ls=>cases e;rfl
def JE{i:Nat}{cs f as x}(e:GD i cs f as=some x):∃c f2 st w ts,as[i]? = some (some<|.nd (.ob c [f,f2]) [.lf st w,.nd .ls ts])/\c ∈ cs/\x=(.ow<|.lf st w,as):=by
 unfold GD at e;obtain⟨z,h,e⟩:=bS_ e;obtain⟨⟨a,b⟩,d⟩:=zq e;subst b;cases d;exact⟨_,_,_,_,_,kh h,a,rfl⟩
def Ax{i:Nat}{cs f as x}(e:p_ i cs f as=some x):∃c f1 st w ts,as[i]? = some (some<|.nd (.ob c [f1,f]) [.lf st w,.nd .ls ts])/\c ∈ cs/\f1≠f/\x=(.ow<|.lf true<|.int ts.length,as):=by
 unfold p_ at e;obtain⟨z,h,e⟩:=bS_ e;obtain⟨⟨a,b,d⟩,g⟩:=zq e;subst b;cases g;exact⟨_,_,_,_,_,kh h,a,d,rfl⟩
def DY{i j:Nat}{cs f as x}(e:ng i j cs f as=some x):∃c f1 st w ts s d,as[i]? = some (some<|.nd (.ob c [f1,f]) [.lf st w,.nd .ls ts])/\as[j]? = some (some<|.lf s d)/\c ∈ cs/\f1≠f/\ts.length<sizeLine/\x = .nx (as.set i<|some<|.nd (.ob c [f1,f]) [.lf st w,.nd .ls<|ts++[.lf s d]]):=by
 unfold ng at e;obtain⟨z,h,e⟩:=bS_ e;obtain⟨y,k,e⟩:=bS_ e;obtain⟨⟨b,g,q,l⟩,m⟩:=zq e;subst g;cases m;exact⟨_,_,_,_,_,_,_,kh h,gQ k,b,q,l,rfl⟩
section
variable{X:Cx}{kd:KD}{i j n:Nat}{cs:List Str}{f x y:Str}{p p' pos apos cpos:Pos}
def oQ(hc:CF X.K kd cs f)(ho:PE X (.Name x p) (Y1 i))(hb:attributeBase (.Name x p) f X.env (eval (.Name x p) X.env)=eval (.Name x p) X.env):AE X kd (.Attribute (.Name x p) f pos) (GD i cs f):=by
 with_unfolding_all exact(yb (NZ ho hb) λσ H Q h=>by
  obtain⟨F,B,g,as,r,j,R,e,q⟩:=h;obtain⟨c,f2,u,w,v,k,b,e⟩:=JE e;cases e;obtain⟨a,m,l,d,y,z,n,o,s,A,C,t⟩:=R.mks k;exact⟨.ref a,n,a,_,m,_,d,rfl,o,(hc _ b).1,(hc _ b).2,⋯,q d [] g H R (.lf s) Grow.refl⟩)
def pI(hc:CF X.K kd cs f)(ho:PE X (.Name x p) (Y1 i))(hb:attributeBase (.Name x p) f X.env (eval (.Name x p) X.env)=eval (.Name x p) X.env)(hg:Gl X "len")(hm:X.mg "len"=none)
 (he:starEach [.Attribute (.Name x p) f pos] X.env=(false,eval (.Attribute (.Name x p) f pos) X.env)::starEach [] X.env) (hpl:(backTo cpos<|starEach [] X.env).any (·.1)=false):
 AE X kd (.Call (.Name "len" p') [.Attribute (.Name x p) f pos] [] cpos) (p_ i cs f):=by
 with_unfolding_all exact(yb (Pf Ou hg hm rfl (Xp (NZ ho hb) Us he) (by decide) (by decide) he hpl) λσ H Q h=>by
  obtain⟨F,B,ad,as,r,as',R,e,q⟩:=h;obtain⟨c,f1,st,w,ts,k,hm,hne,e⟩:=Ax e;cases e;obtain⟨a,dx,l,v1,vs,fp,hs,hH,rp,hL,rl,hfp⟩:=R.mks k;refine⟨.ref a,hs,a,_,dx,_,.ref l,rfl,hH,(hc _ hm).1,(hc _ hm).2, ?_,.ref l,ts.length,rfl,.inl ⟨vs,.inl<|.inl hL,rl.length.symm⟩,q _ [] ad H R (.lf<|.int _) Grow.refl⟩;rw[List.lookup_cons,beq_eq_false_iff_ne.mpr<|Ne.symm hne];simp)
def nM(hc:CF X.K kd cs f)(ho:PE X (.Name x p) (Y1 i))(hy:PE X (.Name y p') (Y1 j))(hb:attributeBase (.Name x p) f X.env (eval (.Name x p) X.env)=eval (.Name x p) X.env)
 (hbase:attributeBase (.Attribute (.Name x p) f pos) "append" X.env (eval (.Attribute (.Name x p) f pos) X.env)=eval (.Attribute (.Name x p) f pos) X.env)
 (hfew:((backTo cpos<|starEach [.Name y p'] X.env).all (λx=>!x.1)&&(backToKw cpos<|keywordEach [] X.env).all (λx=>x.1.isSome)
  && decide (([.Name y p']:List Expr).length+([]:List Keyword).length+(if([]:List Keyword).isEmpty then 0 else 1)<30))=true)
 (hline:(apos.endLine==cpos.line)=true) (hst:starEach [.Name y p'] X.env=(false,eval (.Name y p') X.env)::starEach [] X.env) (hplain:(backTo cpos<|starEach [] X.env).any (·.1)=false) {spos}
 (hsw:swapsWith (.Call (.Attribute (.Attribute (.Name x p) f pos) "append" apos) [.Name y p'] [] cpos) none spos.line X.env=pure false):
 AP X kd n (.Expr (.Call (.Attribute (.Attribute (.Name x p) f pos) "append" apos) [.Name y p'] [] cpos) spos) (ng i j cs f):=by
 with_unfolding_all exact(xm (Qv (uQ PySem.F.plainAttrs_list PySem.F.slot_list_append PySem.F.type_list_append Lc (NZ ho hb) (Xp hy Us hst) hbase hfew hline hst hplain) hsw) λD σ H h=>by
  obtain⟨F,B,g,as,o,R,e,q⟩:=h;obtain⟨c,f1,O,w,E,s,d,k,k',P,G,hz,e⟩:=DY e;subst e;obtain⟨a,Q,l,v1,t,fp,S,T,rp,U,V,r⟩:=R.mks k;obtain⟨v,hj,A⟩:=R.sl j _ k';have hi:=(zzG.mp k).1;generalize hfj:g j=fj at A;cases A with
  |lf I=>
   have nd:=R.nd i;rw[r]at nd;have J:a≠l:=λe=>(zzV.mp nd).1 (by rw[e];exact zzF);have L:=(zzV.mp (zzV.mp nd).2).1;have W:l ∈ g i:=by rw[r];exact zzD _ zzF
   have M:Grow _ H (G1 (Gw [] g) (g i)<|g i) (upd H l<|.lst<|t++[v]):=⟨λb u h n=>by rw[zF λe=>n<|by subst e;exact .inr ⟨i,W⟩];exact h,λb z=>.inl<|z.elim (λy=>y.1) λy=>.inr ⟨i,y⟩⟩;obtain⟨R2,g2⟩:=R.chg1 (H':=upd H l<|.lst _) hi S (R.nd i) (λa m=>.inl m) (λb u h n=>by rwa [zF λe=>n<|by subst e;exact W]) (λb m=>by
    by_cases e:b=l
    . subst e;rw[z8];simp
    . rw[zF e];exact(R.gtr b<|.inr ⟨i,m⟩).1) (by
    have r2:=Ez (Rp.grow M I) E<|wb.grow M (λb m u h=>by rwa [zF λe=>L<|by subst e;exact m]) V;have Y:=RoL.cons (Ro.lf<|Rp.grow M rp)<|RoL.cons (Ro.ls z8 r2) .nil;rw[zyD]at Y;have Z:=Ro.ob (Rp.cl c) (show upd H l _ a=some (.ins (kd.c c) Q<|[f1,f].zip [v1,.ref l]) by rwa [zF J]) rfl Y;rw[r]
    rwa [r]at Z)
   refine⟨.ref a,S,a,_,Q,_,.ref l,rfl,T,(hc _ P).1,(hc _ P).2, ?_,.inl ⟨rfl,t,.inl<|.inl U⟩,v,hj,l,t,v,rfl,rfl,U,by rw[V.length];exact hz,q σ _ _ (λ_ _=>rfl) R2 g2⟩;rw[List.lookup_cons,beq_eq_false_iff_ne.mpr<|Ne.symm G];simp)
end
def nc(n0:List Str):Nat->D->Bool
 |0,_=>false
 |n+1,.tup ds=>ds.all (nc n0 n)
 |n+1,.ob _ ns ds=>decide (ns≠n0)&&ds.all (nc n0 n)
 |_+1,.lst _=>false
 |_+1,.dct _=>false
 |_+1,_=>true
section
variable{K:zzA}{kd:KD}{O:Addr->Prop}{H:Hp}{a l C dx:Addr}{f1 f2:Str}{v1 v2:V}{vs0:List V}
def pj(ha:H a=some (.ins C dx [(f1,v1),(f2,v2)]))(hl:H l=some (.lst vs0)){v d}(h:Rp K kd O H v d):∀n,nc [f1,f2] n d=true->Rp K kd (λz=>O z\/z=a\/z=l) H v d:=
 Rp.rec (motive_2:=λg f _=>∀n,f.all _=true->RpL K kd _ H g f) (motive_3:=λ_ _ _=>True)
  (λ_ _=>.non) (λb _ _=>.bl b) (λi _ _=>.int i) (λx _ _=>.str x)
  (λ{c g f} n h _ r m e=>by
   cases m with
   |zero=>cases e
   |succ m=>
    refine .tup (λz=>z.elim n λq=>?_) h<|r m e
    rcases q with q|q<;>subst q
    . rcases h with h|⟨o,h⟩<;>(rw[ha]at h;cases h)
    . rcases h with h|⟨o,h⟩<;>(rw[hl]at h;cases h))
  (λk p s t u _ r m e=>by
   cases m with
   |zero=>cases e
   |succ m=>exact .tupK k p s t u (r m e))
  (λ_ _ _ _ m e=>by cases m<;>cases e) (λ_ _ _ _ _ m e=>by cases m<;>cases e)
  (λ_ _ _ _ m e=>by cases m<;>cases e) (λ_ _ _ m e=>by cases m<;>cases e) (λc _ _=>.cl c)
  (λ{c w A j g f} n h y _ r m e=>by
   cases m with
   |zero=>cases e
   |succ m=>
    have e:(decide _&&f.all _)=true:=e;rw[zyB]at e;refine .ob (λz=>z.elim n λq=>?_) h y<|r m e.2
    rcases q with q|q<;>subst q
    . rw[ha]at h;injection h with h
      injection h with _ _ h
      have:=List.map_fst_zip (l₁:=j) (l₂:=g) ⋯;rw[<-h]at this;exact of_decide_eq_true e.1 this.symm
    . rw[hl]at h;cases h)
  (λ_ _=>.nil) (λ_ _ h r n e=>by
   rw[List.all_cons,zyB]at e;exact .cons (h n e.1)<|r n e.2) ⋯ (λ_ _ _ _=>⋯) h
end
theorem RpA.less{K kd F F' H}(g:∀a,F' a->F a):∀{vs:List V}{ds:List (Bool×D)},RpA K kd F H vs ds->RpA K kd F' H vs ds
 |_,_,.nil=>.nil
 |_,_,.cons h r=>.cons (h.less λz q=>⟨q.1,g z q.2⟩)<|RpA.less g r
def gp(n0:List Str):O->Bool
 | .lf _ d=>nc n0 60 d
 |_=>false
def uE(n0:List Str):O->Bool
 | .lf _ d=>nc n0 60 d
 | .nd .ls os=>os.all (gp n0)
 |_=>false
def PK(x:Option (Option O)):Option D:=(nk x).bind λz=>if z.s=true/\z.ts.all O.isLf=true/\O.strs z.ts=true then some (.ob z.c [z.f,z.g] [z.w,.lst<|O.toDs z.ts])else none
def gG:D->List Str
 | .ob _ ns _=>ns
 |_=>[]
def Tp{s d}(e:PK s=some d):∃c f1 f2 w ts,s=some (some<|.nd (.ob c [f1,f2]) [.lf true w,.nd .ls ts])/\ts.all O.isLf=true/\O.strs ts=true/\d = .ob c [f1,f2] [w,.lst<|O.toDs ts]:=by
 unfold PK at e;obtain⟨z,h,e⟩:=bS_ e;obtain⟨⟨a,b,f⟩,g⟩:=zq e;cases g;have h:=kh h;rw[a]at h;exact⟨_,_,_,_,_,h,b,f,rfl⟩
def xW(i:Nat)(tbl:List (Str×Fn))(m:Str)(fr:AF):EF:=λas=>(PK as[i]?).bind λd0=>(iJ m d0).bind λc=>(Fw tbl c).bind λg=>(fr as).bind λq=>(PK q.2[i]?).bind λd=>(ZE q.2 q.1).bind λx=>(g ((true,d)::x)).bind λo=>if uE (gG d) o=true then some (.ow o,q.2)else none
section
variable{K:zzA}{kd:KD}{F F' B G:Addr->Prop}{H:Hp}{T:List Addr}{n0:List Str}
def sF(cv:∀v d,nc n0 60 d=true->Rp K kd (Wj F' (· ∈ T)) H v d->∀st,Rp K kd (Lv F B G st) H v d){N v o fp}(e:uE n0 o=true)(h:Ro (λ_ v d=>Rp K kd (Wj F' (· ∈ T)) H v d) N H v o fp):vN K kd F B G H v o fp:=by
 cases h with
 |lf r=>exact .lf (cv _ _ e r _)
 |ls a c=>
  refine .ls a ?_;exact RoL.ind (P:=λf b g=>b.all _=true->wb K kd F B G H f b g) (λ_=>.nil) (λh _ i e=>by
   rw[List.all_cons,zyB]at e;cases h with
   |lf r=>exact .cons (.lf<|cv _ _ e.1 r _) (i e.2)
   |_=>cases e.1) c e
 |_=>cases e
end
section
variable{X:Cx}{kd:KD}{e:Expr}{es:List Expr}{fr:AF}{pos apos p:Pos}{m x:Str}{tbl:List (Str×Fn)}{k i:Nat}
def qB(hT:MT X.prog X.w X.K X.mg X.base kd m k tbl)(hr:Room k X.A){σ H Q t}(ht:∀σ H Q,AB X.K kd fr σ H Q->t σ H Q)(h:al X.K kd (xW i tbl m fr) σ H Q):IA X m (Y1 i) t σ H Q:=by
 obtain⟨F,B,ad,as,r,as',R,e,q⟩:=h;obtain⟨d0,h0,e⟩:=bS_<|e;obtain⟨c,p,e⟩:=bS_ e;obtain⟨g,h4,e⟩:=bS_ e;obtain⟨⟨rs,G⟩,h5,e⟩:=bS_ e;obtain⟨d,h6,e⟩:=bS_ e;obtain⟨ds,h7,e⟩:=bS_ e;obtain⟨o,h8,e⟩:=bS_ e;obtain⟨I,e⟩:=zq e;cases e;obtain⟨c0,f1,f2,w,ts,k0,_,_,e0⟩:=Tp h0;subst e0;obtain⟨a,dx,l,v1,vs0,fp,Z,hH,_,_,_,_⟩:=R.mks k0;have p:(if m ∈ _ then none else some c0)=some c:=p
 by_cases u:m ∈ [f1,f2]
 . rw[if_pos u]at p;cases p
 rw[if_neg u]at p;cases p;obtain⟨k',f,fd,ps,J,cl,me,F1,b⟩:=hT _ _ h4;refine⟨.ref a,Z,a,_,dx,_,k',f,fd,ps,_,rfl,hH,cl,me, ?_,F1,hr.mono J,b,ht _ _ _ ⟨F,B,ad,as,rs,G,R,h5,λvs j H2 R2 L g2=>?_⟩⟩
 . have:List.lookup m ([f1,f2].zip [v1,V.ref l])=none:=(Yb _ _ _).trans<|QW u;exact this
 obtain⟨c1,g1,M,w1,ts1,k1,N,O,s⟩:=Tp h6;subst s;obtain⟨a',dx',D,v1',vs',fp',x,y,P,C,S,hfp'⟩:=R2.mks k1;rw[Z]at x;cases x;refine⟨λz=>Lv F B _ true z/\z≠a/\z≠D,_,o,λz n=>R2.trk true z n.1,.cons ?_ ?_,h8,λv T H' u hT U W ro=>?_⟩
 . refine .ob (λz=>z.2.2.1 rfl) y rfl<|.cons (P.less λz q=>q.2.1)<|.cons (.lst (λz=>z.2.2.2 rfl) (.inl C) ?_) .nil;have:=Ub S N;rw[O]at this;exact this.less λz q=>q.2.1
 . exact(RX R2 L h7).less λz q=>q.1
 . obtain⟨R',g'⟩:=R2.news u hT U W;refine q v T j H' R' (sF (F':=λz=>Lv F B _ true z/\z≠a/\z≠D) (λv d Y rp st=>?_) I ro)<|g2.trans g';refine(pj (U _ _ y) (U _ _ C) rp 60 Y).less λz n=>?_
   by_cases s:z=a
   . exact .inr<|.inl s
   by_cases E:z=D
   . exact .inr<|.inr E
   refine .inl ?_
   rcases n with(n|n)|n|n
   . exact .inl ⟨.inl<|.inl ⟨rfl,n.2⟩,s,E⟩
   . exact .inl ⟨.inl<|.inr n,s,E⟩
   . exact .inr n
   . exact .inl ⟨.inr<|.inr n,s,E⟩
def NO{pl}(hT:MT X.prog X.w X.K X.mg X.base kd m k tbl)(hr:Room k X.A)(hx:vF Ys X λ_ _ _=>False)(ho:PE X (.Name x p) (Y1 i))(ha:AA X kd (e::es) fr)
 (hst:starEach (e::es) X.env=(false,eval e X.env)::starEach es X.env) (hpl:(backTo pos<|starEach es X.env).any (·.1)=false)
 (ht:eval (.Call (.Attribute (.Name x p) m apos) (e::es) [] pos) X.env=(do
  let ov <-eval (.Name x p) X.env
  standAt apos.atName
  let(f,first) <-holding [ov] (getMethod ov m pl)
  callWith pos f first (backTo pos<|starEach (e::es) X.env) (backToKw pos<|keywordEach [] X.env))):
 AE X kd (.Call (.Attribute (.Name x p) m apos) (e::es) [] pos) (xW i tbl m fr):=by
 with_unfolding_all exact(yb (Fm ho hx ha hst hpl ht) λσ H Q h=>qB hT hr (λσ H Q z=>z) h)
end
def C6(i:Nat)(cs:List Str)(f:Str)(fe:EF):HD:=λas=>(fe as).bind λp=>match p.1 with
 | .ow o=>match p.2[i]? with
  |some (some (.nd (.ob c ns) os))=>if c ∈ cs/\f ∉ ns/\ns.length<1000 then some (p.2.set i<|some<|.nd (.ob c<|ns++[f])<|os++[o])else none
  |_=>none
 |_=>none
def Hk{i:Nat}{cs:List Str}{f}{r:RV}{as as':AS}(e:(match r with
 | .ow o=>match as[i]? with
  |some (some (.nd (.ob c ns) os))=>if c ∈ cs/\f ∉ ns/\ns.length<1000 then some (as.set i<|some<|.nd (.ob c<|ns++[f])<|os++[o])else none
  |_=>none
 |_=>none)=some as'):∃o c ns os,r = .ow o/\as[i]? = some (some<|.nd (.ob c ns) os)/\c ∈ cs/\f ∉ ns/\ns.length<1000/\as'=as.set i (some<|.nd (.ob c<|ns++[f])<|os++[o]):=by
 split at e
 . split at e
   . obtain⟨⟨a,b,d⟩,g⟩:=zq e;cases g;rename_i k;exact⟨_,_,_,_,rfl,k,a,b,d,rfl⟩
   . cases e
 . cases e
def Cv{X:Cx}{kd e o}{fe:EF}{pos pos' cs n}{j:Nat}(hc:CF X.K kd cs n)(ho:PE X o (Y1 j))(he:AE X kd e fe)(hs:swapsWith e (some<|.Attribute o n pos') pos.line X.env=pure false):pe X kd (.Assign [.Attribute o n pos'] e pos) (C6 j cs n fe):=by
 with_unfolding_all exact(xm (CW ho he hs) λD σ H h=>by
  obtain⟨F,B,ad,as,as',R,e,q⟩:=h;obtain⟨⟨p,as1⟩,h1,e⟩:=bS_<|e;obtain⟨o0,c,ns,os,rfl,k1,hm,hf,hz,rfl⟩:=Hk e;refine⟨F,B,ad,as,_,as1,R,h1,λv T1 ad1 H1 R1 rv1 g1=>?_⟩;obtain⟨v0,hs0,ro0⟩:=R1.sl j _ k1;refine⟨v0,hs0, ?_⟩;generalize hfp:ad1 j=fp1 at ro0;cases ro0 with
  |ob hC hH hl rl=>
   rename_i l dx C vs fp;have ec:=hC.cl_eq;subst ec;have hnd:=R1.nd j;rw[hfp]at hnd;have rl':wb X.K kd F B _ H1 _ _ _:=rl.append<|RoL.one rv1;refine⟨l,_,dx,_,rfl,hH,(hc _ hm).1,(hc _ hm).2,by rw[List.length_zip,hl,Nat.min_self,<-hl];exact hz, ?_⟩;rw[PB hl hf];have dis:=λa m=>R1.dis j a (by rw[hfp];exact zzD _ m);obtain⟨R4,g4⟩:=R1.mut (n:=.nd (.ob c<|ns++[n]) _) (zzG.mp k1).1 hfp hs0 (fp':=fp++T1) (λa m=>by
    rwa [zyD]at m) (by
    rw[zyD];exact zxD.mpr ⟨(zzV.mp hnd).2,R1.tnd,λa m b m' e=>dis a m<|by rw[e];exact m'⟩) (by rw[hH];simp) λH' G' hl' gr kp=>.ob (.cl c) hl' (by rw[zzJ,zzJ,hl];rfl)<|wb.grow gr kp rl'
   exact q _ _ R4<|g1.trans g4)
abbrev VF:=AS->Option (D×AS)
def bv(n:Nat)(K:zzA)(kd:KD)(f:VF):TS:=λD σ H=>∃F B ad as d as',Rel K kd F B [] ad as σ H/\f as=some (d,as')/\∀σ' ad' H' v,(∀i,i<n->σ'[i]? = σ[i]?)->Rel K kd F B [] ad' as' σ' H'->Grow (Gw [] ad) H (Gw [] ad') H'->Rp K kd (Lv F B (Gw [] ad') true) H' v d->D.rt v H'
@[irreducible] def uA(X:Cx)(kd:KD)(n:Nat)(st:List Stmt)(f:VF):Prop:=Nv X st<|bv n X.K kd f
def i_:RV×AS->Option (D×AS)
 |(.ow (.lf st d),as)=>if st=true\/zE d=true then some (d,as)else none
 |_=>none
def YQ(fe:EF):VF:=λas=>(fe as).bind i_
def Zd(f:SF)(g:VF):VF:=λas=>(f as).bind λo=>match o with
 | .nx as1=>g as1
 |_=>none
section
variable{X:Cx}{kd:KD}{n:Nat}{e:Expr}{st:Stmt}{rest:List Stmt}{fe:EF}{f:SF}{g:VF}{pos:Pos}
def nI:AP X kd n st Ik:=by with_unfolding_all exact(λa s σ H D I h=>by obtain⟨F,B,b,as,o,R,e,q⟩:=h;cases e)
def W0(he:AE X kd e fe):uA X kd n [.Return (some e) pos] (YQ fe):=by with_unfolding_all exact(ZQ (QM<|CQ he) λD σ H h=>by
 obtain⟨F,B,ad,as,d,as',R,e,q⟩:=h;obtain⟨⟨p,as1⟩,h1,e⟩:=bS_<|e
 match p,e,h1 with
 | .ow (.lf st d0),e,h1=>
  obtain⟨hf,e⟩:=zq<|e;cases e;refine⟨F,B,ad,as,_,_,R,h1,λv T' ad' H' R' rv g=>?_⟩;cases rv with
  |lf rp=>exact q σ ad' H' v (λ_ _=>rfl) R' g (hf.elim (λe=>by subst e;exact rp) rp.flat))
def Qu(h1:AP X kd n st f)(h2:uA X kd n rest g):uA X kd n (st::rest) (Zd f g):=by with_unfolding_all exact(ZQ (Yp h1 h2) λD σ H h=>by
 obtain⟨F,B,l,as,d,a,R,e,q⟩:=h;obtain⟨o,p,e⟩:=bS_<|e;cases o with
 |nx b=>exact⟨F,B,l,as,_,R,p,λA c C r s t=>⟨F,B,c,b,d,a,s,e,λu j w v x R2 y z=>q u j w v (λi k=>(x i k).trans<|r i k) R2 (t.trans y) z⟩⟩
 |_=>cases e)
end
def Hy(n m:Nat)(c:VF)(xs:List wB)(o:O):Option (D×O):=if xs.length+1=m then(c<|ZD n (o::xs.map O7)).bind λz=>(z.2[0]?).bind λs=>s.bind λr=>if r.str=true then some (z.1,r)else none else none
def spS(K:zzA)(kd:KD)(g:List wB->O->Option (D×O)):Sp:=λvs H Q _=>∃(F:Addr->Prop) (T:List Addr) (v:V) (ws:List V) (xs:List wB) (o:O) (d:D) (r:O),vs=v::ws/\(∀a,F a->H a≠none)/\T.Nodup/\(∀a ∈ T,H a≠none/\¬F a)/\RpI K kd F (λ_=>False) (· ∈ T) H ws xs/\vN K kd F (λ_=>False) (· ∈ T) H v o T/\g xs o=some (d,r)/\
 ∀(u:V) (H':Hp) (T':List Addr),(∀c u,H c=some u->c ∉ T->H' c=some u)->T'.Nodup->(∀a ∈ T',a ∈ T\/H a=none)->(∀a ∈ T',H' a≠none)->vN K kd F (λ_=>False) (· ∈ T') H' v r T'->Rp K kd (Lv F (λ_=>False) (· ∈ T') true) H' u d->Q u H'
section
variable{P:Program}{w:World}{K:zzA}{mg:Str->Option Value}{base:Heap}
def Wb{kd x qual st f fd N ps}{k:Nat}{c}(Fn:Fun K x qual st f fd)(S:FnScope N ps (zR st))(hN:ps.length<=N.length)
 (hb:∀(cdv:Value) (A:Around) (outer:List Env) (s:Shared) (H:Hp) (E:XK),Room k (A.deeper<|envOfC qual (zR st) s.heap.objs.size f cdv)->uA (RA Ys P w K mg base N qual (zR st) f cdv A outer s H E).nox kd 1 (v7 st) c):
 FnOk P w K mg base Ys (k+1) f fd ps (spS K kd<|Hy N.length ps.length c):=by
 with_unfolding_all (
 refine Fn.ok S (λX H Q E h=>?_) λB A b s H X Q E Y h=>⟨_,hb B A b s H E Y, ?_⟩
 . obtain⟨F,T,v,C,t,o,d,r,rfl,L,M,O,j,U,e,q⟩:=h;obtain⟨V,_⟩:=ite_some'<|e
   rwa [zzT,j.length]
 . obtain⟨F,T,v,C,t,o,d,r,rfl,L,M,O,j,U,e,q⟩:=h;obtain⟨V,Z⟩:=ite_some'<|e;obtain⟨⟨d0,D⟩,e1,z1⟩:=bS_ Z;obtain⟨G,k0,z2⟩:=bS_ z1;obtain⟨r0,e2,z3⟩:=bS_ z2;obtain⟨hr0,z4⟩:=zq z3;subst e2;cases z4;have J:wb K kd F (λ_=>False) (· ∈ T) H (v::C) (o::t.map O7) T:=by
    have:=RoL.cons U<|Jc j
    rwa [zyD]at this
   have R0:=Ga (N:=N) L M O (SC t) (by rw[zzT,zzB];exact q1h V hN) J;have W:∀a,Gw [] (λi=>if i=0 then T else[]) a->a ∈ T:=λa z=>z.elim ⋯ λ⟨i,y⟩=>by
    by_cases e:i=0
    . subst e;simpa using y
    . simp[e]at y
   refine⟨F,λ_=>False,_,ZD N.length _,d0,D,R0,e1,λσ' l H' u sp R g rp=>?_⟩;obtain⟨u0,G,t0⟩:=R.sl 0 _ k0;rw[sp 0 ⋯]at G;have sv:(L2.start N (v::C))[0]? = some _:=rfl;cases(sv.symm.trans G);have p:∀a,a ∈ l 0->Gw [] l a:=λa z=>.inr ⟨_,z⟩;exact q u H' _ (λc u h n=>g.keep c u h λz=>n<|W c z) (R.nd _) (λa m=>(g.own a<|p a m).imp (W a) id) (λa m=>(R.gtr a<|p a m).1) (vN.lv (λst a z=>z.imp id<|p a) t0)<|rp.less λa z=>z.imp id<|p a)
end
def Ro.monoS{L L' N N' H}(hL:∀v d,L true v d->L' true v d)(hN:∀a,N a->N' a){v o fp}(s:o.str=true)(h:Ro L N H v o fp):Ro L' N' H v o fp:=
 Ro.rec (motive_2:=λg f b _=>O.strs f=true->RoL L' N' H g f b)
  (λ{i v d} h s=>by have e:=s;subst e;exact .lf<|hL _ _ h) (λh _ r s=>.ls h<|r s) (λh l _ r s=>.dc h l<|r s) (λc h l _ r s=>.ob (hL _ _ c) h l<|r s) (λn h _ r s=>.tp (hN _ n) h<|r s)
  (λ_=>.nil) (λ_ _ h r s=>.cons (h ((zyB _ _).mp s).1)<|r ((zyB _ _).mp s).2) h s
def VE(i:Nat)(as:AS):List RV->Option (List wB)
 | []=>some []
 | .ow o::rs=>(VE i as rs).bind λy=>some ((zE o.toD||o.str,o.toD)::y)
 | .bo j::rs=>(as[j]?).bind λs=>s.bind λo=>if j=i then none else(VE i as rs).bind λy=>some ((false,o.toD)::y)
section
variable{K:zzA}{kd:KD}{F B:Addr->Prop}{ad:Ad}{as:AS}{σ:St}{H:Hp}{i:Nat}
def BY(R:Rel K kd F B [] ad as σ H){vs rs xs}(h:RVs K kd F B ad σ H vs rs)(e:VE i as rs=some xs):RpI K kd (λz=>Lv F B (Gw [] ad) true z/\z ∉ ad i) (λ_=>False) (· ∈ ad i) H vs xs:=by
 induction h generalizing xs with
 |nil=>cases e;exact .nil
 |cons h t l=>
  rename_i v r E q;cases r with
  |ow o=>
   obtain⟨y,f,e⟩:=bS_<|e;cases e;refine .cons ?_<|l f;cases hf:zE o.toD with
   |true=>exact(Pu h).flat hf
   |false=>
    refine(PC h).less λa z=>?_
    rcases z with(z|z)|z
    . rw[show o.str=true from z.1];exact z.2.1
    . exact z.elim
    . exact .inr (.inr ⟨i,z⟩)
  |bo j=>
   obtain⟨s,k,u⟩:=bS_<|e;obtain⟨o,x,c⟩:=bS_ u;subst x
   by_cases g:j=i
   . rw[if_pos g]at c;cases c
   rw[if_neg g]at c;obtain⟨y,f,A⟩:=bS_ c;cases A;refine .cons ?_<|l f;obtain⟨w,p,C⟩:=R.sl j _ k;rw[h.2]at p;cases p;have ob:∀z,Lv (λz=>Lv F B (Gw [] ad) true z/\z ∉ ad i) (λ_=>False) _ false z->z ∈ ad i:=λz b=>by
    rcases b with(b|b)|b
    . exact nomatch b.1
    . exact b.elim
    . exact b
   exact Ro.rp false (λD v d _ r=>(r).less λz b=>.inr<|.inr ⟨i,ob z b⟩) (λa n z=>n<|.inr<|.inr ⟨i,ob a z⟩) ⋯ (λa m z=>g<|R.inj j i a m<|ob a z) C
end
def uG{K:zzA}{kd:KD}{F B:Addr->Prop}{ad:Ad}{as:AS}{σ:St}{H:Hp}{i:Nat}{T:List Addr}(R:Rel K kd F B [] ad as σ H){a}(z:Gw [] (Zt ad i T) a):G1 (Gw [] ad) (ad i) T a:=by
 rcases z with z|⟨k,z⟩
 . exact nomatch z
 . by_cases e:k=i
   . subst e;rw[zZ]at z;exact .inr z
   . rw[ya e]at z;exact .inl ⟨.inr ⟨k,z⟩,λy=>e<|R.inj k i a z y⟩
def iW(m:Str):Option (Option O)->Option Str
 |some (some (.nd (.ob c ns) _))=>if m ∈ ns then none else some c
 |_=>none
def wq(i:Nat)(c0 m:Str)(g:List wB->O->Option (D×O))(fr:AF):EF:=λas=>(iW m as[i]?).bind λc=>if c=c0 then(fr as).bind λq=>(VE i q.2 q.1).bind λxs=>(q.2[i]?).bind λs=>s.bind λo=>(g xs o).bind λz=>if z.2.str=true then some (.ow<|.lf true z.1,q.2.set i<|some z.2)else none else none
def MS(P:Program)(w:World)(K:zzA)(mg:Str->Option Value)(base:Heap)(kd:KD)(m:Str)(k:Nat)(c:Str)(g:List wB->O->Option (D×O)):Prop:=
 ∃k' f fd ps,k'<=k/\Cls K (kd.c c)/\Meth K (kd.c c) m f/\FnOk P w K mg base Ys k' f fd ps (spS K kd g)/\Binds K fd ps []
section
variable{X:Cx}{kd:KD}{e:Expr}{es:List Expr}{fr:AF}{pos apos p:Pos}{m x c0:Str}{g:List wB->O->Option (D×O)}{k i:Nat}
def sV(hT:MS X.prog X.w X.K X.mg X.base kd m k c0 g)(hr:Room k X.A){σ H Q t}(ht:∀σ H Q,AB X.K kd fr σ H Q->t σ H Q)(h:al X.K kd (wq i c0 m g fr) σ H Q):IA X m (Y1 i) t σ H Q:=by
 obtain⟨F,B,ad,as,r,as',R,e,q⟩:=h;obtain⟨c,h0,e⟩:=bS_<|e;obtain⟨ec,z0⟩:=ite_some' e;subst ec;obtain⟨⟨rs,as2⟩,h5,z1⟩:=bS_ z0;obtain⟨xs,h6,z2⟩:=bS_ z1;obtain⟨s,k2,z3⟩:=bS_ z2;obtain⟨o,e1,z4⟩:=bS_ z3;subst e1;obtain⟨⟨d,r⟩,h7,z5⟩:=bS_ z4;obtain⟨hst,z6⟩:=zq z5;cases z6;obtain⟨ns,os,k0,hn⟩:∃ns os,as[i]? = some (some _)/\m ∉ ns:=by
  unfold iW at h0
  split at h0
  . rename_i c' ns' os' k0
    by_cases hm:m ∈ ns'
    . rw[if_pos hm]at h0;cases h0
    . rw[if_neg hm]at h0;cases h0;exact⟨_,_,k0,hm⟩
  . cases h0
 obtain⟨v,hs,ro⟩:=R.sl i _ k0;generalize hfp:ad i=fp0 at ro;cases ro with
 |ob hC hH hl rl=>
  rename_i a dx C vs0 fp;have ec:=hC.cl_eq;subst ec;obtain⟨k',f,fd,ps,hk',cl,me,F1,b⟩:=hT;refine⟨.ref a,hs,a,_,dx,_,k',f,fd,ps,_,rfl,hH,cl,me,(Yb _ _ _).trans<|QW hn,F1,hr.mono hk',b,ht _ _ _ ⟨F,B,ad,as,rs,as2,R,h5,λvs ad2 H2 R2 rv2 g2=>?_⟩⟩;obtain⟨v',hv',ro'⟩:=R2.sl i _ k2;rw[hs]at hv';cases hv';have hi:=(zzG.mp k2).1;refine⟨λz=>Lv F B _ true z/\z ∉ ad2 i,ad2 i,.ref a,vs,xs,o,d,r,rfl,λz hz=>R2.trk true z hz.1,R2.nd i,λz mz=>⟨(R2.gtr z<|.inr ⟨i,mz⟩).1,λy=>y.2 mz⟩,BY R2 rv2 h6,vN.lv (λst z hz=>?_) ro',h7,λu H' T' kp nd sub al ro3 rp=>?_⟩
  . rcases hz with(hz|hz)|hz
    . rw[hz.1];exact hz.2.1
    . exact hz.elim
    . exact .inr<|.inr ⟨i,hz⟩
  . have le:∀z,Lv F B (G1 _ _ T') true z->Lv (λz=>Lv F B (Gw [] ad2) true z/\z ∉ ad2 i) (λ_=>False) _ true z:=λz hz=>by
     rcases hz with(hz|hz)|hz|hz
     . exact .inl<|.inl ⟨rfl,.inl<|.inl hz,λy=>(R2.gtr z<|.inr ⟨i,y⟩).2 hz.2⟩
     . exact .inl<|.inl ⟨rfl,.inl<|.inr hz,λy=>(R2.btr z hz).2.2<|.inr ⟨i,y⟩⟩
     . exact .inl<|.inl ⟨rfl,.inr hz.1,hz.2⟩
     . exact .inr hz
    have r0:vN X.K kd F B _ H' _ r T':=Ro.monoS (λv d h=>Rp.less le h) (λz n y=>n<|le z y) hst ro3;obtain⟨R3,g3⟩:=R2.chg1 hi hs nd sub kp al r0;exact q u [] _ H' R3 (.lf<|rp.less λz y=>le z<|y.imp id<|uG R2)<|g2.trans g3
def ZK{pl}(hT:MS X.prog X.w X.K X.mg X.base kd m k c0 g)(hr:Room k X.A)(hx:vF Ys X λ_ _ _=>False)(ho:PE X (.Name x p) (Y1 i))(ha:AA X kd (e::es) fr)
 (hst:starEach (e::es) X.env=(false,eval e X.env)::starEach es X.env) (hpl:(backTo pos<|starEach es X.env).any (·.1)=false)
 (ht:eval (.Call (.Attribute (.Name x p) m apos) (e::es) [] pos) X.env=(do
  let ov <-eval (.Name x p) X.env
  standAt apos.atName
  let(f,first) <-holding [ov] (getMethod ov m pl)
  callWith pos f first (backTo pos<|starEach (e::es) X.env) (backToKw pos<|keywordEach [] X.env))):
 AE X kd (.Call (.Attribute (.Name x p) m apos) (e::es) [] pos) (wq i c0 m g fr):=by
 with_unfolding_all exact(yb (Fm ho hx ha hst hpl ht) λσ H Q h=>sV hT hr (λσ H Q z=>z) h)
end
def mh{P w K mg base kd m c}{k k':Nat}{C f fd ps g}(ci:CI K kd mg c C)(me:Meth K C m f)(F:FnOk P w K mg base Ys k' f fd ps (spS K kd g))(b:Binds K fd ps [])(hk:k'<=k:=by decide):MS P w K mg base kd m k c g:=by
 have e:=ci.eq;subst e;exact⟨_,_,_,_,hk,ci.cl,me,F,b⟩
def C4:List Str->List Str->List (Option Nat)->List Str
 |t::ts,XN,none::c=>t::C4 ts XN c
 | [],XN,none::c=>""::C4 [] XN c
 |ts,XN,some j::c=>XN.getD j ""::C4 ts XN c
 |_,_,[]=>[]
def nR:Expr->Str
 | .Name x _=>x
 |_=>""
def uj:Expr->List Str
 | .Tuple es _ _=>es.map nR
 |e=>[nR e]
def qZ:Nat->List (Option Nat)->List Nat
 |_,[]=>[]
 |k,none::c=>k::qZ (k+1) c
 |k,some _::c=>qZ (k+1) c
theorem Fe:∀(c d:List (Option Nat)) (i:Nat),i ∈ qZ d.length c->(d++c)[i]? = some none
 | [],_,_,h=>nomatch h
 |none::c,d,i,h=>by
  have ih:=Fe c (d++[none]) i;rw[zzJ,zxB]at ih
  rcases zzC.mp (h)with rfl|h
  . simp
  . exact ih h
 |some x::c,d,i,h=>by
  have ih:=Fe c (d++[some x]) i;rw[zzJ,zxB]at ih;exact ih h
def Jd{cap}:(qZ 0 cap).all (λi=>cap[i]? == some none)=true:=List.all_eq_true.mpr λi m=>by
 have:=Fe cap [] i m;rw[List.nil_append]at this;rw[this];rfl
def gE{N:List Str}(h:decide N.Nodup=true):N.Nodup:=of_decide_eq_true h
section
variable{X:Cx}{kd:KD}{elt tg iter e:Expr}{es ifs:List Expr}{scope:Scope}{pos p:Pos}{cap:List (Option Nat)}{g:GF}{tt:TF}{fe:EF}{fi:IF}{S:List Nat}{fr:AF}{k n:Nat}
def gy{a}{i:Nat}{gs}(h1:AG X kd a [i] g)(h2:uv X kd es S gs)(hs:(assignEach (a::es) X.env).map (·.2)=assign a X.env::(assignEach es X.env).map (·.2):=by rfl):uv X kd (a::es) (i::S) (Wp g gs):=xQ h1 h2 hs
def q9(X:Cx)(kd:KD)(tg:Expr)(g:GF):Prop:=∃S,AG X kd tg S g
def CT(X:Cx)(kd:KD)(es:List Expr)(gs:ub):Prop:=∃S,uv X kd es S gs
def jb(i:Nat){x}(hN:X.N.Nodup)(hi:X.N[i]? = some x:=by rfl)(hx:Loc X.env.scope x:=by first|exact Or.inl rfl|exact Or.inr rfl)(hf:X.fn x=true\/X.env.scope.names.lookup x=some .local:=by first|exact Or.inl rfl|exact Or.inr rfl):q9 X kd (.Name x pos) (gN i):=⟨_,SB hN hi hx hf⟩
def jF{gs}{j m:Nat}(h:CT X kd es gs)(hc:X.calm=true:=by rfl)(hn:(assignEach es X.env).length=m:=by rfl)(hst:(assignEach es X.env).findIdx? (·.1)=none:=by rfl):q9 X kd (.Tuple es j pos) (gT m gs):=h.elim λ_ h=>⟨_,Ul hc h hn hst⟩
def jQ{a gs}(h1:q9 X kd a g)(h2:CT X kd es gs)(hs:(assignEach (a::es) X.env).map (·.2)=assign a X.env::(assignEach es X.env).map (·.2):=by rfl):CT X kd (a::es) (Wp g gs):=h1.elim λ_ h1=>h2.elim λ_ h2=>⟨_,xQ h1 h2 hs⟩
def jC:CT X kd [] Ej:=⟨_,Va⟩
def i9{body f}(hi:AI X kd tg iter fi)(hg:q9 X kd tg g)(hb:Sx X kd body f)(hp:PassesOwn (model X.prog X.w) X.A X.env X.xe:=by exact PassesOwn.never)(hc:X.calm=true:=by rfl)(hs:∀x,foldedSetIterable iter X.env x=pure x:=by exact λ_=>rfl):Ld X kd (.For tg iter body [] pos) (y9 fi g f):=hg.elim λ_ hg=>NA hp hc hi hg hb hs
def jk(he:AE X kd e fe)(hg:q9 X kd tg g)(hs:swapsWithSole [tg] e pos.line X.env=pure false:=by rfl)(hw:swappedStores [tg] e X.env=pure none:=by rfl)(h1:(assignEach [tg] X.env).map (·.2)=[assign tg X.env]:=by rfl):Ld X kd (.Assign [tg] e pos) (XW fe g):=hg.elim λ_ hg=>L_ he hg hs hw h1
theorem cm(hi:uo X kd tg iter fi)(hg:∀cl s H fp,AG (yX X (C4 (uj tg) X.N cap) scope cl s H fp) kd tg (qZ 0 cap) g)(ht:∀cl s H fp,H0 (yX X (C4 (uj tg) X.N cap) scope cl s H fp) ifs<|Ai X.K kd tt)(he:∀cl s H fp,AE (yX X (C4 (uj tg) X.N cap) scope cl s H fp) kd elt fe)
 (hc:X.calm=true:=by rfl) (hk:scope.kind = .function:=by rfl) (hcap:Qp (C4 (uj tg) X.N cap) X.N scope.names X.env.scope.names cap=true:=by kernel_rfl) (hs:∀x,foldedSetIterable iter X.env x=pure x:=by exact λ_=>rfl):AE X kd (.ListComp elt [⟨tg,iter,ifs,0⟩] scope pos) (xM fi cap g tt fe):=Aj hc hi hk hcap Jd hg ht he hs
theorem gJ{z}{i:Nat}{y py spos}(hN:X.N.Nodup)(hi:uo X kd tg iter fi)(hg:∀cl s H fp,AG (yX X (C4 (uj tg) X.N cap) scope cl s H fp) kd tg (qZ 0 cap) g)(ht:∀cl s H fp,H0 (yX X (C4 (uj tg) X.N cap) scope cl s H fp) ifs<|Ai X.K kd tt)(he:∀cl s H fp,AE (yX X (C4 (uj tg) X.N cap) scope cl s H fp) kd elt fe)
 (hiy:X.N[i]? = some y:=by rfl) (hy:Loc X.env.scope y:=by first|exact Or.inl rfl|exact Or.inr rfl) (hf:X.fn y=true\/X.env.scope.names.lookup y=some .local:=by first|exact Or.inl rfl|exact Or.inr rfl) (hsw:swapsWith (.ListComp elt [⟨tg,iter,ifs,0⟩] scope pos) (some<|.Name y py) spos.line X.env=pure true:=by rfl)
 (hc:X.calm=true:=by rfl) (hk:scope.kind = .function:=by rfl) (hcap:Qp (C4 (uj tg) X.N cap) X.N scope.names X.env.scope.names cap=true:=by kernel_rfl) (hs:∀x,foldedSetIterable iter X.env x=pure x:=by exact λ_=>rfl):Ld X kd (.Assign [.Name y py] (.ListComp elt [⟨tg,iter,ifs,0⟩] scope pos) spos) (zr z i<|xM fi cap g tt fe):=BN hN hiy hy hf hsw hc hi hk hcap Jd hg ht he hs
end
def Az(ta:TF)(f g:VF):VF:=λas=>(ta as).bind λp=>if p.1=true then f p.2 else g p.2
def Py{X:Cx}{kd:KD}{n:Nat}{c:Expr}{sts rest:List Stmt}{ta:TF}{f g:VF}{pos:Pos}(hc:AT X kd c ta)(ha:uA X kd n sts f)(hb:uA X kd n rest g):uA X kd n (.If c sts [] pos::rest) (Az ta f g):=by
 with_unfolding_all exact(ZQ (Yp (BG hc ha RO) hb) λD σ H h=>by
  obtain⟨F,B,ad,as,d,as',R,e,q⟩:=h;obtain⟨⟨p,as1⟩,h1,e⟩:=bS_<|e;refine⟨F,B,ad,as,p,as1,R,h1,λad' H' R' g=>?_⟩;cases p with
  |true=>exact⟨F,B,ad',as1,d,as',R',e,λσ' ad2 H2 v s R2 g2 rp=>q σ' ad2 H2 v s R2 (g.trans g2) rp⟩
  |false=>exact⟨F,B,ad',as1,d,as',R',e,λσ' ad2 H2 v s R2 g2 rp=>q σ' ad2 H2 v s R2 (g.trans g2) rp⟩)
def tu{X:Cx}{kd:KD}{n:Nat}{e tg:Expr}{fa:EF}{S:List Nat}{g:GF}{pos:Pos}(hS:∀i,i<n->i ∉ S)(he:AE X kd e fa)(hg:AG X kd tg S g)(hs:swapsWithSole [tg] e pos.line X.env=pure false)(hw:swappedStores [tg] e X.env=pure none)(h1:(assignEach [tg] X.env).map (·.2)=[assign tg X.env]):
 AP X kd n (.Assign [tg] e pos) (XW fa g):=by with_unfolding_all exact(xm (Lw he hg hs hw h1) λD σ H h=>by
 obtain⟨F,B,ad,as,o,R,e,q⟩:=h;obtain⟨⟨p,as1⟩,h1,e⟩:=bS_<|e;obtain⟨⟨x,as2⟩,h2,e⟩:=bS_ e;obtain⟨as3,h3,e⟩:=bS_ e;cases e;refine⟨F,B,ad,as,p,as1,R,h1,λv T' ad' H' R' rv g1=>?_⟩;obtain⟨ad2,R2,rp,le⟩:=ZV R' rv h2;exact⟨F,B,ad2,as2,_,as3,R2,rp,h3,λσ' ad' H' R' g' s=>q σ' ad' H' (λi hi=>s i<|hS i hi) R'<|(g1.trans<|Grow.less le).trans g'⟩)
def sC(as:AS):AS:=as.map<|Option.map O.frz
def BU{a:Addr}(z:Gw [] (λ_=>[]) a):False:=z.elim ⋯ λ⟨j,y⟩=>nomatch y
def Rel.lendA{K:zzA}{kd:KD}{F B:Addr->Prop}{ad:Ad}{as:AS}{σ:St}{H:Hp}(R:Rel K kd F B [] ad as σ H):Rel K kd F B [] (λ_=>[]) (sC as) σ H:=by
 refine⟨by unfold sC;rw[zzB];exact R.len,λ_ _=>rfl,λ_=>zyI,(λ_ _ _ x=>nomatch x),zyI,(λ_ _ x=>nomatch x),R.ftr,λa z=>⟨(R.btr a z).1,(R.btr a z).2.1,BU⟩,λa z=>(BU z).elim,λi s e=>?_⟩;unfold sC at e;rw[zzI]at e;obtain⟨s0,k,e1⟩:=zzW.mp e;subst e1;cases s0 with
 |none=>rfl
 |some o=>
  obtain⟨R',v,hv,rp⟩:=R.frz k;exact⟨v,hv,.lf<|rp.less λa z=>z.imp id λy=>(BU y).elim⟩
def gA:RV->Option D
 | .ow (.lf _ d)=>if zE d=true then some d else none
 |_=>none
def Uy(f:EF):EF:=λas=>(f<|sC as).bind λp=>(gA p.1).bind λd=>some (.ow<|.lf true d,as)
def TU{X:Cx}{kd:KD}{e:Expr}{f:EF}(he:AE X kd e f):AE X kd e (Uy f):=by
 with_unfolding_all exact(yb he λσ H Q h=>by
  obtain⟨F,B,ad,as,r,as',R,e,q⟩:=h;obtain⟨⟨r1,as1⟩,h1,e⟩:=bS_<|e;obtain⟨d,h2,e⟩:=bS_ e;cases e;refine⟨F,B,λ_=>[],_,r1,as1,R.lendA,h1,λv T ad' H' R' rv g=>?_⟩;obtain⟨R2,g2⟩:=R.more λb u hb=>g.keep b u hb BU
  match r1,h2,rv with
  | .ow (.lf st d0),h2,rv=>
   obtain⟨hf,e⟩:=zq<|h2;cases e;cases rv with
   |lf rp=>exact q v [] ad H' R2 (.lf<|rp.flat hf) g2)
def Fq(K:zzA)(mg:Str->Option Value)(x:Str)(st:Stmt):Prop:=∃f d,Fun K x x st f d/\mg x=some (.ref f)
def Cn(x:Str)(P:Program)(w:World)(K:zzA)(mg:Str->Option Value)(base:Heap)(k:Nat)(sp:Sp):Prop:=∃f d ps,FnOk P w K mg base Ys k f d ps sp/\mg x=some (.ref f)/\W.keepIn K (.ref f)=true/\Binds K d ps []
def Mq(K:zzA)(kd:KD)(c m q:Str)(st:Stmt):Prop:=∃f d,Meth K (kd.c c) m f/\Fun K m q st f d
def Cm(c m:Str)(P:Program)(w:World)(K:zzA)(mg:Str->Option Value)(base:Heap)(kd:KD)(k:Nat)(sp:Sp):Prop:=CI K kd mg c (kd.c c)/\∃f d ps,Meth K (kd.c c) m f/\FnOk P w K mg base Ys k f d ps sp/\Binds K d ps []
abbrev Bd(x q:Str)(st:Stmt)(ps:List Str):Prop:=∀(kV doc pm:Value) (an:Option Addr) (cdv ct:Value) (us:List Value),us.length=ps.length->bindArgs (W.fnOf x q (RN st) (v7 st) (zR st) .none kV doc pm an cdv ct) ⟨us,[]⟩=pure (ps.zip us)
def i8{α:Type}{P:List α->Prop}(h:∀a b c d e f g,P [a,b,c,d,e,f,g]):∀us:List α,us.length=7->P us
 | [a,b,c,d,e,f,g],_=>h a b c d e f g
section
variable{P:Program}{w:World}{K:zzA}{mg:Str->Option Value}{base:Heap}{kd:KD}{x q c m:Str}{st:Stmt}{N:List Str}{n k:Nat}{sp:Sp}
def Et(Q:Fq K mg x st)(g:∀{f d},Fun K x x st f d->FnScope N (N.take n) (zR st)->FnOk P w K mg base Ys k f d (N.take n) sp)
 (S:FnScope N (N.take n) (zR st):=by exact pf) (h:Bd x x st (N.take n):=by first|exact λ_ _ _ _ _ _=>pR λ_=>rfl|exact λ_ _ _ _ _ _=>pB λ_ _=>rfl|exact λ_ _ _ _ _ _=>nB λ_ _ _=>rfl|exact λ_ _ _ _ _ _=>mG λ_ _ _ _=>rfl|exact λ_ _ _ _ _ _=>nW λ_ _ _ _ _=>rfl|exact λ_ _ _ _ _ _=>l6_ λ_ _ _ _ _ _=>rfl):Cn x P w K mg base k sp:=by
 obtain⟨f,d,F,e⟩:=Q;exact⟨f,d,_,g F S,e,F.kp,F.binds h⟩
def WL(C:CI K kd mg c (kd.c c))(Q:Mq K kd c m q st)(g:∀{f d},Fun K m q st f d->FnScope N (N.take n) (zR st)->FnOk P w K mg base Ys k f d (N.take n) sp)
 (S:FnScope N (N.take n) (zR st):=by exact pf) (h:Bd m q st (N.take n):=by first|exact λ_ _ _ _ _ _=>pR λ_=>rfl|exact λ_ _ _ _ _ _=>pB λ_ _=>rfl|exact λ_ _ _ _ _ _=>nB λ_ _ _=>rfl|exact λ_ _ _ _ _ _=>mG λ_ _ _ _=>rfl|exact λ_ _ _ _ _ _=>nW λ_ _ _ _ _=>rfl|exact λ_ _ _ _ _ _=>i8 λ_ _ _ _ _ _ _=>rfl):Cm c m P w K mg base kd k sp:=by
 obtain⟨f,d,e,F⟩:=Q;exact⟨C,f,d,_,e,g F S,F.binds h⟩
def oO(Q:Fq K mg x st)(N:List Str)(n:Nat)(S:FnScope N (N.take n) (zR st):=by exact pf)(h:Bd x x st (N.take n):=by first|exact λ_ _ _ _ _ _=>pR λ_=>rfl|exact λ_ _ _ _ _ _=>pB λ_ _=>rfl|exact λ_ _ _ _ _ _=>nB λ_ _ _=>rfl|exact λ_ _ _ _ _ _=>mG λ_ _ _ _=>rfl|exact λ_ _ _ _ _ _=>nW λ_ _ _ _ _=>rfl):Cn x P w K mg base k (XX K kd λ_=>none):=Et Q (λ_ _=>JX) S h
def Y0{cc:SF}(Q:Fq K mg x st)
 (hb:N.Nodup->∀(f:Addr) (cdv:Value) (A:Around) (outer:List Env) (s:Shared) (H:Hp) (E:XK),Room k (A.deeper<|envOfC x (zR st) s.heap.objs.size f cdv)->Sx (RA Ys P w K mg base N x (zR st) f cdv A outer s H E).nox kd (v7 st) cc)
 (S:FnScope N (N.take n) (zR st):=by exact pf) (h:Bd x x st (N.take n):=by first|exact λ_ _ _ _ _ _=>pR λ_=>rfl|exact λ_ _ _ _ _ _=>pB λ_ _=>rfl|exact λ_ _ _ _ _ _=>nB λ_ _ _=>rfl|exact λ_ _ _ _ _ _=>mG λ_ _ _ _=>rfl|exact λ_ _ _ _ _ _=>nW λ_ _ _ _ _=>rfl):
 Cn x P w K mg base (k+1) (XX K kd<|xZ N.length (N.take n).length cc):=Et Q (λF S=>O3 F S<|hb S.nd _) S h
def N2{cc:SF}(C:CI K kd mg c (kd.c c))(Q:Mq K kd c m q st)
 (hb:N.Nodup->∀(f:Addr) (cdv:Value) (A:Around) (outer:List Env) (s:Shared) (H:Hp) (E:XK),Room k (A.deeper<|envOfC q (zR st) s.heap.objs.size f cdv)->Sx (RA Ys P w K mg base N q (zR st) f cdv A outer s H E).nox kd (v7 st) cc)
 (S:FnScope N (N.take n) (zR st):=by exact pf) (h:Bd m q st (N.take n):=by first|exact λ_ _ _ _ _ _=>pR λ_=>rfl|exact λ_ _ _ _ _ _=>pB λ_ _=>rfl|exact λ_ _ _ _ _ _=>nB λ_ _ _=>rfl|exact λ_ _ _ _ _ _=>mG λ_ _ _ _=>rfl|exact λ_ _ _ _ _ _=>nW λ_ _ _ _ _=>rfl):
 Cm c m P w K mg base kd (k+1) (XX K kd<|xZ N.length (N.take n).length cc):=WL C Q (λF S=>O3 F S<|hb S.nd _) S h
def N3{g tbl}{k':Nat}(C:Cm c m P w K mg base kd k' (XX K kd g))(h:MT P w K mg base kd m k tbl)(hk:k'<=k:=by decide):MT P w K mg base kd m k ((c,g)::tbl):=by
 obtain⟨ci,f,d,ps,e,F,b⟩:=C;exact u_ ci e F hk b h
def tV{g}{k':Nat}(C:Cm c m P w K mg base kd k' (spS K kd g))(hk:k'<=k:=by decide):MS P w K mg base kd m k c g:=by
 obtain⟨ci,f,d,ps,e,F,b⟩:=C;exact mh ci e F b hk
end
section
variable{X:Cx}{kd:KD}{e:Expr}{es:List Expr}{fr:AF}{pos p:Pos}{x c:Str}{k n:Nat}
def cn{gg}(C:Cn x X.prog X.w X.K X.mg X.base k (XX X.K kd gg))(hr:Room n X.A)(ha:AA X kd (e::es) fr)(hn:k<=n:=by omega)(hg:Gl X x:=by rfl)(hdb:(x==("__debug__":Str))=false:=by decide)(he:starEach (e::es) X.env=(false,eval e X.env)::starEach es X.env:=by rfl)(hpl:(backTo pos<|starEach es X.env).any (·.1)=false:=by rfl):
 AE X kd (.Call (.Name x p) (e::es) [] pos) (ze fr gg):=by
 obtain⟨f,d,ps,F,m,kp,b⟩:=C;exact DS F (hr.mono hn) hg m kp b vO ha hdb he hpl
def j_{g}(C:Cm c "__init__" X.prog X.w X.K X.mg X.base kd k (uV X.K kd c g))(hr:Room n X.A)
 (ha:AA X kd (e::es) fr) (hn:k+1<=n:=by omega) (hg:Gl X c:=by rfl) (hdb:(c==("__debug__":Str))=false:=by decide) (he:starEach (e::es) X.env=(false,eval e X.env)::starEach es X.env:=by rfl) (hpl:(backTo pos<|starEach es X.env).any (·.1)=false:=by rfl):
 AE X kd (.Call (.Name c p) (e::es) [] pos) (ze fr g):=by
 obtain⟨ci,f,d,ps,me,F,b⟩:=C;exact J9 rfl (ci.mk' me) F (hr.mono hn) hg ci.mg b vO ha hdb he hpl
end
section
variable{X:Cx}{kd:KD}{n:Nat}{tg e iter:Expr}{body:List Stmt}{fi:IF}{fa:EF}{f:SF}{S:List Nat}{g:GF}{pos:Pos}
def gv(hi:AI X kd tg iter fi)(hg:AG X kd tg S g)(hb:Jz X kd n body f)(hp:PassesOwn (model X.prog X.w) X.A X.env X.xe:=by exact PassesOwn.never)(hc:X.calm=true:=by rfl)(hs:∀x,foldedSetIterable iter X.env x=pure x:=by exact λ_=>rfl)(hS:∀i,i<n->i ∉ S:=by decide):AP X kd n (.For tg iter body [] pos) (y9 fi g f):=rg hS hp hc hi hg hb hs
end
section
variable{X:Cx}{kd:KD}{e:Expr}{es:List Expr}{fr:AF}{pos pos' p:Pos}{x:Str}{i j k n:Nat}{g:List wB->O->Option O}
def kI(C:Cn x X.prog X.w X.K X.mg X.base k (FS X.K kd g))(hr:Room j X.A)(ha:AA X kd (e::es) fr)(hn:k<=j:=by omega)(hg:Gl X x:=by rfl)(hdb:(x==("__debug__":Str))=false:=by decide)(he:starEach (e::es) X.env=(false,eval e X.env)::starEach es X.env:=by rfl)(hpl:(backTo pos<|starEach es X.env).any (·.1)=false:=by rfl)
 (hs:swapsWith (.Call (.Name x p) (e::es) [] pos) none pos'.line X.env=pure false:=by rfl):AP X kd n (.Expr (.Call (.Name x p) (e::es) [] pos) pos') (Yc i fr g):=by
 obtain⟨f,d,ps,F,m,kp,b⟩:=C;exact Me F (hr.mono hn) hg m kp b vO ha hdb he hpl hs
def j4(C:Cn x X.prog X.w X.K X.mg X.base k (FS X.K kd g))(hr:Room j X.A)(ha:AA X kd (e::es) fr)(hn:k<=j:=by omega)(hg:Gl X x:=by rfl)(hdb:(x==("__debug__":Str))=false:=by decide)(he:starEach (e::es) X.env=(false,eval e X.env)::starEach es X.env:=by rfl)(hpl:(backTo pos<|starEach es X.env).any (·.1)=false:=by rfl)
 (hs:swapsWith (.Call (.Name x p) (e::es) [] pos) none pos'.line X.env=pure false:=by rfl):Ld X kd (.Expr (.Call (.Name x p) (e::es) [] pos) pos') (Yc i fr g):=by
 obtain⟨f,d,ps,F,m,kp,b⟩:=C;exact OL F (hr.mono hn) hg m kp b vO ha hdb he hpl hs
end
def kdN{P:Program}{w:World}{K:zzA}{c:Str->Addr}:q_ P w K (kdL [] c):=rM λp m=>absurd m zxA
section
variable{K:zzA}{mg:Str->Option Value}{h:Heap}{KL:List (Addr×List (Key×V))}{x c m q:Str}{st:Stmt}{f C:Addr}
def lO(X:K.In h)(G:h.Ns mainGlobals mg)(a:W.nsIn K mainGlobals x=some (some<|.ref f))(l:∃d,Fun K x x st f d):Fq K mg x st:=⟨f,l.elim λd F=>⟨d,F,W.mg_of X G a⟩⟩
def nO(X:K.In h)(G:h.Ns mainGlobals mg)(a:W.nsIn K mainGlobals c=some (some<|.ref C))(p1:W.plainGet K C Str.empty=true)(p2:W.hasDictIn K C=true)(p3:W.plainOver K C=true)(p4:W.findIn K (.ref C) "__setattr__"=some (some<|.builtin "object.__setattr__"))(p5:W.makesIn K C=true)(p6:W.keepIn K (.ref C)=true):CI K (kdL KL<|Gu mg) mg c ((kdL KL<|Gu mg).c c):=by
 have e:(kdL KL<|Gu mg).c c=C:=NX<|W.mg_of X G a;rw[e];exact⟨e,⟨p1,p2,p3,p4⟩,p5,p6,W.mg_of X G a⟩
def nA(X:K.In h)(G:h.Ns mainGlobals mg)(a:W.nsIn K mainGlobals c=some (some<|.ref C))(p1:W.findIn K (.ref C) m=some (some<|.ref f))(p2:W.isFn K (.ref f)=true)(p3:W.keepIn K (.ref f)=true)(l:∃d,Fun K m q st f d):Mq K (kdL KL<|Gu mg) c m q st:=by
 have e:(kdL KL<|Gu mg).c c=C:=NX<|W.mg_of X G a;obtain⟨d,F⟩:=l;exact⟨f,d,by rw[e];exact⟨p1,p2,p3⟩,F⟩
def mn(X:K.In h)(G:h.Ns mainGlobals mg)(a:W.nsIn K mainGlobals c=some (some<|.ref C))(p:W.findIn K (.ref C) m=some none):yG K ((kdL KL<|Gu mg).c c) m:=by
 have e:(kdL KL<|Gu mg).c c=C:=NX<|W.mg_of X G a
 rwa [e]
end
end PF
end
section
namespace L2
open PySem PySem.Spec PyProof.Rows
end L2
namespace PF
open PySem PySem.Spec PyProof.Rows L2
def iR(i:Nat):List RV->Option (List RV)
 | .bo a::r=>if a=i then some r else none
 |_=>none
def Ym(i:Nat)(fr:AF)(g:List wB->O->Option (D×O)):EF:=λas=>(fr as).bind λq=>(iR i q.1).bind λrs=>(VE i q.2 rs).bind λxs=>(q.2[i]?).bind λs=>s.bind λo=>(g xs o).bind λz=>if z.2.str=true then some (.ow<|.lf true z.1,q.2.set i<|some z.2)else none
section
variable{X:Cx}{kd:KD}{e:Expr}{es:List Expr}{fr:AF}{pos p:Pos}{n k i:Nat}
def DG{K F B ad σ H vs rs rs'}(h:RVs K kd F B ad σ H vs rs)(e:iR i rs=some rs'):∃v ws,vs=v::ws/\σ[i]? = some (some v)/\RVs K kd F B ad σ H ws rs':=by
 cases h with
 |nil=>cases e
 |cons h t=>
  rename_i r _ _;cases r with
  |ow o=>cases e
  |bo a=>
   obtain⟨rfl,e'⟩:=zq e;cases e';exact⟨_,_,rfl,h.2,t⟩
def AZ{g σ H Q E}(h:al X.K kd (Ym i fr g) σ H Q):CL (spS X.K kd g) [] E (AB X.K kd fr) σ H Q:=by
 obtain⟨F,B,ad,as,r,as',R,e,q⟩:=h;obtain⟨⟨rs0,as2⟩,h5,z0⟩:=bS_<|e;obtain⟨rs,h1,z1⟩:=bS_ z0;obtain⟨xs,h6,z2⟩:=bS_ z1;obtain⟨s,k2,z3⟩:=bS_ z2;obtain⟨o,e1,z4⟩:=bS_ z3;subst e1;obtain⟨⟨d,r⟩,h7,z5⟩:=bS_ z4;obtain⟨hst,z6⟩:=zq z5;cases z6;refine⟨F,B,ad,as,rs0,as2,R,h5,λvs ad2 H2 R2 rv2 g2=>?_⟩;show spS X.K kd g _ H2 Q E;rw[zyD];obtain⟨v,ws,rfl,hs,rv⟩:=DG rv2 h1;obtain⟨v',hv',ro'⟩:=R2.sl i _ k2;rw[hs]at hv';cases hv';have hi:=(zzG.mp k2).1;refine⟨λz=>Lv F B _ true z/\z ∉ ad2 i,ad2 i,v,ws,xs,o,d,r,rfl,λz hz=>R2.trk true z hz.1,R2.nd i,λz mz=>⟨(R2.gtr z<|.inr ⟨i,mz⟩).1,λy=>y.2 mz⟩,BY R2 rv h6,vN.lv (λst z hz=>?_) ro',h7,λu H' T' kp nd sub al ro3 rp=>?_⟩
 . rcases hz with(hz|hz)|hz
   . rw[hz.1];exact hz.2.1
   . exact hz.elim
   . exact .inr<|.inr ⟨i,hz⟩
 . have le:∀z,Lv F B (G1 _ (ad2 i) T') true z->Lv (λz=>Lv F B (Gw [] ad2) true z/\z ∉ ad2 i) (λ_=>False) (· ∈ T') true z:=λz hz=>by
    rcases hz with(hz|hz)|hz|hz
    . exact .inl<|.inl ⟨rfl,.inl<|.inl hz,λy=>(R2.gtr z<|.inr ⟨i,y⟩).2 hz.2⟩
    . exact .inl<|.inl ⟨rfl,.inl<|.inr hz,λy=>(R2.btr z hz).2.2<|.inr ⟨i,y⟩⟩
    . exact .inl<|.inl ⟨rfl,.inr hz.1,hz.2⟩
    . exact .inr hz
   have r0:vN X.K kd F B _ H' v r T':=Ro.monoS (λv d h=>Rp.less le h) (λz n y=>n<|le z y) hst ro3;obtain⟨R3,g3⟩:=R2.chg1 hi hs nd sub kp al r0;exact q u [] _ H' R3 (.lf<|rp.less λz y=>le z<|y.imp id<|uG R2)<|g2.trans g3
def TL(i:Nat){f fdt ps gg x}(F:FnOk X.prog X.w X.K X.mg X.base Ys k f fdt ps (spS X.K kd gg))(hr:Room n X.A)(hm:X.mg x=some (.ref f))(hk:W.keepIn X.K (.ref f)=true)
 (hb:Binds X.K fdt ps []) (ha:AA X kd (e::es) fr) (hn:k<=n:=by omega) (hg:Gl X x:=by rfl) (hdb:(x==("__debug__":Str))=false:=by decide) (he:starEach (e::es) X.env=(false,eval e X.env)::starEach es X.env:=by rfl) (hpl:(backTo pos<|starEach es X.env).any (·.1)=false:=by rfl):
 AE X kd (.Call (.Name x p) (e::es) [] pos) (Ym i fr gg):=by with_unfolding_all exact(yb (Nz F (hr.mono hn) hg hm hk hb .nil vO ha hdb he hpl) λσ H Q h=>AZ h)
end
def ju:Key->D
 | .inl i=>.int i
 | .inr x=>.str x
def pQ:D->Option R0
 | .dct kvs=>some (.fl<|kvs.map λp=>ju p.1)
 |_=>none
def Kb:List D->Option R0:=qE pQ
theorem Tv{α β:Type}{F:α->β->Prop}:∀{xs:List α}{us:List β},xs.length=us.length->(∀(i:Nat) x u,xs[i]? = some x->us[i]? = some u->F x u)->Paired F xs us
 | [],[],_,_=>.nil
 |x::xs,u::us,h,f=>.cons (f 0 x u rfl rfl)<|Tv (Nat.succ.inj h) λi a b h1 h2=>f (i+1) a b h1 h2
def HK{α β:Type}{F:α->β->Prop}{xs:List α}{us:List β}(h:Paired F xs us):∀{i:Nat}{x u},xs[i]? = some x->us[i]? = some u->F x u:=by
 induction h with
 |nil=>intro i x u h1;simp at h1
 |cons a _ ih=>
  intro i x u h1 h2;cases i with
  |zero=>cases h1;cases h2;exact a
  |succ i=>exact ih h1 h2
def IW{K kd O H}{vs:List (Key×V)}{ds:List (Key×D)}(h:RpM K kd O H vs ds):RpL K kd O H (vs.map λp=>kV p.1) (ds.map λp=>ju p.1):=
 RpM.ind (P:=λvs ds=>RpL K kd O H (vs.map λ(p:Key×V)=>kV p.1)<|ds.map λ(p:Key×D)=>ju p.1) .nil (λ{k v d vs ds} _ _ ih=>.cons (by
  cases k with
  |inl i=>exact .int i
  |inr x=>exact .str x) ih) h
def V7{X:Cx}{kd:KD}(hc:X.calm=true)(hk:KdOk X kd):Z8 X kd (.type "list") Kb:=by
 intro pins s σ H xs us Q I r h;obtain⟨O,ds,z,ht,vl,he,q⟩:=h;obtain⟨x,d,rfl,vx,he⟩:=Ur vl he;cases vx with
 |dct hr rm=>
  cases he;obtain⟨u,rfl,ru⟩:=vals1 r;cases ru;obtain⟨z,hd,vs,rel,dd⟩:=PN I hk hr;obtain⟨ep,hat⟩:=dd.dictAt;have ln:=Paired.length rel;refine W.kdl_call (W.kdl_dict (knd:=yB X.prog X.w) (kvs:=vs) (ep:=ep) hd) (I.ok.hd hc) hat (by rw[<-ln];exact z) λh' tk acc' c' kp hS hacc=>?_;rename_i kvs _;have hz:(kvs.map λp=>kV p.1).length<=sizeLine:=by rw[zzB];exact z
  have vv:zQ (kvs.map λp=>kV p.1) acc'.toList:=Tv (by rw[zzB,ln,zyS];exact hacc.1.symm) λi x u h1 h2=>by
   rw[zzI]at h1;obtain⟨p,hp,rfl⟩:=zzW.mp h1;obtain⟨k,y,hy,hkk⟩:=hacc.2 i u (by rw[<-Array.getElem?_toList];exact h2);have e1:=HK rel hp hy
   rcases yS hkk with⟨j,t,ek,rfl⟩|⟨z,t,ek,rfl⟩<;>(rw[show p.1=k from e1.1,ek];exact⟨t,rfl⟩)
  exact⟨.ref s.heap.objs.size,_,I.laid (t':=tk) kp (zzN _) (show xY X.prog X.w _ h' _ (.lst _)from⟨hz,acc'.toList,c',vv,by rw[Array.toArray_toList];exact hS⟩),rfl,We q (IW rm) _<|I.hok.fresh<|zzN _⟩
 |_=>cases he
abbrev zJ(n:Nat)(x:Int):Prop:=0<=x/\x<(n:Int)
structure LJ(n:Nat)(j:Int->Int->Int)(e:Int):Prop where
 cl:∀a b,zJ n a->zJ n b->zJ n (j a b)
 ce:zJ n e
 ul:∀a,zJ n a->j e a=a
 ur:∀a,zJ n a->j a e=a
 as:∀a b c,zJ n a->zJ n b->zJ n c->j (j a b) c=j a (j b c)
structure LD(n m:Nat)(j:Int->Int->Int)(e:Int)(d:Int->Int->Int):Prop where
 cl:∀c a,zJ m c->zJ n a->zJ n (d c a)
 em:d 0 e=e
 dn:∀a i b k,zJ n a->zJ m i->zJ n b->zJ m k->d ((i+k)%m) (j a b)=j (d i a) (d k b)
def Uo{n:Nat}(hn:0<n):zJ n (x%n):=⟨zyM _ ⋯,zyG _ ⋯⟩
def LD.congr{n m:Nat}(hm:0<m)(hj:LJ n j e)(h:LD n m j e d)(q:∀a b,zJ n a->zJ n b->j' a b=j a b)(p:∀c a,zJ m c->zJ n a->d' c a=d c a):LD n m j' e d':=by
 refine⟨λc a r f=>by rw[p c a r f];exact h.cl c a r f,by rw[p 0 e ⟨⋯,⋯⟩ hj.ce];exact h.em,λa i b k f l g o=>?_⟩;rw[q a b f g,p _ _ (Uo hm)<|hj.cl a b f g,p i a l f,p k b o g,q _ _ (h.cl i a l f)<|h.cl k b o g];exact h.dn a i b k f l g o
def jS(n:Nat)(a b:Int):Int:=(a+b)%n
def jM(a b:Int):Int:=if b > a then b else a
def jL(a b:Int):Int:=if b=0 then a else b
def km{n:Nat}(hn:0<n):LJ n (jS n) 0:=by
 refine⟨λa b _ _=>Uo hn,⟨⋯,⋯⟩,λa d=>?_,λa d=>?_,λa b c _ _ _=>?_⟩
 . unfold jS;rw[Int.zero_add,Int.emod_eq_of_lt d.1 d.2]
 . unfold jS;rw[Int.add_zero,Int.emod_eq_of_lt d.1 d.2]
 . unfold jS;rw[Int.emod_add_emod,Int.add_emod_emod,Int.add_assoc]
def gB{n:Nat}(hn:0<n):LJ n jM 0:=by
 refine⟨λa b d e=>?_,⟨⋯,⋯⟩,λa d=>?_,λa d=>?_,λa b c _ _ _=>?_⟩<;>unfold jM<;>(try unfold jM)<;>grind
def j7{n:Nat}(hn:0<n):LJ n jL 0:=by
 refine⟨λa b d e=>?_,⟨⋯,⋯⟩,λa d=>?_,λa d=>?_,λa b c _ _ _=>?_⟩<;>unfold jL<;>grind
def four{P:Int->Prop}(h0:P 0)(h1:P 1)(h2:P 2)(h3:P 3)(h:zJ 4 a):P a:=by
 rcases(show a=0\/a=1\/a=2\/a=3 by omega)with rfl|rfl|rfl|rfl<;>assumption
def f4{P:Int->Prop}(h:∀a ∈ ([0,1,2,3]:List Int),P a){a:Int}(ha:zJ 4 a):P a:=four (h 0<|by decide) (h 1<|by decide) (h 2<|by decide) (h 3<|by decide) ha
def gj{n m:Nat}{g x0 x1:Int}(hn:0<n)(hm:0<m)(g0:0<g)(gn:g ∣ n)(gm:g ∣ m):LD n m (jS n) 0 (λc a=>(a*x0+c*((n:Int)/g)*x1)%n):=by
 refine⟨λc a _ _=>Uo hn,⋯,λa i b k _ _ _ _=>?_⟩;obtain⟨t,e⟩:=gm;have h:m*(n/g)=n*t:=by
  obtain⟨s,f⟩:=gn;rw[f,Int.mul_ediv_cancel_left _ ⋯,e];grind
 unfold jS;rw[<-Int.add_emod];generalize n/g=d at h;rw[Int.emod_def _ m,Int.emod_def (a+b) n];generalize (i+k)/m=q;generalize (a+b)/n=p;rw[show _*x0+_*d*x1=(a*x0+i*d*x1+(b*x0+k*d*x1))+n*(-(p*x0)-t*q*x1) by grind,Int.add_mul_emod_self_left]
def hU{n m:Nat}{r:Int->Int}(hm:0<m)(h0:r 0=0)(hc:∀a,zJ n a->zJ n (r a))(hr:∀a b,zJ n a->zJ n b->a<=b->r a<=r b):LD n m jM 0 (λ_ a=>r a):=by
 refine⟨λc a _ d=>hc a d,h0,λa i b k d _ e _=>?_⟩;unfold jM;have f:=hr a b d e;have g:=hr b a e d
 split<;>split<;>grind
def gC{n m:Nat}{r:Int->Int}(h0:r 0=0)(hc:∀a,zJ n a->zJ n (r a))(hr:∀a,zJ n a->a≠0->r a≠0):LD n m jL 0 (λ_ a=>r a):=by
 refine⟨λc a _ d=>hc a d,h0,λa i b k d _ e _=>?_⟩;unfold jL;have f:=hr b e
 split<;>split<;>grind
def u7{n1 n2:Nat}(hx:zJ n1 x)(hy:zJ n2 y):zJ (n1*n2) (x*n2+y):=by
 have b:0<=x*n2:=Int.mul_nonneg hx.1 ⋯;have a:x*n2<=(n1-1)*n2:=Int.mul_le_mul_of_nonneg_right ⋯ ⋯;rw[Int.sub_mul,Int.one_mul]at a;omega
def yf{n1 n2:Nat}(h2:0<n2)(h:zJ (n1*n2) p):zJ n1 (p/n2)/\zJ n2 (p%n2):=
 ⟨⟨Int.ediv_nonneg h.1 ⋯,Int.ediv_lt_of_lt_mul ⋯ (by have:=h.2;exact this)⟩,Uo h2⟩
def Vk{n2:Nat}(hy:zJ n2 y):(x*n2+y)/n2=x/\(x*n2+y)%n2=y:=by
 have a:(n2:Int)≠0:=⋯;constructor
 . rw[Int.add_comm,Int.add_mul_ediv_right _ _ a,Int.ediv_eq_zero_of_lt hy.1 hy.2,Int.zero_add]
 . rw[Int.add_comm,Int.add_mul_emod_self_right,Int.emod_eq_of_lt hy.1 hy.2]
def p8{n2:Nat}{p:Int}:(p/n2)*n2+p%n2=p:=by rw[Int.mul_comm];exact Int.mul_ediv_add_emod p n2
def jB(n2:Nat)(j1 j2:Int->Int->Int)(p q:Int):Int:=j1 (p/n2) (q/n2)*n2+j2 (p%n2) (q%n2)
def dB(n2:Nat)(d1 d2:Int->Int->Int)(c p:Int):Int:=d1 c (p/n2)*n2+d2 c (p%n2)
def M3{n k:Nat}(h:n<=8)(hk:8<=k:=by decide):n<=k:=zzO h hk
def Ew{n:Nat}(h:1<=n):(0:Int)<n:=Int.natCast_pos.mpr h
def tS{a:Int}{n:Nat}(h0:0<=a)(h1:a<n):a.toNat<n:=Int.ofNat_lt.mp (by rwa [zyX h0])
def mU{n:Nat}(h:n<=8)(hk:8<k:=by decide):(n:Int)<k:=Int.lt_of_le_of_lt (Int.ofNat_le.mpr h) hk
def iT{n:Nat}(h:zJ n x):x.toNat<n:=Int.ofNat_lt.mp (by rw[zyX h.1];exact h.2)
def iC{n:Nat}(h:zJ n x):((x.toNat:Nat):Int)=x:=zyX h.1
def wO(r:List Int)(v:Int):Int:=(r[v.toNat]?).getD 0
def yT(J:List (List Int))(w v:Int):Int:=wO ((J[w.toNat]?).getD []) v
def SE(J:List (List Int))(e:Int):List Int->Int
 | []=>e
 |x::t=>t.foldl (yT J) x
section
variable{n m:Nat}{J T:List (List Int)}{e:Int}
theorem Ee(h:LJ n (yT J) e):∀(t:List Int) (w:Int),zJ n w->(∀x ∈ t,zJ n x)->zJ n (t.foldl (yT J) w)
 | [],w,a,_=>a
 |v::t,w,a,k=>Ee h t _ (h.cl w v a<|k v<|zzF ..) λx m=>k x<|zzD _ m
def Z7(h:LJ n (yT J) e)(k:∀x ∈ r,zJ n x):zJ n (SE J e r):=by
 cases r with
 |nil=>exact h.ce
 |cons x t=>exact Ee h t x (k x ⋯) λy m=>k y<|zzD _ m
theorem QZ(h:LJ n (yT J) e):∀(t:List Int) (w:Int),zJ n w->(∀x ∈ t,zJ n x)->t.foldl (yT J) w=yT J w (SE J e t)
 | [],w,a,_=>(h.ur w a).symm
 |x::t,w,a,k=>by
  have b:=k x ⋯;have c:=λy m=>k y<|zzD _ m;show t.foldl _ _=yT J w (t.foldl _ x);rw[QZ h t _ (h.cl w x a b) c,QZ h t x b c,h.as _ _ _ a b<|Z7 h c]
def FP(h:LJ n (yT J) e)(k:∀x ∈ l,zJ n x)(k':∀x ∈ l',zJ n x):SE J e (l++l')=yT J (SE J e l) (SE J e l'):=by
 cases l with
 |nil=>exact(h.ul _<|Z7 h k').symm
 |cons x t=>
  show(t++l').foldl _ x=_;rw[List.foldl_append];exact QZ h l' _ (Z7 h k) k'
theorem LY(hm:0<m)(h:LJ n (yT J) e)(d:LD n m (yT J) e (yT T)):∀r:List Int,(∀x ∈ r,zJ n x)->SE J e (r.map<|yT T<|1%(m:Int))=yT T ((r.length:Int)%m) (SE J e r)
 | [],_=>by
  show e=yT T (0%m) e;rw[Int.zero_emod,d.em]
 |x::t,k=>by
  have b:=k x ⋯;have a:=λy m=>k y<|zzD _ m;have c:zJ m (1%m):=Uo hm;have f:∀y ∈ t.map (yT T<|1%m),zJ n y:=λy g=>by
   obtain⟨z,i,rfl⟩:=zxC.mp g;exact d.cl _ _ c<|a z i
  have j:SE J e (x::t)=yT J x _:=QZ h t x b a;have l:SE J e ((x::t).map _)=yT J _ _:=QZ h _ _ (d.cl _ _ c b) f;rw[l,LY hm h d t a,j,<-d.dn _ _ _ _ b c (Z7 h a) (Uo hm),<-Int.add_emod,zzT,Int.natCast_add,Int.add_comm t.length];rfl
end
local macro_rules | `(tactic| trivial)=>do `(tactic| first|with_reducible first|assumption|$(<-zqb "Int.natCast_nonneg _;Nat.le_refl _;Int.le_refl _;rfl;M3 a;Ew a;np2 a;nq1 a;nq2 a;Int.natCast_pos.mpr a;Nat.le_trans a d;bgL _;bgU a;mU a;zI _;bL0 a;bU0 a a;iL a;iU a a;iC a;iT a;stL a;stU a;lnK a a a;zi1 _;lnE a;ltL a;Int.toNat_of_nonneg a;tS a a;b6 a;Int.emod_nonneg _ d;Int.emod_lt_of_pos _ d"):tactic|decide|omega)
abbrev xx(x:Int):O:=.lf true<|.int x
abbrev sI(x:Int):Option O:=some<|xx x
abbrev sT(d:D):Option O:=some<|.lf true d
abbrev sN(os:List O):Option O:=some<|.nd .ls os
abbrev TZ:Type:=List<|List Int
abbrev DD:Type:=List<|Str×TZ
abbrev SS:Type:=List<|Str×List Int
def ND{f as as1 o}(h:f as=some (.ow o,as1))(hs:o.str=true):zv f as=some (.rt o):=by
 unfold zv;rw[h];show((if o.str=true then some o else none).bind _)=_;rw[if_pos hs];rfl
theorem Yj:∀xs:List Int,(xs.map xx).all O.isLf=true/\O.strs (xs.map xx)=true/\O.toDs (xs.map xx)=xs.map D.int
 | []=>⟨rfl,rfl,rfl⟩
 |x::r=>⟨(Yj r).1,(Yj r).2.1,congrArg _ (Yj r).2.2⟩
def SG(xs:List Int):(xs.map D.int).map (O.lf true)=xs.map xx:=by rw[zyA];rfl
def CB(ys)(w):(ys++[w]).map xx=ys.map xx++[O.lf true<|.int w]:=⋯
def ZZ(xs:List Int):(O.nd .ls<|xs.map xx).str=true/\(O.nd .ls<|xs.map xx).toD = .lst (xs.map D.int):=⟨(Yj xs).2.1,congrArg D.lst (Yj xs).2.2⟩
abbrev xJ(r:List Int):O:=.nd .ls<|r.map xx
abbrev zg(r:List Int):D:=.lst<|r.map D.int
theorem RZ:∀T:TZ,O.strs (T.map xJ)=true/\O.toDs (T.map xJ)=T.map zg
 | []=>⟨rfl,rfl⟩
 |r::T=>⟨by show(O.strs _&&O.strs _)=_;rw[(Yj r).2.1,(RZ T).1];rfl,by
  show D.lst _::O.toDs _=_;rw[(Yj r).2.2,(RZ T).2];rfl⟩
def OR{g fe as0 as1 y r o os}(h1:g y as0=some as1)(h2:fe as1=some (.ow o,as1))(hs:o.str=true)(h3:vP g Y2 fe as0 r=some os):vP g Y2 fe as0 (y::r)=some (o::os):=by
 unfold vP;rw[h1];show((fe as1).bind _)=_;rw[h2];show(if o.str=true then _ else _)=_;rw[if_pos hs,h3];rfl
theorem Zn:∀(n:Nat) (k:Int),(yY k n).length=n
 |0,_=>rfl
 |n+1,k=>by rw[Ue];exact congrArg _<|Zn n _
def IL{f as x}(h:WE f as x):∃o,zv f as=some (.rt o)/\o.str=true/\o.toD=x:=by
 obtain⟨o,b,a,c⟩:=h;exact⟨o,ND b a,a,c⟩
theorem R_:∀{n:Nat}{k:Int}{y:wB},y ∈ yY k n->∃b:Int,y=(true,.int b)/\k<=b/\b<k+n
 |0,_,_,h=>nomatch h
 |n+1,k,y,h=>by
  rw[Ue]at h
  rcases zzC.mp h with rfl|h
  . exact⟨k,rfl,by trivial,⋯⟩
  . obtain⟨b,e,a,c⟩:=R_ h;exact⟨b,e,⋯,⋯⟩
def Row(n:Nat)(r:List Int):Prop:=r.length=n/\∀x ∈ r,0<=x/\x<(n:Int)
def Tab(k n:Nat)(T:TZ):Prop:=T.length=k/\∀r ∈ T,Row n r
abbrev xI(T:TZ):D:=.lst<|T.map zg
def Z6{α:Type}{f}{l:List α}{i:Nat}{p}(h:l[i]? = some p):zD (.lst<|l.map f) (.int (i:Int))=some (.im<|f p):=by
 have h:=Ve (v:=f p) (by rw[zzI,h];rfl);show Jb _=_;rw[h];rfl
def qt{n k:Nat}{r}{v:Int}(hl:r.length=k)(hr:∀x ∈ r,zJ n x)(hv:zJ k v):zD (zg r) (.int v)=some (.im<|.int<|wO r v)/\zJ n (wO r v):=by
 have a:v.toNat<r.length:=by rw[hl];trivial
 have g:=zzE a;have e:wO r v=r[v.toNat]:=by unfold wO;rw[g];rfl
 rw[e];refine⟨?_,hr _ ⋯⟩;have:=Z6 (f:=D.int) g
 rwa [show v.toNat=v by trivial]at this
abbrev VZ(T:TZ)(w:Int):List Int:=(T[w.toNat]?).getD []
def Zg{k n:Nat}{T}{w:Int}(hT:Tab k n T)(hw:zJ k w):zD (xI T) (.int w)=some (.im<|zg<|VZ T w)/\Row n (VZ T w):=by
 have a:w.toNat<T.length:=by rw[hT.1];trivial
 have g:=zzE a;unfold VZ;rw[g];refine⟨?_,hT.2 _ ⋯⟩;have:=Z6 (f:=zg) g
 rwa [show w.toNat=w by trivial]at this
def rowAt{n:Nat}{r v}(hr:Row n r)(hv:zJ n v):zD (zg r) (.int v)=some (.im<|.int<|wO r v)/\zJ n (wO r v):=qt hr.1 hr.2 hv
theorem strs_snoc:∀(os:List O) (o:O),O.strs os=true->o.str=true->O.strs (os++[o])=true
 | [],o,_,h=>by show(o.str&&true)=_;rw[h];rfl
 |p::r,o,h,a=>by
  have h:=(zyB _ _).mp<|h;show(p.str&&O.strs (r++_))=_;rw[h.1,strs_snoc r o h.2 a];rfl
theorem Kp:∀(os:List O) (o:O),O.toDs (os++[o])=O.toDs os++[o.toD]
 | [],o=>rfl
 |p::r,o=>congrArg _<|Kp r o
structure Ows{α:Type}(toD:α->D)(Q:α->Prop)(os:List O)(l:List α):Prop where
 st:O.strs os=true
 ds:O.toDs os=l.map toD
 al:∀a ∈ l,Q a
 ln:os.length=l.length
def Ows.nil{α:Type}{toD}{Q:α->Prop}:Ows toD Q [] []:=⟨rfl,rfl,⋯,rfl⟩
def Ows.snoc{α:Type}{toD Q os l o}{a:α}(h:Ows toD Q os l)(h1:o.str=true)(h2:o.toD=toD a)(h3:Q a):Ows toD Q (os++[o]) (l++[a]):=
 ⟨strs_snoc os o h.st h1,(by rw[Kp,h.ds,h2,zyL];rfl),(λb m=>(zzM.mp m).elim (h.al b) λm=>(by rwa [zzR.mp m])),(by rw[zzJ,zzJ,h.ln];rfl)⟩
def BZ{as as1 a}{i:Nat}{os0 os o}(h:as[i]? = some (sN os0))(ha:a as=some (.ow o,as1))(h1:as1[i]? = some (sN os))(hl:os.length<sizeLine):yw (Yu i (dC a dN) Yt) as=some (.nx<|as1.set i<|sN<|os++[o]):=by
 unfold yw Yu;rw[h];have e:dC a dN as=some _:=Zr ha rfl;rw[e];show(Option.bind (match as1[i]? with|some (some<|.nd .ls os)=>_|_=>none) _)=_;rw[h1];show((Yt os _).bind _).bind _=_;have e2:Yt os [o]=some _:=if_pos hl;rw[e2];rfl
def mT{α:Type}{toD Q as a}{i:Nat}{os l}{x:α}(h:as[i]? = some (sN os))(ho:Ows toD Q os l)(hl:l.length<1000)(ha:WE a as (toD x))(hx:Q x):
 ∃os',Ows toD Q os' (l++[x])/\yw (Yu i (dC a dN) Yt) as=some (.nx<|as.set i<|sN os'):=by
 obtain⟨o,b,c,d⟩:=ha;exact⟨os++[o],ho.snoc c d hx,BZ h b h<|by rw[ho.ln];exact Vf ⋯⟩
def Ows.retB{α:Type}{toD Q as}{i:Nat}{os}{l:List α}(h:as[i]? = some (sN os))(ho:Ows toD Q os l):Rt (zv (fV i) as) (.lst<|l.map toD):=
 ⟨_,Qx h ho.st,ho.st,congrArg D.lst ho.ds⟩
structure OwsX{α:Type}(toD:α->D)(Q:Nat->α->Prop)(os:List O)(l:List α):Prop where
 st:O.strs os=true
 ds:O.toDs os=l.map toD
 al:∀i a,l[i]? = some a->Q i a
 ln:os.length=l.length
def D_{fr as rs g zs}(ha:WA fr as rs)(hg:g (rs.map (·.2))=some (.fl zs)):fP fr g as=some (.ow (.nd .ls (zs.map (OH (rs.all (·.1))))),as):=by
 unfold fP;rw[ha];show(views as _).bind _=_;rw[Wg];show(g _).bind _=_;rw[hg];show(if _=true then _ else _:Option RV).bind _=_;rw[if_pos ⋯];rfl
def Jm{a as x g zs}(ha:WE a as x)(hg:g [x]=some (.fl zs)):fP (aC a aN) g as=some (.ow<|.nd .ls<|zs.map<|O.lf true,as):=by
 have:=D_ (xC ha<|zj) hg
 rwa [show([(true,x)].all _)=true from rfl,QA]at this
def oZ{a as s r}(h:WD a as s (zg r)):fP (aC a aN) lstP as=some (.ow<|xJ r,as):=by
 have:=D_ (g:=lstP) (zc h<|zj) rfl
 rwa [zyA]at this
def sZ{a as s r}(h:WD a as s (zg r)):WE (fP (aC a aN) lstP) as (zg r):=⟨_,oZ h,(ZZ r).1,(ZZ r).2⟩
def rO{fr as os x}(h:WO fr as os)(hl:os.length<=sizeLine)(hs:O.strs os=true)(e:D.tup (O.toDs os)=x):WE (yL fr) as x:=by
 refine⟨_,FH h hl, ?_, ?_⟩
 . unfold XC
   split
   . exact hs
   . exact hs
 . unfold XC
   split
   . exact e
   . exact e
def He{l:List Int}(h:l.Pairwise (· <= ·)){i j:Nat}(hij:i<j)(hj:j<l.length):l[i]<=l[j]:=List.pairwise_iff_getElem.mp h i j ⋯ hj hij
def ZN{r a}(h:a.toNat<r.length):wO r a=r[a.toNat]:=by unfold wO;rw[zzE h];rfl
theorem MQ:∀l:List Int,WW (l.map D.int)=some l
 | []=>rfl
 |x::r=>by
  show(WW _).bind _=_;rw[MQ r];rfl
theorem Ows.frz{α:Type}{toD:α->D}{Q:α->Prop}{os:List O}{l:List α}(h:Ows toD Q os l):(O.nd .ls os).frz = .lf true (.lst<|l.map toD):=by
 show O.lf (O.strs os) (.lst _)=_;rw[h.st,h.ds]
def EO{as as2}{j:Nat}{ps fr os}(hj:as[j]? = some (sN ps))(hr:fr (as.set j<|some (O.nd .ls ps).frz)=some (os,as2)):dC (fV j) fr as=some ((O.nd .ls ps).frz::os,as2):=by
 unfold dC;rw[KI hj];show((JS as _).bind _)=_;rw[tN hj];show(fr _).bind _=_;rw[hr];rfl
def Sz{as as1 fr os}(h:fr as=some (os,as1))(hl:os.length<=sizeLine):yL fr as=some (.ow<|XC os,as1):=by
 unfold yL;rw[h];show(if os.length<=sizeLine then _ else _)=_;rw[if_pos hl]
def CY{f as ds}(h:WE f as (.lst ds)):Yd f as=some (ds.map λd=>(true,d),as):=by
 obtain⟨o,h1,h2,h3⟩:=h;unfold Yd;rw[h1];have e:Y8 as (.ow o)=some _:=rfl;show(Y8 as<|RV.ow o).bind (λq=>(PZ q.1).bind λds=>some (ds,q.2))=_;rw[e,h2,h3];show some _=_;rw[VS]
theorem T9:∀(l:List Int) (k:Nat) (h:k<l.length),(l[k]::l.eraseIdx k).Perm l
 |x::r,0,_=>List.Perm.refl _
 |x::r,k+1,h=>(List.Perm.swap _ _ _).trans<|(T9 r k _).cons x
abbrev Ru(n:Nat):List Int:=(List.range n).map λ(i:Nat)=>(i:Int)
abbrev WN(p:Str×List Int):D:=.tup [.str p.1,zg p.2]
def Sb{x y c}:zD (.lst [.int x,.int y]) (.int (if c=true then 1 else 0))=some (.im<|.int (if c=true then y else x)):=by cases c<;>rfl
abbrev Jw:Str:="abcdefghijklmnopqrstuvwxyz"
def AJ:∀k,k<26->Jw.cps.toList[k]? = some (97+k):=by decide +kernel
def Cr{i}(h0:0<=i)(h1:i<26):zD (.str Jw) (.int i)=some (.im<|.str ⟨#[97+i.toNat]⟩):=by
 show(if Jw.length<=sizeLine then(atI Jw.cps.toList i).bind _ else none)=_;have:=Ve<|AJ i.toNat ⋯;rw[show i.toNat=i by trivial]at this;rw[this];rfl
theorem Eo:∀l:List Str,Pz (l.map D.str)=some l
 | []=>rfl
 |x::r=>by
  show(Pz _).bind _=_;rw[Eo r];rfl
theorem nP:∀l:List Str,(∀s ∈ l,s.length=1)->(l.map (·.length)).sum=l.length
 | [],_=>rfl
 |x::r,h=>by
  show x.length+(r.map _).sum=r.length+1;rw[h x ⋯,nP r λs m=>h s<|zzD _ m];trivial
def Ih(a b:Str):(a++b).length=a.length+b.length:=by
 show(a++b).cps.size=a.cps.size+b.cps.size;rw[Str.cps_append,Array.size_append]
def TM{F}{n:Nat}(h:F.Perm (Ru n)):Row n F/\∀b:Int,0<=b->b<n->b ∈ F:=by
 refine⟨⟨by rw[h.length_eq,zzB,zyT],λx m=>?_⟩,λb c d=>h.mem_iff.mpr ?_⟩
 . obtain⟨i,a,rfl⟩:=zxC.mp<|h.mem_iff.mp m;have:=List.mem_range.mp a;trivial
 . exact zxC.mpr ⟨b.toNat,List.mem_range.mpr (by trivial),by trivial⟩
def Eu{F}{n:Nat}(h:F.Perm (Ru n)){v w}(hv:zJ n v)(hw:zJ n w)(e:wO F v=wO F w):v=w:=by
 have a:=(TM h).1.1;have nd:F.Nodup:=by
  refine h.nodup_iff.mpr<|List.pairwise_map.mpr<|List.nodup_range.imp λz q=>z ⋯
 rw[ZN ⋯,ZN ⋯]at e;have:=(List.getElem_inj nd).mp e;trivial
abbrev XI(p:Str×TZ):D:=.tup [.str p.1,xI p.2]
structure Alg(n m:Nat)(J:TZ)(e:Int)(Ds:DD):Prop where
 n1:1<=n
 n8:n<=8
 m1:1<=m
 m6:m<=6
 j:Tab n n J
 e0:0<=e
 en:e<n
 dl:Ds.length<=6
 ds:∀p ∈ Ds,Tab m n p.2
 nd:(Ds.map (·.1)).Nodup
structure LawA(n m:Nat)(J:TZ)(e:Int)(Ds:DD):Prop where
 lj:LJ n (yT J) e
 ld:∀p ∈ Ds,LD n m (yT J) e<|yT p.2
abbrev yZ(n m:Nat)(J:TZ)(e:Int)(Ds:DD)(S:SS):D:=.tup [.int n,.int m,xI J,.int e,.lst<|Ds.map XI,.lst<|S.map WN]
abbrev ZM(T:TZ):O:=.nd .ls<|T.map xJ
def Fk{as}{i:Nat}{k s}(h:as[i]? = some (some<|.lf s<|.int k)):xV i as=some k:=by
 unfold xV;rw[L3 (f:=QI) h rfl];rfl
def qT{r:List Int}{k:Int}(h:k.toNat<r.length):(r.map xx)[k.toNat]? = sT (.int r[k.toNat]):=⋯
def Hx{as:AS}{i:Nat}{f1 f2 fv:EJ}{k1 k2 c:Int}{T:TZ}{r:List Int}(h1:f1 as=some k1)(h2:f2 as=some k2)(hv:fv as=some c)(p1:0<=k1)(p2:0<=k2)(hi:as[i]? = some (some<|ZM T))(hr:T[k1.toNat]? = some r)(hk:k2.toNat<r.length):
 Sg i f1 f2 fv as=some (.nx<|as.set i<|some<|ZM<|T.set k1.toNat<|r.set k2.toNat c):=by
 have a:(T.map xJ)[k1.toNat]? = sN (r.map xx):=by rw[zzI,hr];rfl
 have b:=qT hk;have d:(T.map xJ).set k1.toNat (.nd .ls<|(r.map xx).set k2.toNat<|.lf true<|.int c)=(T.set k1.toNat<|r.set k2.toNat c).map xJ:=by
  rw[List.map_set];show _=(T.map xJ).set k1.toNat (.nd .ls _);rw[List.map_set]
 unfold Sg;simp only[h1,h2,hv,zyK,if_pos (show 0<=k1/\0<=k2 from⟨p1,p2⟩),(L3 hi rfl:BH TN as i=some _),(NT a rfl:S5 TN _ _=some _),(NT b rfl:S5 QI _ _=some _),d]
def DK{n i:Nat}{r c}(hr:Row n r)(hc:zJ n c):Row n (r.set i c):=by
 refine⟨by rw[zzU];exact hr.1,λx m=>?_⟩
 rcases List.mem_or_eq_of_mem_set m with m|rfl
 . exact hr.2 x m
 . exact hc
def A3{k n i:Nat}{T r}(hT:Tab k n T)(hr:Row n r):Tab k n (T.set i r):=by
 refine⟨by rw[zzU];exact hT.1,λx m=>?_⟩
 rcases List.mem_or_eq_of_mem_set m with m|rfl
 . exact hT.2 x m
 . exact hr
def Lq{n:Nat}{J w v}(hJ:Tab n n J)(hw:zJ n w)(hv:zJ n v):zJ n (yT J w v):=(rowAt (Zg hJ hw).2 hv).2
def Xh{a b c as}{n:Nat}{J w v}(hJ:Tab n n J)(hw:zJ n w)(hv:zJ n v)(ha:WD a as true (xI J))(hb:WD b as true (.int w))(hc:WD c as true (.int v)):WD (f2 (f2 a b zD) c zD) as true (.int<|yT J w v):=
 zu (yP ha hb (Zg hJ hw).1) hc (rowAt (Zg hJ hw).2 hv).1 rfl
def pK{fr as rs g kvs}(ha:WA fr as rs)(hg:g (rs.map (·.2))=some (.fd kvs)):fP fr g as=some (.ow (.nd (.dc (kvs.map (·.1))) ((kvs.map (·.2)).map (OH (rs.all (·.1))))),as):=by
 unfold fP;rw[ha];show(views as _).bind _=_;rw[Wg];show(g _).bind _=_;rw[hg];show(if _=true then _ else _:Option RV).bind _=_;rw[if_pos ⋯];rfl
abbrev RT(o:O):Prop:=o.str=true/\∃ds,o.toD = .tup ds
theorem BB(I:AS->Prop)(P:wB->Prop):∀(xs:List wB) (as:AS),(∀x ∈ xs,∀as,I as->∃as1,g x as=some as1/\((∃as2,f as1=some (.nx as2)/\I as2/\P x)\/∃o,f as1=some (.rt o)/\RT o/\¬P x))->I as->
 (∃as',forL g f xs as=some (.nx as')/\I as'/\∀x ∈ xs,P x)\/∃o,forL g f xs as=some (.rt o)/\RT o/\¬ ∀x ∈ xs,P x
 | [],as,_,h=>.inl ⟨as,rfl,h,λ_ m=>nomatch m⟩
 |x::r,as,H,h=>by
  obtain⟨n,b,a⟩:=H x (zzF ..) as h
  rcases a with⟨c,a,d,e⟩|⟨o,a,d,e⟩
  . rcases BB I P r c (λy m=>H y<|zzD _ m) d with⟨i,j,k,l⟩|⟨o,j,k,l⟩
    . refine .inl ⟨i,vH b a j,k,λy m=>?_⟩
      rcases zzC.mp m with rfl|m
      . exact e
      . exact l y m
    . exact .inr ⟨o,vH b a j,k,λz=>l λy m=>z y<|zzD _ m⟩
  . exact .inr ⟨o,Mc b a,d,λz=>e<|z x ⋯⟩
abbrev Rj(r:Option Out)(I:AS->Prop)(P:Prop):Prop:=(∃as',r=some (.nx as')/\I as'/\P)\/∃o,r=some (.rt o)/\RT o/\¬P
def Rj.imp{P Q:Prop}(h:Rj r I P)(k:P ↔ Q):Rj r I Q:=by
 rcases h with⟨a,b,c,d⟩|⟨a,b,c,d⟩
 . exact .inl ⟨a,b,c,k.mp d⟩
 . exact .inr ⟨a,b,c,λz=>d<|k.mpr z⟩
def Wd{v n:Nat}{f fr:SF}(I)(P:Int->Prop)(H:∀b,zJ n b->∀as,I as->∃as1,gN v (true,.int b) as=some as1/\Rj (f as1) I (P b)){as:AS}(h:I as):Rj (forL (gN v) f (yY 0 n) as) I (∀b,zJ n b->P b):=by
 have k:=BB I (λx=>∀b,x=(true,.int b)->P b) (yY 0 n) as (λx m as j=>by
  obtain⟨b,rfl,l,u⟩:=R_ m;obtain⟨a,o,q⟩:=H b ⟨l,⋯⟩ as j;exact⟨a,o,q.imp ⋯⟩) h
 refine Rj.imp k ⟨λp b d=>p _ ?_ b rfl,λp x m b e=>?_⟩
 . have r:=d.1;refine zzZ (i:=b.toNat) ?_;unfold yY;rw[zzI,List.getElem?_range<|by trivial];show some (true,D.int _)=_;rw[show 0+b.toNat=b by trivial]
 . subst e;obtain⟨c,e,t,w⟩:=R_ m;cases e;exact p b ⟨t,⋯⟩
def Yw{v n:Nat}(h:as[v]? = some (some<|.lf s<|.int n))(hn:n<=1000):y9 (yK (aC (fV v) aN) xa) g f as=forL g f (yY 0 n) as:=
 xk (xB (zc (za h) zj) (by trivial) ⋯) ⋯
def F8{P:Prop}(ht:WT c as q)(hq:q=true ↔ ¬P)(hf:WE f as (.tup ds))(hI:I as):Rj (xg c (zv f) xj as) I P:=by
 cases q with
 |false=>exact .inl ⟨as,zm ht rfl,hI,Classical.byContradiction λz=>nomatch hq.mpr z⟩
 |true=>
  obtain⟨o,a,b,d⟩:=IL hf;exact .inr ⟨o,wR ht a,⟨b,ds,d⟩,hq.mp rfl⟩
def Im(ha:WD a as s (.int x))(hb:WD b as t (.int y)):WT (fT<|f2 a b<|zw .NotEq) as (!(x==y)):=zN (Kq ha hb rfl) rfl
def Sy{x y:Int}:(!(x==y))=true ↔ ¬x=y:=⋯
abbrev kz(n:Nat)(J:TZ)(e:Int):Prop:=∀a,zJ n a->yT J e a=a/\yT J a e=a
abbrev As(n:Nat)(J:TZ):Prop:=∀a,zJ n a->∀b,zJ n b->∀c,zJ n c->yT J (yT J a b) c=yT J a (yT J b c)
section
variable{S:Option O->Option O->Option O->AS}{vj vn ve:Nat}{J:TZ}{n:Nat}{e:Int}
def uY{x y z:Option O}(hJ:Tab n n J)(he:zJ n e)(hj:∀x y z,(S x y z)[vj]? = some (sT<|xI J))(hv:∀x y z,(S x y z)[ve]? = some (sI e))(h3:∀x y z,(S x y z)[3]? = some x)(g3:∀d x y z,gN 3 (true,d) (S x y z)=some (S (sT d) y z)):
 Rj (forL (gN 3) (xg (GO (fT<|f2 (f2 (f2 (fV vj) (fV ve) zD) (fV 3) zD) (fV 3)<|zw .NotEq)<|fT<|f2 (f2 (f2 (fV vj) (fV 3) zD) (fV ve) zD) (fV 3)<|zw .NotEq) (zv<|yL<|dC (fC<|.str "nothing")<|dC (fV 3) dN) xj) (yY 0 n)<|S x y z) (λas=>∃x,as=S x y z) (kz n J e):=by
 refine Wd (fr:=xj) _ _ (λa c as f=>?_) ⟨x,rfl⟩;obtain⟨x,rfl⟩:=f;have b:WD _ (S (sI a) y z) true _:=za<|h3 _ _ _;have g:=Im (Xh hJ he c (za<|hj _ y z) (za<|hv _ y z) b) b;have i:=Im (Xh hJ c he (za<|hj _ y z) b<|za<|hv _ y z) b;refine⟨S _ y z,g3 _ _ _ _,F8 (q:=!_ || !(yT J a e==a)) (Ge g (λh=>by rwa [h]) λh=>by rw[h];rfl) (by grind) (rO (zL zb<|zL b ye) (Wl rfl) rfl rfl) ⟨_,rfl⟩⟩
abbrev rn(vj vn:Nat):SF:=y9 (yK (aC (fV vn) aN) xa) (gN 4)<|y9 (yK (aC (fV vn) aN) xa) (gN 5)<|xg (fT<|f2 (f2 (f2 (fV vj) (f2 (f2 (fV vj) (fV 3) zD) (fV 4) zD) zD) (fV 5) zD) (f2 (f2 (fV vj) (fV 3) zD) (f2 (f2 (fV vj) (fV 4) zD) (fV 5) zD) zD)<|zw .NotEq) (zv<|yL<|dC (fC<|.str "parting")<|dC (fV 3)<|dC (fV 4)<|dC (fV 5) dN) xj
def Dh{x y z:Option O}(n8:n<=8)(hJ:Tab n n J)(hj:∀x y z,(S x y z)[vj]? = some (sT<|xI J))(hn:∀x y z,(S x y z)[vn]? = some (sI n))(h3:∀x y z,(S x y z)[3]? = some x)(h4:∀x y z,(S x y z)[4]? = some y)(h5:∀x y z,(S x y z)[5]? = some z)
 (g3:∀d x y z,gN 3 (true,d) (S x y z)=some (S (sT d) y z)) (g4:∀d x y z,gN 4 (true,d) (S x y z)=some (S x (sT d) z)) (g5:∀d x y z,gN 5 (true,d) (S x y z)=some (S x y<|sT d)):
 Rj (forL (gN 3) (rn vj vn) (yY 0 n)<|S x y z) (λas=>∃x y z,as=S x y z) (As n J):=by
 refine Wd (fr:=xj) _ _ (λa i as e=>?_) ⟨x,y,z,rfl⟩;obtain⟨x,y,z,rfl⟩:=e;refine⟨_,g3 _ _ _ _, ?_⟩;unfold rn;rw[Yw (hn _ _ _)<|by trivial];have k:=Wd (fr:=xj) (f:=y9 _ _ _) (λas=>∃y z,as=S (sI a) y z) _ (λb g as e=>by
  obtain⟨y,z,rfl⟩:=e;refine⟨_,g4 _ _ _ _, ?_⟩;rw[Yw (hn _ _ _)<|by trivial];have k:=Wd (fr:=xj) (λas=>∃z,as=S (sI a) (sI b) z) _ (λc j as e=>by
   obtain⟨z,rfl⟩:=e;have l:WD _ (S (sI a) (sI b)<|sI c) true _:=za<|h3 _ _ _;have m:WD _ (S (sI a) (sI b)<|sI c) true _:=za<|h4 _ _ _;have o:WD _ (S (sI a) (sI b)<|sI c) true _:=za<|h5 _ _ _;have h:WD _ (S (sI a) (sI b)<|sI c) true _:=za<|hj _ _ _;have s:=Lq hJ i g;have bc:=Lq hJ g j;exact⟨_,g5 _ _ _ _,F8 (ds:=[.str "parting",.int a,.int b,.int c]) (Im (Xh hJ s j h (Xh hJ i g h l m) o)<|Xh hJ i bc h l<|Xh hJ g j h m o) Sy (rO (zL zb<|zL l<|zL m<|zL o ye) (Wl rfl) rfl rfl) ⟨_,rfl⟩⟩) ⟨z,rfl⟩
  rcases k with⟨p,q,⟨t,rfl⟩,r⟩|k
  . exact .inl ⟨_,q,⟨_,_,rfl⟩,r⟩
  . exact .inr k) ⟨y,z,rfl⟩
 rcases k with⟨p,q,⟨u,t,rfl⟩,r⟩|k
 . exact .inl ⟨_,q,⟨_,_,_,rfl⟩,r⟩
 . exact .inr k
end
abbrev HZ(r:Option O)(P:Prop):Prop:=(RE r .non/\P)\/((∃ds,RE r<|.tup ds)/\¬P)
def FZ{n m:Nat}{P:Prop}(hl:ds.length=m)(h:(Rt (c<|vX n ds) .non/\P)\/((∃es,Rt (c<|vX n ds)<|.tup es)/\¬P)):HZ (xZ n m c ds) P:=by
 rcases h with⟨h,p⟩|⟨⟨a,h⟩,p⟩
 . exact .inl ⟨zM hl h,p⟩
 . exact .inr ⟨⟨a,zM hl h⟩,p⟩
def Nx{P Q:Prop}(h:Rj (f as) I P)(k:∀as',I as'->P->(Rt (g as') .non/\Q)\/((∃es,Rt (g as')<|.tup es)/\¬Q)):(Rt (zl f g as) .non/\P/\Q)\/((∃es,Rt (zl f g as)<|.tup es)/\¬(P/\Q)):=by
 rcases h with⟨b,a,c,p⟩|⟨o,a,⟨c,d,i⟩,p⟩
 . rcases k b c p with⟨e,q⟩|⟨⟨d,e⟩,q⟩
   . exact .inl ⟨zd a e,p,q⟩
   . exact .inr ⟨⟨d,zd a e⟩,λz=>q z.2⟩
 . exact .inr ⟨⟨d,o,ZS a,c,i⟩,λz=>p z.1⟩
def LI:(Rt (zv (fC .non) as) .non/\True)\/((∃es,Rt (zv (fC .non) as)<|.tup es)/\¬True):=.inl ⟨zx<|WD.e zb,trivial⟩
def HZ.imp{P Q:Prop}(h:HZ r P)(k:P ↔ Q):HZ r Q:=by
 rcases h with⟨h,p⟩|⟨h,p⟩
 . exact .inl ⟨h,k.mp p⟩
 . exact .inr ⟨h,λz=>p<|k.mpr z⟩
section
variable{n m:Nat}{J T:TZ}{e:Int}{Ds:DD}{S:SS}
abbrev Dn(n m:Nat)(J T:TZ):Prop:=∀a,zJ n a->∀i,zJ m i->∀b,zJ n b->∀k,zJ m k->yT T ((i+k)%m) (yT J a b)=yT J (yT T i a) (yT T k b)
def Ny(hT:Tab m n T)(hw:zJ m w)(hv:zJ n v)(ha:WD a as true (xI T))(hb:WD b as true (.int w))(hc:WD c as true (.int v)):WD (f2 (f2 a b zD) c zD) as true (.int<|yT T w v)/\zJ n (yT T w v):=
 ⟨zu (yP ha hb (Zg hT hw).1) hc (rowAt (Zg hT hw).2 hv).1 rfl,(rowAt (Zg hT hw).2 hv).2⟩
abbrev kG:SF:=(xg (fT<|f2 (f2 (f2 (fV 2) (f2 (f2 (fV 7) (fV 9)<|YV .Add) (fV 4)<|YV .Mod) zD) (f2 (f2 (fV 5) (fV 6) zD) (fV 8) zD) zD) (f2 (f2 (fV 5) (f2 (f2 (fV 2) (fV 7) zD) (fV 6) zD) zD) (f2 (f2 (fV 2) (fV 9) zD) (fV 8) zD) zD)<|zw .NotEq) (zv<|yL<|dC (fC<|.str "doing")<|dC (fV 1)<|dC (fV 6)<|dC (fV 7)<|dC (fV 8)<|dC (fV 9) dN) xj)
abbrev Kc(n m:Nat)(J T:TZ)(e:Int)(Ds:DD)(S:SS)(s:Str)(x y z w:Option O):AS:=[sT<|yZ n m J e Ds S,sT<|.str s,sT<|xI T,sI n,sI m,sT<|xI J,x,y,z,w]
def gH{a i b:Int}(hJ:Tab n n J)(hT:Tab m n T)(m1:1<=m)(ha:zJ n a)(hi:zJ m i)(hb:zJ n b):Rj (forL (gN 9) kG (yY 0 m)<|Kc n m J T e Ds S s (sI a) (sI i) (sI b) w) (λas=>∃w,as=Kc n m J T e Ds S s (sI a) (sI i) (sI b) w) (∀k,zJ m k->yT T ((i+k)%m) (yT J a b)=yT J (yT T i a) (yT T k b)):=by
 refine Wd (fr:=xj) _ _ (λk l as o=>?_) ⟨w,rfl⟩;obtain⟨w,rfl⟩:=o;have c:WD (fV 2) (Kc n m J T e Ds S s (sI a) (sI i) (sI b)<|sI k) true _:=za rfl;have j:WD (fV 5) (Kc n m J T e Ds S s (sI a) (sI i) (sI b)<|sI k) true _:=za rfl;have d:WD (fV 6) (Kc n m J T e Ds S s (sI a) (sI i) (sI b)<|sI k) true _:=za rfl;have f:WD (fV 7) (Kc n m J T e Ds S s (sI a) (sI i) (sI b)<|sI k) true _:=za rfl;have g:WD (fV 8) (Kc n m J T e Ds S s (sI a) (sI i) (sI b)<|sI k) true _:=za rfl;have h:WD (fV 9) (Kc n m J T e Ds S s (sI a) (sI i) (sI b)<|sI k) true _:=za rfl;obtain⟨p,q⟩:=Ny hT hi ha c f d;obtain⟨r,t⟩:=Ny hT l hb c h g;have u:=Lq hJ ha hb;obtain⟨v,y⟩:=Ny hT (Uo m1) u c (yc (zT f h) (za (i:=4) rfl)<|by trivial)<|Xh hJ ha hb j d g;exact⟨_,rfl,F8 (Im v<|Xh hJ q t j p r) Sy (rO ⋯ (Wl rfl) rfl rfl) ⟨_,rfl⟩⟩
def HZ.none{P:Prop}(h:HZ r P)(p:P):RE r .non:=by
 rcases h with⟨h,_⟩|⟨_,h⟩
 . exact h
 . exact absurd p h
def LawA.un(L:LawA n m J e Ds):kz n J e:=λa b=>⟨L.lj.ul a b,L.lj.ur a b⟩
theorem LawA.as(L:LawA n m J e Ds):As n J:=λa d b f c g=>L.lj.as a b c d f g
theorem LawA.dn(L:LawA n m J e Ds)(hp:p ∈ Ds):Dn n m J p.2:=λa c i d b f k g=>(L.ld p hp).dn a i b k c d f g
end
def iP(b k:Int):Int:=if k=0 then b/2 else b%2
def jP(a b:Int):Int:=2*iP b (a/2)+iP b (a%2)
def sP(a:Int):Int:=2*(1-a%2)+1-a/2
def jJ:LJ 4 jP 1:=by
 refine⟨λa b d e=>?_,⟨by decide,by decide⟩,λa d=>?_,λa d=>?_,λa b c d e f=>?_⟩
 . revert b;refine f4 (P:=λa=>∀b,zJ 4 b->zJ 4 _) ?_ d
   have:∀a ∈ ([0,1,2,3]:List Int),∀b ∈ ([0,1,2,3]:List Int),zJ 4 (jP a b):=by decide
   exact λa m b e=>f4 (this a m) e
 . exact f4 (P:=λa=>jP 1 a=a) (by decide) d
 . exact f4 (P:=λa=>jP a 1=a) (by decide) d
 . have:∀a ∈ ([0,1,2,3]:List Int),∀b ∈ ([0,1,2,3]:List Int),∀c ∈ ([0,1,2,3]:List Int),jP (jP a b) c=jP a (jP b c):=by decide
   refine f4 (λa m=>f4 (λb g=>f4 (this a m b g) f) e) d
def gO{m:Nat}{r:Int->Int}(h:(∀a,zJ 4 a->r a=a)\/(∀a,zJ 4 a->r a=sP a)):LD 4 m jP 1 (λ_ a=>r a):=by
 rcases h with h|h
 . refine⟨λc a _ d=>by rw[h a d];exact d,h 1 ⟨by decide,by decide⟩,λa i b k d _ e _=>?_⟩;rw[h a d,h b e,h _<|jJ.cl a b d e]
 . refine⟨λc a _ d=>by rw[h a d];exact f4 (P:=λa=>zJ 4 _) (by decide) d,h 1 ⟨by decide,by decide⟩,λa i b k d _ e _=>?_⟩;rw[h a d,h b e,h _<|jJ.cl a b d e];have:∀a ∈ ([0,1,2,3]:List Int),∀b ∈ ([0,1,2,3]:List Int),sP (jP a b)=jP (sP a) (sP b):=by decide
   exact f4 (λa m=>f4 (this a m) e) d
def gM{n1 n2:Nat}(h1:LJ n1 j1 e1)(h2:LJ n2 j2 e2)(p2:0<n2):LJ (n1*n2) (jB n2 j1 j2) (e1*n2+e2):=by
 refine⟨λa b d e=>?_,u7 h1.ce h2.ce,λa d=>?_,λa d=>?_,λa b c d e f=>?_⟩
 . exact u7 (h1.cl _ _ (yf p2 d).1 (yf p2 e).1)<|h2.cl _ _ (yf p2 d).2 (yf p2 e).2
 . unfold jB;rw[(Vk h2.ce).1,(Vk h2.ce).2,h1.ul _ (yf p2 d).1,h2.ul _ (yf p2 d).2,p8]
 . unfold jB;rw[(Vk h2.ce).1,(Vk h2.ce).2,h1.ur _ (yf p2 d).1,h2.ur _ (yf p2 d).2,p8]
 . unfold jB;rw[(Vk<|h2.cl _ _ (yf p2 d).2 (yf p2 e).2).1,(Vk<|h2.cl _ _ (yf p2 d).2 (yf p2 e).2).2,(Vk<|h2.cl _ _ (yf p2 e).2 (yf p2 f).2).1,(Vk<|h2.cl _ _ (yf p2 e).2 (yf p2 f).2).2,h1.as _ _ _ (yf p2 d).1 (yf p2 e).1 (yf p2 f).1,h2.as _ _ _ (yf p2 d).2 (yf p2 e).2 (yf p2 f).2]
def gq{n1 n2 m:Nat}(h1:LJ n1 j1 u1)(h2:LJ n2 j2 u2)(p2:0<n2)(e1:LD n1 m j1 u1 d1)(e2:LD n2 m j2 u2 d2):LD (n1*n2) m (jB n2 j1 j2) (u1*n2+u2) (dB n2 d1 d2):=by
 refine⟨λc a h d=>u7 (e1.cl _ _ h (yf p2 d).1)<|e2.cl _ _ h (yf p2 d).2, ?_,λa i b k d f e g=>?_⟩
 . unfold dB;rw[(Vk h2.ce).1,(Vk h2.ce).2,e1.em,e2.em]
 . unfold jB dB;rw[(Vk<|h2.cl _ _ (yf p2 d).2 (yf p2 e).2).1,(Vk<|h2.cl _ _ (yf p2 d).2 (yf p2 e).2).2,(Vk<|e2.cl i _ f (yf p2 d).2).1,(Vk<|e2.cl i _ f (yf p2 d).2).2,(Vk<|e2.cl k _ g (yf p2 e).2).1,(Vk<|e2.cl k _ g (yf p2 e).2).2,e1.dn _ _ _ _ (yf p2 d).1 f (yf p2 e).1 g,e2.dn _ _ _ _ (yf p2 d).2 f (yf p2 e).2 g]
def gI{n:Nat}{F B:Int->Int}(h:LJ n j e)(hF:∀a,zJ n a->zJ n (F a))(hB:∀a,zJ n a->zJ n (B a))(hFB:∀a,zJ n a->F (B a)=a)(q:∀a b,zJ n a->zJ n b->j' (F a) (F b)=F (j a b)):LJ n j' (F e):=by
 have g:=λa b d f=>by
  have:=q _ _ (hB a d)<|hB b f
  rwa [hFB a d,hFB b f]at this
 refine⟨λa b d f=>by rw[g a b d f];exact hF _<|h.cl _ _ (hB a d)<|hB b f,hF e h.ce,λa d=>?_,λa d=>?_,λa b c d f i=>?_⟩
 . have:=q e _ h.ce<|hB a d
   rwa [h.ul _<|hB a d,hFB a d]at this
 . have:=q _ e (hB a d) h.ce
   rwa [h.ur _<|hB a d,hFB a d]at this
 . have k:=hB a d;have l:=hB b f;have m:=hB c i;rw[g a b d f,g b c f i];have x:=q _ _ (h.cl _ _ k l) m;have y:=q _ _ k<|h.cl _ _ l m;rw[hFB c i]at x;rw[hFB a d]at y;rw[x,y,h.as _ _ _ k l m]
def gc{n m:Nat}{F B:Int->Int}(hm:0<m)(h:LJ n j e)(k:LD n m j e d)(hF:∀a,zJ n a->zJ n (F a))(hB:∀a,zJ n a->zJ n (B a))(hFB:∀a,zJ n a->F (B a)=a)
 (q:∀a b,zJ n a->zJ n b->j' (F a) (F b)=F (j a b)) (p:∀c a,zJ m c->zJ n a->d' c (F a)=F (d c a)):LD n m j' (F e) d':=by
 refine⟨λc a t f=>?_, ?_,λa i b l f r u s=>?_⟩
 . have:=p c _ t<|hB a f;rw[hFB a f]at this;rw[this];exact hF _<|k.cl _ _ t<|hB a f
 . rw[p 0 e ⋯ h.ce,k.em]
 . have g:=hB a f;have o:=hB b u;have x:=q _ _ g o;have y:=p i _ r g;have z:=p l _ s o;rw[hFB a f]at x y;rw[hFB b u]at x z;rw[x,y,z,p _ _ (Uo hm)<|h.cl _ _ g o,q _ _ (k.cl _ _ r g)<|k.cl _ _ s o,k.dn _ _ _ _ g r o s]
def jK(k:Int)(n:Nat):Int->Int->Int:=if k=0 then jS n else if k=1 then jM else if k=2 then jL else jP
def N6(h:WA fr as [(u,.int i),(v,.int j)])(h0:0<=i)(h1:i<=1000)(h2:0<=j)(h3:j<=1000):yK fr Df as=some (yY i (j-i).toNat,as):=by
 unfold yK;rw[h];show((if -_<=i/\i<2 ^ 62 /\ -_<=j/\j<2 ^ 62 then some _ else none).bind _)=_;rw[if_pos ⋯];rfl
def put(T:TZ)(p q c:Int):TZ:=T.set p.toNat<|(VZ T p).set q.toNat c
def Du{k n:Nat}(hT:Tab k n T)(hp:zJ k p)(hc:zJ n c):Tab k n (put T p q c):=A3 hT<|DK (Zg hT hp).2 hc
def BW{k n:Nat}(hT:Tab k n T)(hp:zJ k p)(hq:zJ n q)(ha:zJ k a)(hb:zJ n b):yT (put T p q c) a b=if a=p/\b=q then c else yT T a b:=by
 have d:=iT hp;have h:=iT ha;have f:=iT hq;have i:=iT hb;have j:=(Zg hT hp).2.1;unfold yT put
 by_cases e:a=p
 . subst e;rw[zyJ<|by rwa [hT.1]];show wO ((VZ T a).set q.toNat c) b=_;unfold wO
   by_cases g:b=q
   . subst g;rw[zyJ (by rwa [j]),if_pos ⟨rfl,rfl⟩];rfl
   . rw[zzX ⋯,if_neg λz=>g z.2]
 . rw[zzX ⋯,if_neg λz=>e z.1]
def tj{v K n L:Nat}{S:TZ->Option O->Option O->AS}{g w:Int->Int}(hp:zJ K p)(hg:∀b,zJ L b->zJ n (g b))(gi:∀b b',zJ L b->zJ L b'->g b=g b'->b=b')(hw:∀b,zJ L b->zJ n (w b))
 (h1:∀T d x y,gN v (true,d) (S T x y)=some (S T (sT d) y)) (h2:∀T b y,Tab K n T->zJ L b->∃y',f (S T (sI b) y)=some (.nx<|S (put T p (g b)<|w b) (sI b) y')) (hT:Tab K n T0):
 ∃T' x y,forL (gN v) f (yY 0 L) (S T0 x0 y0)=some (.nx<|S T' x y)/\Tab K n T'/\(∀b,zJ L b->yT T' p (g b)=w b)/\(∀a b,zJ K a->zJ n b->a≠p->yT T' a b=yT T0 a b):=by
 obtain⟨r,s,t,x,y,rfl,k,m,o⟩:=xr
  (λi as=>∃(T:TZ) (x y:Option O),as=S T x y/\Tab K n T/\(∀b,zJ L b->b<i->yT T p (g b)=w b)/\(∀a b,zJ K a->zJ n b->a≠p->yT T a b=yT T0 a b))
  (yY 0 L) 0 _ (λi y as u A=>by
   obtain⟨T,x,z,rfl,k,m,o⟩:=A;obtain⟨rfl,C⟩:=Yh u;have j:zJ L (0+i):=⋯;obtain⟨D,h⟩:=h2 T _ z k j;refine⟨_,h1 _ _ _ _,_,h,_,_,_,rfl,Du k hp<|hw _ j,λb c B=>?_,λa b q c l=>?_⟩
   . rw[BW k hp (hg _ j) hp<|hg _ c]
     by_cases e:g b=g (0+i)
     . have:=gi _ _ c j e;subst this;rw[if_pos ⟨rfl,rfl⟩]
     . rw[if_neg λz=>e z.2];refine m b c ?_;have:b≠0+i:=λz=>e (by rw[z]);omega
   . rw[BW k hp (hg _ j) q c,if_neg λz=>l z.1];exact o a b q c l)
  ⟨T0,x0,y0,rfl,hT,λb j h=>absurd h ⋯,λ_ _ _ _ _=>rfl⟩
 rw[Zn]at m;exact⟨t,x,y,s,k,λb j=>m b j ⋯,o⟩
def AN{v K n L M:Nat}{S:TZ->Option O->Option O->Option O->AS}{f g:Int->Int}{w:Int->Int->Int}(hf':∀a,zJ M a->zJ K (f a))(fi:∀a a',zJ M a->zJ M a'->f a=f a'->a=a')(hg:∀b,zJ L b->zJ n (g b))
 (h1:∀T d x y z,gN v (true,d) (S T x y z)=some (S T (sT d) y z)) (h2:∀T a y z,Tab K n T->zJ M a->∃T' y' z',F (S T (sI a) y z)=some (.nx<|S T' (sI a) y' z')/\Tab K n T'/\(∀b,zJ L b->yT T' (f a) (g b)=w a b)/\(∀a' b,zJ K a'->zJ n b->a'≠f a->yT T' a' b=yT T a' b)) (hT:Tab K n T0):
 ∃T' x y z,forL (gN v) F (yY 0 M) (S T0 x0 y0 z0)=some (.nx<|S T' x y z)/\Tab K n T'/\∀a b,zJ M a->zJ L b->yT T' (f a) (g b)=w a b:=by
 obtain⟨p,q,o,x,y,z,rfl,m,l⟩:=xr
  (λi as=>∃(T:TZ) (x y z:Option O),as=S T x y z/\Tab K n T/\∀a b,zJ M a->a<i->zJ L b->yT T (f a) (g b)=w a b)
  (yY 0 M) 0 _ (λi y as r s=>by
   obtain⟨T,x,y,z,rfl,m,l⟩:=s;obtain⟨rfl,C⟩:=Yh r;have c:zJ M (0+i):=⋯;obtain⟨o,D,E,h,t,u,A⟩:=h2 T _ y z m c;refine⟨_,h1 _ _ _ _ _,_,h,_,_,_,_,rfl,t,λa b j B k=>?_⟩
   by_cases e:a=0+i
   . subst e;exact u b k
   . rw[A _ _ (hf' a j) (hg b k) λz=>e<|fi _ _ j c z];exact l a b j ⋯ k)
  ⟨T0,x0,y0,z0,rfl,hT,λa b c h=>absurd h ⋯⟩
 rw[Zn]at l;exact⟨o,x,y,z,q,m,λa b c k=>l a b c ⋯ k⟩
def sd{i:Nat}{n:Nat}(h:as[i]? = some (some<|.lf s<|zg r))(hf:f as=some k)(hr:Row n r)(hk:zJ n k):CD i f as=some (wO r k):=by
 unfold CD;rw[hf];show(if 0<=k then(BH QI as i).bind λd=>(qP d).bind λb=>b[k.toNat]?.bind N0 else none)=_;rw[if_pos hk.1];have c:BH QI as i=some (zg r):=by unfold BH;rw[h];rfl
 rw[c];show(_[k.toNat]?).bind N0=_;have a:=iT hk;rw[zzI,zzE _,ZN<|by rwa [hr.1]];rfl
def JN{i k n:Nat}{f1 f2 fv}(hT:Tab k n T)(hp:zJ k p)(hq:zJ n q)(h1:f1 as=some p)(h2:f2 as=some q)(hv:fv as=some c)(hi:as[i]? = some (some<|ZM T)):Sg i f1 f2 fv as=some (.nx<|as.set i<|some<|ZM<|put T p q c):=by
 have b:=iT hp;have a:=iT hq;refine Hx h1 h2 hv hp.1 hq.1 hi ?_ (by rwa [(Zg hT hp).2.1]);unfold VZ;rw[zzE<|by rwa [hT.1]];rfl
theorem Mo:∀(xs:List wB),(∀y ∈ xs,∃as1,g y as0=some as1/\fe as1=some (.ow<|xJ r,as1))->vP g Y2 fe as0 xs=some ((List.replicate xs.length r).map xJ)
 | [],_=>rfl
 |y::a,H=>by
  obtain⟨b,c,d⟩:=H y<|zzF ..;exact OR c d (ZZ r).1<|Mo a λz m=>H z<|zzD _ m
def Cu{k n:Nat}(hn:1<=n):Tab k n (List.replicate k<|List.replicate n (0:Int)):=
 ⟨List.length_replicate ..,λr m=>by rw[List.eq_of_mem_replicate m];exact⟨List.length_replicate ..,λx m=>by rw[List.eq_of_mem_replicate m];omega⟩⟩
abbrev Zb(r:List Int):D:=.tup<|r.map D.int
abbrev wo(T:TZ):D:=.tup<|T.map Zb
def Bn{α:Type}{f}{l:List α}{i:Nat}{p}(h:l[i]? = some p):zD (.tup<|l.map f) (.int (i:Int))=some (.im<|f p):=by
 have h:=Ve (v:=f p) (by rw[zzI,h];rfl);show Jb _=_;rw[h];rfl
def k9{k n:Nat}{T}{w:Int}(hT:Tab k n T)(hw:zJ k w):zD (wo T) (.int w)=some (.im<|Zb<|VZ T w):=by
 have a:w.toNat<T.length:=by rw[hT.1];exact iT hw
 have g:=zzE a;unfold VZ;rw[g];have:=Bn (f:=Zb) g
 rwa [iC hw]at this
def nY{n:Nat}{r}{v:Int}(hr:Row n r)(hv:zJ n v):zD (Zb r) (.int v)=some (.im<|.int<|wO r v):=by
 have a:v.toNat<r.length:=by rw[hr.1];exact iT hv
 have g:=zzE a;rw[ZN a];have:=Bn (f:=D.int) g
 rwa [iC hv]at this
def Ck{m n:Nat}(hT:Tab m n T)(hw:zJ m w)(hv:zJ n v)(ha:WD a as true (wo T))(hb:WD b as true (.int w))(hc:WD c as true (.int v)):WD (f2 (f2 a b zD) c zD) as true (.int<|yT T w v):=
 zu (yP ha hb<|k9 hT hw) hc (nY (Zg hT hw).2 hv) rfl
section
variable{α:Type}{kf:α->Str}{vf:α->D}
theorem KZ:∀l:List α,Uz (l.map λp=>.tup [.str<|kf p,vf p])=some (l.map λp=>(.inr<|kf p,vf p))
 | []=>rfl
 |p::l=>by
  show(Uz _).bind _=_;rw[KZ l];rfl
theorem QH:∀{l:List α},p ∈ l->(l.map kf).Nodup->Xq (l.map λp=>(.inr<|kf p,vf p)) (.inr<|kf p)=some (vf p)
 | [],h,_=>nomatch h
 |q::l,h,nd=>by
  have a:=zzV.mp<|nd
  rcases zzC.mp h with rfl|h
  . unfold Xq;simp
  . have e:kf q≠kf p:=λe=>a.1<|e ▸ List.mem_map_of_mem h;have b:=QH h a.2;unfold Xq at ⊢
    rwa [zyR,List.find?_cons_of_neg<|by simp[e]]
theorem Oo:∀(kvs:List (Key×D)),(kvs.map (·.1)).zip (kvs.map (·.2))=kvs
 | []=>rfl
 |p::r=>congrArg _<|Oo r
def nN{l:List α}(nd:(l.map kf).Nodup)(h:WE a as (.lst<|l.map λp=>.tup [.str<|kf p,vf p])):WE (fP (aC a aN) MD) as (.dct<|l.map λp=>(.inr<|kf p,vf p)):=by
 have c:MD [.lst<|l.map λp=>.tup [.str<|kf p,vf p]]=some (.fd<|l.map λp=>(.inr<|kf p,vf p)):=by
  show(Uz _).bind _=_;rw[KZ];refine if_pos ?_;rw[zyA];exact List.pairwise_map.mpr<|(List.pairwise_map.mp nd).imp λh e=>h<|Sum.inr.inj e
 have k:=pK (xC h<|zj) c;rw[show([(true,D.lst _)].all _)=true from rfl,QA]at k;refine⟨_,k,QO _, ?_⟩;show D.dct _=_;rw[QL,Oo]
end
def yU{i:Nat}{os}(h:WE fe as d)(hi:as[i]? = some (some<|.nd (.ob c ns) os))(hc:c ∈ cs)(hn:f ∉ ns)(hl:ns.length<1000):XT i cs f fe as=some (as.set i<|some<|.nd (.ob c<|ns++[f])<|os++[.lf true d]):=by
 obtain⟨o,a,b,g⟩:=h;unfold XT;have e:Y8 as (.ow o)=some _:=rfl;simp only[a,zyK,e,hi,if_pos (⟨hc,hn,hl⟩:c ∈ cs/\f ∉ ns/\ns.length<1000),b,g]
def yC(h:f as=some as1)(h2:g as1=o):Zo f g as=o:=by
 unfold Zo
 rwa [h]
def Jp(h:WE fe as d):DT fe as=some as:=by
 obtain⟨o,a,_,_⟩:=h;unfold DT;rw[a];rfl
def EV{i:Nat}(h:as[i]? = some (sT<|.ob c ns ds))(hc:c ∈ cs)(hl:EK ns ds f=some d):WD (f1 (fV i)<|zP cs f) as true d:=by
 have:=Ql (za h) hc hl
 rwa [zyC]at this
def bh(A B:TZ):TZ:=(A.zip B).map λp=>p.1.map<|wO p.2
def tT{m n:Nat}(hA:Tab m n A)(hB:Tab m n B){i:Nat}(hi:i<m):(bh A B)[i]? = some ((VZ A i).map<|wO<|VZ B i):=by
 have a:=zzE (by rwa [hA.1]);have b:=zzE (by rwa [hB.1]);unfold bh VZ;rw[zzI,zyH,a,b];have:_[i]? = some (A[i]'_,B[i]'_):=List.getElem?_zip_eq_some.mpr ⟨a,b⟩;rw[this];rfl
def qU{m n:Nat}(hA:Tab m n A)(hB:Tab m n B):Tab m n (bh A B):=by
 refine⟨by unfold bh;rw[zzB,List.length_zip,hA.1,hB.1,Nat.min_self],λr h=>?_⟩;obtain⟨p,b,rfl⟩:=zxC.mp h;obtain⟨c,d⟩:=List.of_mem_zip b;have a:=hA.2 _ c;have e:=hB.2 _ d;exact⟨by rw[zzB];exact a.1,λx f=>by
  obtain⟨y,g,rfl⟩:=zxC.mp f;exact(rowAt e<|a.2 y g).2⟩
def pZ{m n:Nat}(hA:Tab m n A)(hB:Tab m n B)(hc:zJ m c)(ha:zJ n a):yT (bh A B) c a=yT B c (yT A c a):=by
 have d:=iT hc;have g:=tT hA hB d;have e:=iC hc;rw[e]at g;have f:=(Zg hA hc).2;show wO _ a=wO _ (wO _ a);rw[g];show wO ((VZ A c).map _) a=_;have b:a.toNat<(VZ A c).length:=by rw[f.1];exact iT ha
 rw[ZN (by rwa [zzB]),List.getElem_map,ZN b]
end PF
end
section
namespace G94
open PySem PySem.Spec PyProof.Rows L2 PF
abbrev zk:EF:=fV 1
abbrev zW:EF:=fC<|.int 0
abbrev zh:EF:=fV 0
abbrev y8:EF:=fC<|.int 2
abbrev zO:EF:=fC<|.int 1
abbrev zG:EF:=fV 2
abbrev RD:EF:=fC<|.int 4
abbrev Iy:GF:=gN 4
abbrev zX:EF:=fV 4
abbrev zK:EF:=fV 3
abbrev VU:GF:=gN 0
abbrev zp:=YV .Add
abbrev ym:EF:=fV 5
abbrev L7:EF:=fC<|.int 5
abbrev xl:EF:=fV 6
abbrev Z_:EF:=fV 7
abbrev En:EF:=fV 11
abbrev zy:=YV .Mod
abbrev yi:=YV .Mult
abbrev Hf:EF:=fC<|.int 8
abbrev yh:=YV .FloorDiv
abbrev wG:EF:=fC<|.int 3
abbrev x_:=YV .Sub
abbrev Om:EF:=fC<|.int 6
abbrev vL:AF:=aC (fV 3) aN
abbrev FD:AF:=aC (fV 0) aN
abbrev yI:AF:=aC (fV 1) aN
abbrev xN:AF:=aC (fV 2) aN
abbrev PU:AF:=aC (fV 5) aN
abbrev oV:AF:=aC (fV 7) aN
def xO:List Str:=["Knot"]
def Xm:List Str:=["Knot"]
def Zk:List Str:=["Knot"]
def YA:List Str:=["Knot"]
def XY:List Str:=["Knot"]
def Zq:List Str:=["Knot"]
def yO:List Str:=["Knot"]
def xF:List Str:=["Knot","Ways"]
def PP:List Str:=["Ways"]
def V3:List Str:=["Ways"]
def Vg:List Str:=["Ways"]
def xv:List Str:=["Makes"]
def z_:List Str:=["Makes"]
def YT:List Str:=["Ways"]
def Za:List Str:=["Ways"]
abbrev F9:List Str:=["thing"]
def PM:SF:=(zv<|Ff (Um zh "int")<|Je<|Um zh "bool")
def V6:Fn:=xZ 1 1 PM
abbrev Mu:List Str:=["thing","least","most"]
def UG:SF:=(zv<|Ff (ze FD V6)<|LN zk zh zG (zw .LtE)<|zw .LtE)
def vK:Fn:=xZ 3 3 UG
abbrev Ri:List Str:=["algebra","join","nothing","a"]
abbrev pP:SF:=(xg (GO (fT<|f2 (f2 (f2 zk zG zD) zK zD) zK<|zw .NotEq)<|fT<|f2 (f2 (f2 zk zK zD) zG zD) zK<|zw .NotEq) (zv<|yL<|dC (fC<|.str "nothing")<|dC zK dN) xj)
def w9:SF:=(zl (zr true 1<|f2 zh y8 zD)<|zl (zr true 2<|f2 zh wG zD)<|zl (y9 (yK (aC (f2 zh zW zD) aN) xa) (gN 3) pP)<|zv<|fC .non)
def Zx:Fn:=xZ 4 1 w9
abbrev RG:List Str:=["algebra","n","join","a","b","c"]
def ZC:SF:=(zl (zr true 1<|f2 zh zW zD)<|zl (zr true 2<|f2 zh y8 zD)<|zl (y9 (yK yI xa) (gN 3)<|y9 (yK yI xa) Iy<|y9 (yK yI xa) (gN 5)<|xg (fT<|f2 (f2 (f2 zG (f2 (f2 zG zK zD) zX zD) zD) ym zD) (f2 (f2 zG zK zD) (f2 (f2 zG zX zD) ym zD) zD)<|zw .NotEq) (zv<|yL<|dC (fC<|.str "parting")<|dC zK<|dC zX<|dC ym dN) xj)<|zv<|fC .non)
def Zu:Fn:=xZ 6 1 ZC
abbrev GX:List Str:=["algebra","name","rows","n","m","join","a","i","b","j"]
def YK:SF:=(zl (zr true 3<|f2 zh zW zD)<|zl (zr true 4<|f2 zh zO zD)<|zl (zr true 5<|f2 zh y8 zD)<|zl (y9 (yK vL xa) (gN 6)<|y9 (yK (aC zX aN) xa) (gN 7)<|y9 (yK vL xa) (gN 8)<|y9 (yK (aC zX aN) xa) (gN 9)<|xg (fT<|f2 (f2 (f2 zG (f2 (f2 Z_ (fV 9) zp) zX zy) zD) (f2 (f2 ym xl zD) (fV 8) zD) zD) (f2 (f2 ym (f2 (f2 zG Z_ zD) xl zD) zD) (f2 (f2 zG (fV 9) zD) (fV 8) zD) zD)<|zw .NotEq) (zv<|yL<|dC (fC<|.str "doing")<|dC zk<|dC xl<|dC Z_<|dC (fV 8)<|dC (fV 9) dN) xj)<|zv<|fC .non)
def Zl:Fn:=xZ 10 3 YK
abbrev Ng:List Str:=["algebra","nothing","name","rows","fault"]
abbrev mQ:SF:=(xg (fT<|f2 (f2 (f2 zK zW zD) zk zD) zk<|zw .NotEq) (zv<|yL<|dC (fC<|.str "empty")<|dC zG dN) xj)
def Qd:SF:=(zl (zr true 1<|f2 zh wG zD)<|zl (y9 (Yd<|f2 zh RD zD) (gT 2<|Wp (gN 2)<|Wp (gN 3) Ej)<|zl mQ<|zl (zr true 4<|ze (aC zh<|aC zG vL) Zl)<|xg (fT<|f2 zX (fC .non)<|zw .IsNot) (zv zX) xj)<|zv<|fC .non)
def Xf:Fn:=xZ 5 1 Qd
abbrev Ly:List Str:=["algebra","fault"]
def QN:SF:=(zl (zr true 1<|ze FD Zx)<|zl (xg (fT<|f2 zk (fC .non)<|zw .Is) (zr true 1<|ze FD Zu) xj)<|zl (xg (fT<|f2 zk (fC .non)<|zw .Is) (zr true 1<|ze FD Xf) xj)<|zv zk)
def Y7:Fn:=xZ 2 1 QN
abbrev Pe:List Str:=["algebra","fault"]
def Yq:SF:=(zl (zr true 1<|ze FD Y7)<|xg (fT<|f2 zk (fC .non)<|zw .IsNot) Ik xj)
def vZ:Fn:=xZ 2 1 Yq
abbrev XE:List Str:=["self","whole","back","wait","turn","one","other"]
abbrev lS:EF:=(Fg (fT<|f2 ym (fC .non)<|zw .Is) zW<|f2 zO (fP (aC (f1 ym<|zP yO "deep")<|aC (f1 xl<|zP yO "deep") aN) SW) zp)
abbrev oe:EF:=(Fg (fT<|f2 ym (fC .non)<|zw .Is) zO<|f2 (f1 ym<|zP xF "size") (f1 xl<|zP xF "size") zp)
def Zz:HD:=(Zo (XT 0 xO "whole" zk)<|Zo (XT 0 Xm "back" zG)<|Zo (XT 0 Zk "wait" zK)<|Zo (XT 0 YA "turn" zX)<|Zo (XT 0 XY "one" ym)<|Zo (XT 0 Zq "other" xl)<|Zo (XT 0 yO "deep" lS)<|XT 0 xF "size" oe)
def yn(c:Str):Fn:=rV c 7 7 Zz
abbrev S3:List Str:=["value"]
def Ks:SF:=(zv<|ze (aC zh<|aC zh<|aC (fC .non)<|aC (fC<|.bl false)<|aC (fC .non)<|aC (fC .non) aN)<|yn "Knot")
def W6:Fn:=xZ 1 1 Ks
abbrev N_:List Str:=["self","one","other"]
def UP:SF:=(zv<|f2 (f2 (f1 zh<|zP PP "table") zk zD) zG zD)
def WR:Fn:=xZ 3 3 UP
def W_:List (Str×Fn):=[("Ways",WR)]
abbrev S7:List Str:=["way","one","other"]
def KC:SF:=(zv<|ze (aC (y_ W_ "join" zh<|aC (f1 zk<|zP xO "whole")<|aC (f1 zG<|zP xO "whole") aN)<|aC (y_ W_ "join" zh<|aC (f1 zG<|zP Xm "back")<|aC (f1 zk<|zP Xm "back") aN)<|aC (fC .non)<|aC (fC<|.bl false)<|aC zk xN)<|yn "Knot")
def yu:Fn:=xZ 3 3 KC
abbrev KN:List Str:=["way","row","half"]
def Kf(self:Fn):SF:=(zl (xg (fT<|f2 (fP yI yA) zW<|zw .Eq) (zv<|fC .non) xj)<|zl (xg (fT<|f2 (fP yI yA) zO<|zw .Eq) (zv<|ze (aC (f2 zk zW zD) aN) W6) xj)<|zl (zr true 2<|f2 (fP yI yA) y8 yh)<|zv<|ze (aC zh<|aC (ze (aC zh<|aC (ZY zk oN (oS zG) XU) aN) self)<|aC (ze (aC zh<|aC (ZY zk (oS zG) oN XU) aN) self) aN) yu)
def xR:Nat->Fn
 |0=>λ_=>none
 |n+1=>xZ 3 2<|Kf<|xR n
abbrev SU:List Str:=["tree"]
def KA:SF:=(zv<|Fg (fT<|f2 zh (fC .non)<|zw .Is) zW<|f1 zh<|zP xF "size")
def xb:Fn:=xZ 1 1 KA
abbrev T_:List Str:=["self"]
def WS:SF:=(zv<|f1 zh<|zP V3 "neutral")
def Z0:Fn:=xZ 1 1 WS
def Xn:List (Str×Fn):=[("Ways",Z0)]
abbrev Fi:List Str:=["way","tree"]
def TX:SF:=(zv<|Fg (fT<|f2 zk (fC .non)<|zw .Is) (y_ Xn "nothing" zh aN)<|f1 zk<|zP xO "whole")
def V1:Fn:=xZ 2 2 TX
abbrev GU:List Str:=["self","one","other"]
abbrev m5:AF:=(aC (xM (Gp zh) [none,some 1] VU Y2<|f2 zk zh zD) aN)
def VA:SF:=(zv<|fP (aC (xM (K_<|aC zk xN) [none,none] (gT 2<|Wp VU<|Wp (gN 1) Ej) Y2<|fP m5 tupP) aN) tupP)
def YO:Fn:=xZ 3 3 VA
def Kd:List (Str×Fn):=[("Ways",YO)]
abbrev LZ:List Str:=["way","one","other"]
def Q0:SF:=(zl (xg (fT<|f2 zk (fC .non)<|zw .Is) (zv zG) xj)<|zl (xg (fT<|f2 zG (fC .non)<|zw .Is) (zv zk) xj)<|zv<|y_ Kd "behind" zh<|aC zk xN)
def Xl:Fn:=xZ 3 3 Q0
abbrev Er:List Str:=["self","wait","value","many"]
def UY:SF:=(zv<|f2 (f2 zk (f2 zK (f1 zh<|zP Vg "around") zy) zD) zG zD)
def WU:Fn:=xZ 4 4 UY
def QP:List (Str×Fn):=[("Ways",WU)]
abbrev E6:List Str:=["way","tree","wait","whole","back"]
abbrev rX:TF:=(fT<|f2 (f1 zk<|zP yO "deep") zW<|zw .Eq)
abbrev lZ:EF:=(ze (aC zh<|aC (f1 zk<|zP Zk "wait") xN) Xl)
abbrev lM:AF:=(aC (f1 zk<|zP XY "one")<|aC (f1 zk<|zP Zq "other") aN)
def Tf:SF:=(zl (xg (fT<|f2 zk (fC .non)<|zw .Is) (zv<|fC .non) xj)<|zl (zr true 3<|y_ QP "made" zh<|aC zG<|aC (f1 zk<|zP xO "whole")<|aC (f1 zk<|zP xF "size") aN)<|zl (xg rX (zv<|ze vL W6) xj)<|zl (zr true 4<|y_ QP "made" zh<|aC zG<|aC (f1 zk<|zP Xm "back")<|aC (f1 zk<|zP xF "size") aN)<|zv<|ze (aC zK<|aC zX<|aC lZ<|aC (f1 zk<|zP YA "turn") lM)<|yn "Knot")
def Ze:Fn:=xZ 5 3 Tf
abbrev LC:List Str:=["way","tree"]
def QY:SF:=(zl (xg (fT<|f2 zk (fC .non)<|zw .Is) (zv<|fC .non) xj)<|zv<|ze (aC (f1 zk<|zP Xm "back")<|aC (f1 zk<|zP xO "whole")<|aC (f1 zk<|zP Zk "wait")<|aC (Je<|f1 zk<|zP YA "turn") lM)<|yn "Knot")
def xG:Fn:=xZ 2 2 QY
abbrev FG:List Str:=["way","knot","one","other"]
abbrev m8:SF:=(zl (zr true 2<|ze (aC zh<|aC zG<|aC (f1 zk<|zP Zk "wait") aN) Ze)<|zr true 3<|ze (aC zh<|aC zK<|aC (f1 zk<|zP Zk "wait") aN) Ze)
def PY:SF:=(zl (zr true 2<|f1 zk<|zP XY "one")<|zl (zr true 3<|f1 zk<|zP Zq "other")<|zl (xg (fT<|f2 (f1 zk<|zP Zk "wait") (fC .non)<|zw .IsNot) m8 xj)<|zl (xg (fT<|f1 zk<|zP YA "turn") (zv<|yL<|dC (ze (aC zh vL) xG)<|dC (ze (aC zh xN) xG) dN) xj)<|zv<|yL<|dC zG<|dC zK dN)
def we:Fn:=xZ 4 2 PY
abbrev Tn:List Str:=["way","tree","wait","turn","row","owed","contrary","parts","part"]
abbrev mZ:EF:=(Fg (fT<|f2 zG (fC .non)<|zw .Is) (f1 zk<|zP xO "whole")<|y_ QP "made" zh<|aC zG<|aC (f1 zk<|zP xO "whole")<|aC zO aN)
abbrev uX:AF:=(aC zh<|aC (fV 8)<|aC ym<|aC xl<|aC zX aN)
def QR(self:List wB->O->Option O):SF:=(xg rX (yw<|Yu 4 (dC mZ dN) Yt)<|zl (zr true 5 lZ)<|zl (zr true 6<|f2 (f1 zk<|zP YA "turn") zK<|zw .NotEq)<|zl (zr true 7<|Fg (fT xl) (yL<|dC (f1 zk<|zP Zq "other")<|dC (f1 zk<|zP XY "one") dN)<|yL<|dC (f1 zk<|zP XY "one")<|dC (f1 zk<|zP Zq "other") dN)<|y9 (Yd Z_) (gN 8)<|Yc 4 uX self)
def wZ:Nat->List wB->O->Option O
 |0=>λ_ _=>none
 |n+1=>gL 9 5<|QR<|wZ n
abbrev Cy:List Str:=["way","tree","row"]
def EB:SF:=(zl (zr false 2<|yJ dN)<|zl (xg (fT<|f2 zk (fC .non)<|zw .IsNot) (Yc 2 (aC zh<|aC zk<|aC (fC .non)<|aC (fC<|.bl false) xN)<|wZ 20) xj)<|zv zG)
def Y4:Fn:=xZ 3 2 EB
abbrev KJ:List Str:=["way","tree","parts"]
def Kv(self:Fn):SF:=(zl (xg (fT<|f2 zk (fC .non)<|zw .Is) (zv<|yL dN) xj)<|zl (xg rX (zv<|yL<|dC (f1 zk<|zP xO "whole") dN) xj)<|zl (zr true 2<|ze (aC zh yI) we)<|zv<|yL<|dC (f1 zk<|zP xO "whole")<|dC (ze (aC zh<|aC (f2 zG zW zD) aN) self)<|dC (ze (aC zh<|aC (f2 zG zO zD) aN) self) dN)
def ZU:Nat->Fn
 |0=>λ_=>none
 |n+1=>xZ 3 2<|Kv<|ZU n
abbrev Gx:List Str:=["way","one","other","parts","inner"]
abbrev rQ:SF:=(zr true 3<|ze (aC zh yI) we)
def Vr:SF:=(zl rQ<|zl (xg (fT<|f2 (f1 (f2 zK zW zD)<|zP yO "deep") (f1 (f2 zK zO zD)<|zP yO "deep")<|zw .GtE) (zv<|ze (aC zh<|aC (f2 zK zW zD)<|aC (ze (aC zh<|aC (f2 zK zO zD) xN) yu) aN) yu) xj)<|zl (zr true 4<|ze (aC zh<|aC (f2 zK zO zD) aN) we)<|zv<|ze (aC zh<|aC (ze (aC zh<|aC (f2 zK zW zD)<|aC (f2 zX zW zD) aN) yu)<|aC (ze (aC zh<|aC (f2 zX zO zD) xN) yu) aN) yu)
def YE:Fn:=xZ 5 3 Vr
abbrev Tc:List Str:=["way","one","other","parts","inner"]
def X1:SF:=(zl (zr true 3<|ze (aC zh xN) we)<|zl (xg (fT<|f2 (f1 (f2 zK zO zD)<|zP yO "deep") (f1 (f2 zK zW zD)<|zP yO "deep")<|zw .GtE) (zv<|ze (aC zh<|aC (ze (aC zh<|aC zk<|aC (f2 zK zW zD) aN) yu)<|aC (f2 zK zO zD) aN) yu) xj)<|zl (zr true 4<|ze (aC zh<|aC (f2 zK zW zD) aN) we)<|zv<|ze (aC zh<|aC (ze (aC zh<|aC zk<|aC (f2 zX zW zD) aN) yu)<|aC (ze (aC zh<|aC (f2 zX zO zD)<|aC (f2 zK zO zD) aN) yu) aN) yu)
def Yo:Fn:=xZ 5 3 X1
abbrev Jl:List Str:=["way","one","other"]
abbrev oX:TF:=(fT<|f2 (f1 zk<|zP yO "deep") (f2 (f1 zG<|zP yO "deep") zO zp)<|zw .Gt)
abbrev mM:TF:=(fT<|f2 (f1 zG<|zP yO "deep") (f2 (f1 zk<|zP yO "deep") zO zp)<|zw .Gt)
def Ef:SF:=(zl (xg oX (zv<|ze (aC zh<|aC zk xN) YE) xj)<|zl (xg mM (zv<|ze (aC zh<|aC zk xN) Yo) xj)<|zv<|ze (aC zh<|aC zk xN) yu)
def Qm:Fn:=xZ 3 3 Ef
abbrev X3:List Str:=["way","one","other","parts"]
def X_(self:Fn):SF:=(zl (xg (fT<|f2 zk (fC .non)<|zw .Is) (zv zG) xj)<|zl (xg (fT<|f2 zG (fC .non)<|zw .Is) (zv zk) xj)<|zl (xg oX (zl rQ<|zv<|ze (aC zh<|aC (f2 zK zW zD)<|aC (ze (aC zh<|aC (f2 zK zO zD) xN) self) aN) Qm) xj)<|zl (xg mM (zl (zr true 3<|ze (aC zh xN) we)<|zv<|ze (aC zh<|aC (ze (aC zh<|aC zk<|aC (f2 zK zW zD) aN) self)<|aC (f2 zK zO zD) aN) Qm) xj)<|zv<|ze (aC zh<|aC zk xN) yu)
def yg:Nat->Fn
 |0=>λ_=>none
 |n+1=>xZ 4 3<|X_<|yg n
abbrev UO:List Str:=["way","tree","place","parts","ahead","pair"]
def UZ(self:Fn):SF:=(zl (xg (fT<|f2 zG zW<|zw .Eq) (zv<|yL<|dC (fC .non)<|dC zk dN) xj)<|zl (xg (fT<|f2 zG (f1 zk<|zP xF "size")<|zw .Eq) (zv<|yL<|dC zk<|dC (fC .non) dN) xj)<|zl rQ<|zl (zr true 4<|f1 (f2 zK zW zD)<|zP xF "size")<|zl (xg (fT<|f2 zG zX<|zw .Lt) (zl (zr true 5<|ze (aC zh<|aC (f2 zK zW zD) xN) self)<|zv<|yL<|dC (f2 ym zW zD)<|dC (ze (aC zh<|aC (f2 ym zO zD)<|aC (f2 zK zO zD) aN)<|yg 20) dN) xj)<|zl (zr true 5<|ze (aC zh<|aC (f2 zK zO zD)<|aC (f2 zG zX x_) aN) self)<|zv<|yL<|dC (ze (aC zh<|aC (f2 zK zW zD)<|aC (f2 ym zW zD) aN)<|yg 20)<|dC (f2 ym zO zD) dN)
def xy:Nat->Fn
 |0=>λ_=>none
 |n+1=>xZ 6 3<|UZ<|xy n
abbrev GI:List Str:=["place","least","most"]
def YL:SF:=(xg (YC<|fT<|ze (aC zh<|aC zk xN) vK) Ik xj)
def yR:Fn:=xZ 3 3 YL
abbrev LV:List Str:=["size"]
def Xr:SF:=(xg (fT<|f2 zh (fC<|.int 300)<|zw .Gt) Ik xj)
def wK:Fn:=xZ 1 1 Xr
abbrev tG:List Str:=["rows"]
def Ie:SF:=(zv<|fP (aC (xM (Gp zh) [none] VU Y2<|fP FD tupP) aN) tupP)
def LL:Fn:=xZ 1 1 Ie
abbrev GB:List Str:=["_law_script","_law_k"]
def VR:SF:=(zl (xg (fT<|f2 zk (fP FD yA)<|zw .Lt) (zv<|f2 zh zk zD) xj)<|zv zW)
def xo:Fn:=xZ 2 2 VR
abbrev MA:List Str:=["_law_cell","_law_k","_law_number"]
def U9:SF:=(zl (xg (fT<|f2 (f2 zh y8 zy) zW<|zw .Eq) (zv<|f2 zh (f2 y8 (f2 Hf zk yi) tP) yh) xj)<|zl (zr true 2<|f2 (f2 (f2 (f2 (f2 zh (fC<|.int 2147483647) zy) (f2 (fC<|.int 69621) zk yi) zp) (fC<|.int 7919) zp) (fC<|.int 48271) yi) (fC<|.int 2147483647) zy)<|zl (zr true 2<|f2 (f2 zG zG yi) (fC<|.int 2147483629) zy)<|zv<|f2 (f2 (f2 zG zG yi) (f2 (fC<|.int 16807) zk yi) zp) (fC<|.int 2147483587) zy)
def zo:Fn:=xZ 3 2 U9
abbrev EC:List Str:=["_law_cell","_law_many","_law_letters","_law_word","_law_long","_law_at","_law_step","_law_names_here","_law_k","_law_turn"]
abbrev pF:EF:=(f2 (ze (aC zG<|aC (f2 (fC<|.int 200) zh zp) aN) zo) (fC<|.int 26) zy)
abbrev n5:EF:=(Mj .str (fC<|.str "") (aC (xM (yK (aC Hf aN) xa) [none,some 2,some 0] VU Y2<|f2 zk pF zD) aN) O1)
abbrev lJ:EF:=(f2 zO (f2 (f2 zh (f2 zG wG yh) zp) Hf zy) zp)
abbrev oT:EF:=(f2 zO (f2 (f2 zh (fC<|.int 192) yh) L7 zy) zp)
abbrev mB:SF:=(zr true 9<|f2 zG (f2 (f2 (ze (aC zh<|aC (f2 (fC<|.int 200) ym zp) aN) zo) (f2 xl (fV 8) yi) zp) (fC<|.int 26) zy) zD)
abbrev lh:SF:=(yw<|Yu 7 (dC (f2 (f2 (ZY zK oN (oS ym) HY) (fV 9) zp) (ZY zK (oS<|f2 ym zO zp) (oS zX) HY) zp) dN) Yt)
def UF:SF:=(zl (zr true 2<|fC<|.str "abcdefghijklmnopqrstuvwxyz")<|zl (zr true 3 n5)<|zl (xg (fT<|f2 (f2 zh wG zy) zW<|zw .Eq) (zv<|xM (yK yI xa) [none,some 3,some 0] VU Y2<|ZY zk oN (oS lJ) HY) xj)<|zl (zr true 4<|f2 zO (f2 (f2 zh wG yh) Hf zy) zp)<|zl (zr true 5<|f2 (f2 zh (fC<|.int 24) yh) zX zy)<|zl (zr true 6 oT)<|zl (zr false 7<|yJ dN)<|zl (y9 (yK yI xa) (gN 8)<|zl mB lh)<|zv Z_)
def Yy:Fn:=xZ 10 2 UF
abbrev HW:List Str:=["_law_kind","_law_n","_law_a","_law_b","_law_images"]
def Ki:SF:=(zl (xg (fT<|f2 zh zW<|zw .Eq) (zv<|f2 (f2 zG zK zp) zk zy) xj)<|zl (xg (fT<|f2 zh zO<|zw .Eq) (zv<|fP (aC zG vL) SW) xj)<|zl (xg (fT<|f2 zh y8<|zw .Eq) (zv<|f2 (yJ<|dC zK<|dC zG dN) (fP (aC (f2 zK zW<|zw .Eq) aN) U1) zD) xj)<|zl (xg (fT<|f2 zh wG<|zw .Eq) (zl (zr true 4<|yJ<|dC (f2 zK y8 yh)<|dC (f2 zK y8 zy) dN)<|zv<|f2 (f2 y8 (f2 zX (f2 zG y8 yh) zD) yi) (f2 zX (f2 zG y8 zy) zD) zp) xj)<|zv<|f2 (f2 wG (f2 (f2 (f2 zG wG yh) (f2 zK wG yh) zp) y8 zy) yi) (f2 (yJ<|dC (f2 zK wG zy)<|dC (f2 zG wG zy) dN) (fP (aC (f2 (f2 zK wG zy) zW<|zw .Eq) aN) U1) zD) zp)
def wJ:Fn:=xZ 5 4 Ki
abbrev S0:List Str:=["_law_kind","_law_n","_law_cell","_law_c","_law_a","_law_k","_law_t","_law_images"]
abbrev oE:SF:=(xg (fT<|f2 zh zW<|zw .Eq) (zv<|f2 (f2 (f2 ym zX yi) (f2 xl zK yi) zp) zk zy) xj)
abbrev mW:EF:=(ze (aC zG<|aC (f2 (fC<|.int 42) zh zp) aN) zo)
abbrev lL:SF:=(zr true 7<|fP (aC (xM (yK (aC (f2 zk zO x_) aN) xa) [none,some 1,some 2] VU Y2<|f2 mW zk zy) aN) Jo)
abbrev oK:SF:=(xg (fT<|f2 zh y8<|zw .Eq) (zv<|f2 (yJ<|dC (f2 zO (f2 (ze (aC zG<|aC (f2 (fC<|.int 42) zX zp) aN) zo) (f2 zk zO x_) zy) zp)<|dC zW dN) (fP (aC (f2 zX zW<|zw .Eq) aN) U1) zD) xj)
abbrev o7:EF:=(f2 (f2 (f2 y8 (f2 zO (f2 zX y8 zy) x_) yi) zO zp) (f2 zX y8 yh) x_)
abbrev lb:SF:=(xg (fT<|f2 zh wG<|zw .Eq) (zv<|f2 (yJ<|dC zX<|dC o7 dN) (f2 ym y8 zy) zD) xj)
abbrev qp:EF:=(f2 (f2 (f2 ym (f2 zX wG yh) yi) (f2 xl zK yi) zp) y8 zy)
abbrev jj:EF:=(f2 (yJ<|dC (f2 zO (f2 (ze (aC zG<|aC (f2 (fC<|.int 42) (f2 zX wG zy) zp) aN) zo) y8 zy) zp)<|dC zW dN) (fP (aC (f2 (f2 zX wG zy) zW<|zw .Eq) aN) U1) zD)
def Kr:SF:=(zl (zr true 5<|ze (aC zG<|aC (fC<|.int 40) aN) zo)<|zl (zr true 6<|ze (aC zG<|aC (fC<|.int 41) aN) zo)<|zl oE<|zl (xg (fT<|f2 zh zO<|zw .Eq) (zl lL<|zv<|f2 (f2 (yJ<|dC zW dN) Z_ zp) zX zD) xj)<|zl oK<|zl lb<|zv<|f2 (f2 wG qp yi) jj zp)
def Y3:Fn:=xZ 8 5 Kr
abbrev EH:List Str:=["_law_cell","_law_n","_law_left","_law_order_here","_law_k"]
abbrev m3:DF:=(dC (Yu 2 (dC (f2 (ze (aC zh<|aC (f2 (fC<|.int 30) zX zp) aN) zo) (fP xN yA) zy) dN) Uh) dN)
def Rb:SF:=(zl (zr false 2<|fP yI ic)<|zl (zr false 3<|yJ dN)<|zl (y9 (yK yI xa) Iy<|yw<|Yu 3 m3 Yt)<|zv zK)
def Yv:Fn:=xZ 5 2 Rb
abbrev FF:List Str:=["_law_kind","_law_n","_law_m","_law_cell","_law_order_here","_law_rows_here","_law_c","_law_row","_law_a"]
abbrev oH:EF:=(ze (aC zh<|aC zk<|aC zK<|aC xl<|aC (fV 8) aN) Y3)
abbrev oi:SF:=(y9 (yK yI xa) (gN 8)<|Ko 7 (CD 4<|xV 8)<|f2 zX oH zD)
def Tu:SF:=(zl (zr false 5<|yJ dN)<|zl (y9 (yK xN xa) (gN 6)<|zl (zr false 7<|f2 (yJ<|dC zW dN) zk yi)<|zl oi<|yw<|Yu 5 (dC Z_ dN) Yt)<|zv ym)
def Z2:Fn:=xZ 9 5 Tu
abbrev GZ:List Str:=["_law_cell","_law_kind","_law_n","_law_m","_law_order_here","_law_join","_law_a","_law_b","_law_many","_law_names_here","_law_deeds","_law_signs","_law_k"]
abbrev tF:EF:=(f2 (ze (aC zh<|aC zW aN) zo) L7 zy)
abbrev iN:EF:=(f2 (yJ<|dC (f2 y8 (f2 (ze (aC zh<|aC zO aN) zo) L7 zy) zp)<|dC (f2 y8 (f2 (ze (aC zh<|aC zO aN) zo) (fC<|.int 7) zy) zp)<|dC (f2 y8 (f2 (ze (aC zh<|aC zO aN) zo) RD zy) zp)<|dC RD<|dC Om dN) zk zD)
abbrev ix:EF:=(f2 (yJ<|dC zG<|dC (f2 zO (f2 (ze (aC zh<|aC y8 aN) zo) Om zy) zp)<|dC (f2 zO (f2 (ze (aC zh<|aC y8 aN) zo) RD zy) zp)<|dC (f2 zO (f2 (ze (aC zh<|aC y8 aN) zo) wG zy) zp)<|dC y8 dN) zk zD)
abbrev o6:EF:=(xM (yK xN xa) [none,some 2] VU Y2<|f2 (yJ<|dC zW dN) zk yi)
abbrev DB:EF:=(ze (aC zk<|aC zG<|aC xl oV) wJ)
abbrev nv:SF:=(y9 (yK xN xa) (gN 7)<|Uk 5 (CD 4<|xV 6) (CD 4<|xV 7)<|f2 zX DB zD)
abbrev nQ:EF:=(f2 zO (f2 (ze (aC zh<|aC wG aN) zo) wG zy) zp)
abbrev pJ:EF:=(ze (aC (f2 zh (fC<|.int 2147483647) zy)<|aC wG aN) Yy)
abbrev pw:DF:=(dC (f2 zk zh zD)<|dC (ze (aC zG<|aC zK<|aC zX<|aC (f2 xl (f2 (fC<|.int 7) zh yi) zp) PU) Z2) dN)
abbrev ip:EF:=(f2 (f2 (ze (aC zk<|aC (f2 (f2 (fC<|.int 80) (f2 (fC<|.int 9) zG yi) zp) zh zp) aN) zo) wG zy) zO<|zw .Eq)
abbrev mF:DF:=(dC (yL<|dC (f2 (fV 9) (f2 y8 (fV 12) x_) zD)<|dC (xM (yK xN xa) [none,some 0,some 12] VU (fT ip) zh) dN) dN)
abbrev pD:DF:=(dC zG<|dC zK<|dC ym<|dC (f2 zX (fP (aC (f2 zk wG<|zw .Eq) aN) U1) zD)<|dC (fV 10)<|dC En dN)
def VQ:SF:=(zl (zr true 1 tF)<|zl (zr true 2 iN)<|zl (zr true 3 ix)<|zl (zr true 4<|ze (aC zh xN) Yv)<|zl (zr false 5 o6)<|zl (y9 (yK xN xa) (gN 6) nv)<|zl (zr true 8 nQ)<|zl (zr true 9 pJ)<|zl (zr true 10<|xM (yK (aC (fV 8) aN) xa) [none,some 9,some 1,some 2,some 3,some 4,some 0] VU Y2<|yL pw)<|zl (zr false 11<|yJ dN)<|zl (y9 (yK (aC (f2 zO (f2 (ze (aC zh<|aC RD aN) zo) y8 zy) zp) aN) xa) (gN 12)<|yw<|Yu 11 mF Yt)<|zv<|yL pD)
def Zj:Fn:=xZ 13 1 VQ
abbrev Ft:List Str:=["_law_algebra_here","_law_row","_law_value","_law_other"]
def Pk:SF:=(zl (xg (fT<|f2 zk (yJ dN)<|zw .Eq) (zv<|f2 zh wG zD) xj)<|zl (zr true 2<|f2 zk zW zD)<|zl (y9 (Yd<|ZY zk (oS zO) oN XU) (gN 3)<|zr true 2<|f2 (f2 (f2 zh y8 zD) zG zD) zK zD)<|zv zG)
def vC:Fn:=xZ 4 2 Pk
abbrev EZ:List Str:=["_law_algebra_here","_law_k","_law_row","_law_images"]
def PL:SF:=(zl (zr true 3<|f2 (f2 (f2 (f2 zh RD zD) zk zD) zO zD) (f2 zO (f2 zh zO zD) zy) zD)<|zv<|xM (Gp zG) [none,some 3] VU Y2<|f2 zk zh zD)
def VY:Fn:=xZ 4 3 PL
abbrev T8:List Str:=["_law_algebra_here","_law_found","_law_one_here","_law_other","_law_row"]
abbrev j6:TF:=(GO (YC<|fT<|Um zk "tuple")<|Pv (fT<|f2 (fP yI yA) zO<|zw .NotEq)<|fT<|f2 (fP yI yA) wG<|zw .NotEq)
abbrev n6:TF:=(GO (fT<|f2 zG (fC .non)<|zw .Is)<|GO (fT<|f2 zK (fC .non)<|zw .Is)<|fT<|f2 (fP (aC (f2 (f2 zG zW zD) (f2 zK zW zD) x_) aN) An) zO<|zw .Gt)
abbrev nh:TF:=(fT<|f2 (f2 zk zW zD) (ze (aC zh<|aC zX aN) vC)<|zw .NotEq)
def Td(self:Fn):SF:=(zl (xg j6 (zv<|fC .non) xj)<|zl (xg (fT<|f2 (fP yI yA) zO<|zw .Eq) (zv<|yL<|dC zW<|dC (yJ<|dC (f2 zk zW zD) dN) dN) xj)<|zl (zr true 2<|ze (aC zh<|aC (f2 zk zO zD) aN) self)<|zl (zr true 3<|ze (aC zh<|aC (f2 zk y8 zD) aN) self)<|zl (xg n6 (zv<|fC .non) xj)<|zl (zr true 4<|f2 (f2 zG zO zD) (f2 zK zO zD) zp)<|zl (xg nh (zv<|fC .non) xj)<|zv<|yL<|dC (f2 zO (fP (aC (f2 zG zW zD)<|aC (f2 zK zW zD) aN) SW) zp)<|dC zX dN)
def Zc:Nat->Fn
 |0=>λ_=>none
 |n+1=>xZ 5 2<|Td<|Zc n
abbrev Ei:List Str:=["_law_algebra_here","_law_row","_law_cell","_law_i","_law_j"]
def U8:SF:=(zl (zr true 3<|f2 (ze (aC zG<|aC (fC<|.int 62) aN) zo) (f2 (fP yI yA) zO zp) zy)<|zl (zr true 4<|f2 zK (f2 (ze (aC zG<|aC (fC<|.int 63) aN) zo) (f2 (f2 (fP yI yA) zK x_) zO zp) zy) zp)<|zv<|yL<|dC zK<|dC zX<|dC (f2 (ze (aC zG<|aC (fC<|.int 64) aN) zo) (fP (aC (f2 zh RD zD) aN) yA) zy)<|dC (f2 (ze (aC zG<|aC (fC<|.int 65) aN) zo) (f2 zh zW zD) zy) dN)
def Wn:Fn:=xZ 5 3 U8
abbrev RL:List Str:=["self","make"]
abbrev qf:EF:=(fP (aC (f1 zh<|zP xv "trees") aN) yA)
def Xw:SF:=(zl (xg (YC<|fT<|ze (aC zk<|aC zW<|aC (f2 qf zO x_) aN) vK) Ik xj)<|zv<|f2 (f1 zh<|zP xv "trees") zk zD)
def yE:Fn:=xZ 2 2 Xw
def yH:List (Str×Fn):=[("Makes",yE)]
abbrev Vj:List Str:=["self","make","i","j","tree","pair","ahead"]
abbrev pG:SF:=(yw<|ze (aC zG<|aC zW<|aC (ze (aC zX aN) xb) aN) yR)
def ZG:SF:=(zl (zr true 4<|y_ yH "tree_at" zh yI)<|zl pG<|zl (yw<|ze (aC zK<|aC zG<|aC (ze (aC zX aN) xb) aN) yR)<|zl (zr true 5<|ze (aC (f1 zh<|zP z_ "way")<|aC zX vL)<|xy 20)<|zl (zr true 6<|ze (aC (f1 zh<|zP z_ "way")<|aC (f2 ym zW zD) xN)<|xy 20)<|zv<|yL<|dC (f2 xl zW zD)<|dC (f2 xl zO zD)<|dC (f2 ym zO zD) dN)
def yj:Fn:=xZ 7 4 ZG
abbrev QV:List Str:=["self","tree"]
def ZP:VF:=(Zd (ng 0 1 xv "trees")<|YQ<|f2 (p_ 0 xv "trees") zO x_)
def zU:List wB->O->Option (D×O):=Hy 2 2 ZP
abbrev Gi:List Str:=["self","thing"]
def Wx:SF:=(zv<|Ff (Um zk "str")<|f2 zk (f1 zh<|zP YT "waits")<|zw .In)
def Z5:Fn:=xZ 2 2 Wx
abbrev Gf:List Str:=["self","deed"]
def Wi:SF:=(zv<|f2 (f1 zh<|zP YT "waits") zk zD)
def Ye:Fn:=xZ 2 2 Wi
abbrev Xg:List Str:=["self","ahead","stretch","rest"]
def vQ:SF:=(zv<|N4<|ze (aC (f1 zh<|zP z_ "way")<|aC (ze (aC (f1 zh<|zP z_ "way")<|aC zk xN)<|yg 20) vL)<|yg 20)
def zH:Fn:=xZ 4 4 vQ
def xh:List (Str×Fn):=[("Makes",zH)]
def V4:List (Str×Fn):=[("Ways",Ye)]
def V9:List (Str×Fn):=[("Ways",Z5)]
def wu:List (Str×Fn):=[("Makes",yj)]
abbrev Qe:List Str:=["self","make","i","j","deed","parts","stretch"]
abbrev pd:EF:=(xW 0 wu "three_parts" (aC zk<|aC zG vL))
abbrev mK:EF:=(xW 0 xh "three_together" (aC (f2 ym zW zD)<|aC xl<|aC (f2 ym y8 zD) aN))
def Q3:VF:=(Zd (zr true 5 pd)<|Zd (xg (YC<|fT<|y_ V9 "is_deed" (GD 0 z_ "way")<|aC zX aN) Ik xj)<|Zd (zr true 6<|ze (aC (GD 0 z_ "way")<|aC (f2 ym zO zD)<|aC (y_ V4 "wait_of" (GD 0 z_ "way")<|aC zX aN) aN) Ze)<|YQ<|wq 0 "Makes" "keep" zU<|aC mK aN)
def ZJ:List wB->O->Option (D×O):=Hy 7 5 Q3
abbrev WJ:List Str:=["self","make","i","j","parts"]
abbrev lU:EF:=(xW 0 xh "three_together" (aC (f2 zX zW zD)<|aC (ze (aC (GD 0 z_ "way")<|aC (f2 zX zO zD) aN) xG)<|aC (f2 zX y8 zD) aN))
def WQ:VF:=(Zd (zr true 4 pd)<|YQ<|wq 0 "Makes" "keep" zU<|aC lU aN)
def vY:List wB->O->Option (D×O):=Hy 5 4 WQ
abbrev RB:List Str:=["self","thing"]
def Xy:SF:=(zv<|ze (aC zk<|aC zW<|aC (f2 (f1 zh<|zP xF "size") zO x_) aN) vK)
def Zy:Fn:=xZ 2 2 Xy
def U0:List (Str×Fn):=[("Ways",Zy)]
abbrev Vp:List Str:=["self","thing"]
def wW:SF:=(xg (YC<|fT<|y_ U0 "is_value" (f1 zh<|zP z_ "way") yI) Ik xj)
def yt:Fn:=xZ 2 2 wW
def yW:List (Str×Fn):=[("Makes",yt)]
abbrev Xz:List Str:=["self","make","i","value","tree","parts"]
abbrev lK:EF:=(xW 0 wu "three_parts" (aC zk<|aC zG<|aC (f2 zG zO zp) aN))
abbrev mH:EF:=(xW 0 xh "three_together" (aC (f2 ym zW zD)<|aC (ze (aC (GD 0 z_ "way")<|aC (yJ<|dC zK dN) aN)<|xR 20)<|aC (f2 ym y8 zD) aN))
def XG:VF:=(Zd (zr true 4<|xW 0 yH "tree_at" yI)<|Zd (yw<|ze (aC zG<|aC zW<|aC (f2 (ze (aC zX aN) xb) zO x_) aN) yR)<|Zd (yw<|xW 0 yW "check_value" vL)<|Zd (zr true 5 lK)<|YQ<|wq 0 "Makes" "keep" zU<|aC mH aN)
def vA:List wB->O->Option (D×O):=Hy 6 4 XG
abbrev Wy:List Str:=["self","make","i","other","tree","second","pair"]
abbrev rR:EF:=(ze (aC (f2 (ze (aC zX aN) xb) (ze PU xb) zp) aN) wK)
abbrev mV:EF:=(xW 0 xh "three_together" (aC (f2 xl zW zD)<|aC ym<|aC (f2 xl zO zD) aN))
def X2:VF:=(Zd (zr true 4<|xW 0 yH "tree_at" yI)<|Zd (zr true 5<|xW 0 yH "tree_at" vL)<|Zd pG<|Zd (yw rR)<|Zd (zr true 6<|ze (aC (GD 0 z_ "way")<|aC zX xN)<|xy 20)<|YQ<|wq 0 "Makes" "keep" zU<|aC mV aN)
def v9:List wB->O->Option (D×O):=Hy 7 4 X2
abbrev UT:List Str:=["self","make","i","j","parts","stretch"]
abbrev kY:DF:=(dC (wq 0 "Makes" "keep" zU<|aC (ze (aC (GD 0 z_ "way")<|aC (f2 zX zW zD)<|aC (f2 zX y8 zD) aN)<|yg 20) aN) dN)
def UM:VF:=(Zd (zr true 4 pd)<|Zd (zr true 5<|wq 0 "Makes" "keep" zU<|aC (f2 zX zO zD) aN)<|YQ<|yL<|dC ym kY)
def Yx:List wB->O->Option (D×O):=Hy 6 4 UM
abbrev VB:List Str:=["_law_makes","_law_algebra_here","_law_make","_law_row","_law_cell","_law_i","_law_j","_law_k","_law_value","_law_kind","_law_name"]
abbrev qL:EF:=(ze (aC zk<|aC zK<|aC zX aN) Wn)
abbrev t_:GF:=(gT 4<|Wp (gN 5)<|Wp (gN 6)<|Wp (gN 7)<|Wp (gN 8) Ej)
abbrev qF:SF:=(XW qL t_)
abbrev tE:EF:=(f2 (ze (aC zX<|aC (fC<|.int 66) aN) zo) Om zy)
abbrev rj:TF:=(Pv (fT<|f2 (fV 9) y8<|zw .Eq)<|fT<|f2 ym (fP vL yA)<|zw .Lt)
abbrev tm:TF:=(Pv (fT<|f2 (fV 9) wG<|zw .Eq)<|fT<|f2 (f2 y8 (fP vL yA) yi) (fC<|.int 40)<|zw .LtE)
abbrev mN:EF:=(ze (aC zk<|aC Z_<|aC (ZY zK (oS ym) (oS xl) XU) aN) VY)
def YF:VF:=(Zd qF<|Zd (zr true 9 tE)<|Az (fT<|f2 (fV 9) zO<|zw .Eq) (YQ<|yL<|dC (N4<|wq 0 "Makes" "turned" vY<|aC zG<|aC ym<|aC xl aN)<|dC (N4<|f2 (f2 (ZY zK oN (oS ym) XU) (ZY (ZY zK (oS ym) (oS xl) XU) oN (oS<|f1 zO H9) je) zp) (ZY zK (oS xl) oN XU) zp) dN)<|Az rj (YQ<|yL<|dC (N4<|wq 0 "Makes" "changed" vA<|aC zG<|aC ym<|aC (fV 8) aN)<|dC (N4<|f2 (f2 (ZY zK oN (oS ym) XU) (yJ<|dC (fV 8) dN) zp) (ZY zK (oS<|f2 ym zO zp) oN XU) zp) dN)<|Az tm (YQ<|yL<|dC (N4<|wq 0 "Makes" "put_in" v9<|aC zG<|aC ym xN)<|dC (N4<|f2 (f2 (ZY zK oN (oS ym) XU) zK zp) (ZY zK (oS ym) oN XU) zp) dN)<|Az (fT<|f2 (fV 9) RD<|zw .Eq) (YQ<|yL<|dC (f2 (wq 0 "Makes" "cut" Yx<|aC zG<|aC ym<|aC xl aN) zO zD)<|dC (N4<|f2 (ZY zK oN (oS ym) XU) (ZY zK (oS xl) oN XU) zp) dN)<|Zd (zr true 10<|f2 (f2 (f2 zk RD zD) Z_ zD) zW zD)<|YQ<|yL<|dC (N4<|wq 0 "Makes" "done" ZJ<|aC zG<|aC ym<|aC xl<|aC (fV 10) aN)<|dC (N4<|f2 (f2 (ZY zK oN (oS ym) XU) mN zp) (ZY zK (oS xl) oN XU) zp) dN)
def yq:List wB->O->Option (D×O):=Hy 11 5 YF
abbrev MX:List Str:=["_law_algebra_here","_law_row","_law_i","_law_values","_law_k"]
abbrev pz:TF:=(fT<|f2 (ze (aC zh<|aC (ZY zk (oS zG) (oS<|f2 zX zO zp) XU) aN) vC) zK<|zw .In)
def UI:SF:=(zl (y9 (yK (aC zG<|aC (fP yI yA) aN) Df) Iy<|xg pz (zv zX) xj)<|zv<|fC .non)
def WH:Fn:=xZ 5 4 UI
abbrev LA:List Str:=["self","make"]
abbrev qc:AF:=(aC (y_ yH "tree_at" zh yI) aN)
def Qn:SF:=(zv<|ze (aC (f1 zh<|zP z_ "way") qc)<|ZU 20)
def ZO:Fn:=xZ 2 2 Qn
abbrev Gm:List Str:=["self","make"]
def WV:SF:=(zv<|ze (aC (f1 zh<|zP z_ "way") qc) Y4)
def wA:Fn:=xZ 2 2 WV
abbrev Ll:List Str:=["self","make"]
def Qf:SF:=(zv<|ze qc xb)
def Xs:Fn:=xZ 2 2 Qf
abbrev GY:List Str:=["self","make","i","j"]
def VH:SF:=(zv<|ze (aC (f1 zh<|zP z_ "way")<|aC (f2 (y_ wu "three_parts" zh<|aC zk<|aC zG vL) zO zD) aN) V1)
def YR:Fn:=xZ 4 4 VH
abbrev Gj:List Str:=["self","thing"]
def Wz:SF:=(zv<|Ff (Um zk "str")<|f2 zk (f1 zh<|zP Za "holders")<|zw .In)
def Z1:Fn:=xZ 2 2 Wz
abbrev RK:List Str:=["self","sign","value"]
def XJ:SF:=(zv<|f2 zG (f2 (f1 zh<|zP Za "holders") zk zD)<|zw .In)
def Zw:Fn:=xZ 3 3 XJ
def vJ:List (Str×Fn):=[("Makes",wA)]
def VV:List (Str×Fn):=[("Ways",Z1)]
def UR:List (Str×Fn):=[("Ways",Zw)]
abbrev Gv:List Str:=["self","make","i","sign","row","whole","k"]
abbrev qQ:EF:=(y_ W_ "join" (f1 zh<|zP z_ "way")<|aC ym<|aC (f2 zX xl zD) aN)
abbrev u9:EF:=(y_ UR "has_sign" (f1 zh<|zP z_ "way")<|aC zK PU)
def Vs:SF:=(zl (zr true 4<|y_ vJ "listed" zh yI)<|zl (yw<|ze (aC zG<|aC zW<|aC (fP (aC zX aN) yA) aN) yR)<|zl (xg (YC<|fT<|y_ VV "is_sign" (f1 zh<|zP z_ "way") vL) Ik xj)<|zl (zr true 5<|y_ Xn "nothing" (f1 zh<|zP z_ "way") aN)<|zl (y9 (yK (aC zG<|aC (fP (aC zX aN) yA) aN) Df) (gN 6)<|zl (zr true 5 qQ)<|xg (fT u9) (zv xl) xj)<|zv<|fC .non)
def YH:Fn:=xZ 7 4 Vs
def B3:List (Str×Fn):=[("Makes",Xs)]
def EE:List (Str×Fn):=[("Makes",YR)]
def Mn:List (Str×Fn):=[("Makes",YH)]
def RS:List (Str×Fn):=[("Makes",ZO)]
abbrev F3:List Str:=["_law_makes","_law_algebra_here","_law_pair","_law_row","_law_cell","_law_i","_law_j","_law_k","_law_value","_law_name","_law_values","_law_due","_law_make","_law_found","_law_walk","_law_gone_here"]
abbrev nK:EF:=(f2 (f2 zk L7 zD) (f2 (ze (aC zX<|aC (fC<|.int 67) aN) zo) (fP (aC (f2 zk L7 zD) aN) yA) zy) zD)
abbrev nX:EF:=(yJ<|dC zK<|dC (fP vL yA)<|dC (ze (aC zk<|aC (ZY zK (oS ym) (oS xl) XU) aN) vC)<|dC (ze (aC zk<|aC zK<|aC ym<|aC (fV 10) aN) WH) dN)
abbrev kL:EF:=(yJ<|dC (y_ vJ "listed" zh<|aC (fV 12) aN)<|dC (y_ B3 "many" zh<|aC (fV 12) aN)<|dC (y_ EE "asked" zh<|aC (fV 12)<|aC ym<|aC xl aN)<|dC (y_ Mn "first" zh<|aC (fV 12)<|aC ym<|aC (fV 9) aN) dN)
abbrev oB:SF:=(xg (fT<|f2 (fV 13) En<|zw .NotEq) (zv<|fC<|.bl false) xj)
abbrev J8:TF:=(Pv (fT<|f2 zK (yJ dN)<|zw .Eq)<|fT<|f2 (fV 14) (yL dN)<|zw .NotEq)
abbrev sS:TF:=(GO (fT<|f2 (fV 15) (fC .non)<|zw .Is)<|fT<|f2 (f2 (fV 15) zO zD) zK<|zw .NotEq)
def Pp:SF:=(zl qF<|zl (XW nK<|gT 2<|Wp (gN 9)<|Wp (gN 10) Ej)<|zl (zr true 11 nX)<|zl (y9 (Yd zG) (gN 12)<|zl (zr true 13 kL)<|zl oB<|zl (zr true 14<|y_ RS "walk" zh<|aC (fV 12) aN)<|zl (xg J8 (zv<|fC<|.bl false) xj)<|xg (fT<|f2 zK (yJ dN)<|zw .NotEq) (zl (zr true 15<|ze (aC zk<|aC (fV 14) aN)<|Zc 20)<|xg sS (zv<|fC<|.bl false) xj) xj)<|zv<|fC<|.bl true)
def Z9:Fn:=xZ 16 5 Pp
abbrev YY:List Str:=["self","way"]
def Zh:HD:=(Zo (XT 0 z_ "way" zk)<|C6 0 xv "trees" (yJ dN))
def xu(c:Str):Fn:=rV c 2 2 Zh
abbrev Qy:List Str:=["self","row","value"]
def ZL:VF:=(Zd (xg (YC<|fT<|Um zk "list") Ik xj)<|Zd (y9 (Yd zk) (gN 2)<|yw<|xW 0 yW "check_value" xN)<|Zd (yw<|ze (aC (fP yI yA) aN) wK)<|YQ<|wq 0 "Makes" "keep" zU<|aC (ze (aC (GD 0 z_ "way") yI)<|xR 20) aN)
def yx:List wB->O->Option (D×O):=Hy 3 2 ZL
abbrev Xx:List Str:=["self","algebra"]
abbrev o9:EF:=(fP (aC (xM (Gp<|f2 zk RD zD) [none,none] (gT 2<|Wp VU<|Wp (gN 1) Ej) Y2<|yL<|dC zh<|dC (ze yI LL) dN) aN) MD)
abbrev n9:EF:=(fP (aC (xM (Gp<|f2 zk L7 zD) [none,none] (gT 2<|Wp VU<|Wp (gN 1) Ej) Y2<|yL<|dC zh<|dC (fP yI tupP) dN) aN) MD)
def ZA:HD:=(Zo (DT<|ze yI vZ)<|Zo (XT 0 xF "size" (f2 zk zW zD))<|Zo (XT 0 Vg "around" (f2 zk zO zD))<|Zo (XT 0 PP "table" (ze (aC (f2 zk y8 zD) aN) LL))<|Zo (XT 0 V3 "neutral" (f2 zk wG zD))<|Zo (XT 0 YT "waits" o9)<|XT 0 Za "holders" n9)
def w_(c:Str):Fn:=rV c 2 2 ZA
abbrev El:List Str:=["_law_script","_law_algebra_here","_law_makes","_law_rows_here","_law_last","_law_cell","_law_old","_law_row","_law_one_here","_law_other","_law_due","_law_make"]
def IE:(["_law_k","_law_cell","_law_algebra_here"]:List Str).Nodup:=by decide +kernel
abbrev lH:SF:=(zr true 6<|f2 (fP vL Kb) (f2 (f1 zO H9) (f2 (ze (aC ym<|aC (fC<|.int 60) aN) zo) (fP (aC Om<|aC (fP vL yA) aN) OQ) zy) x_) zD)
abbrev qj:TF:=(fT<|f2 (f2 (ze (aC ym<|aC (fC<|.int 61) aN) zo) L7 zy) zO<|zw .Eq)
abbrev nE:AF:=(aC (f2 (ze (aC ym<|aC (fC<|.int 69) aN) zo) (fC<|.int 20) zy) aN)
abbrev mS:EF:=(ze (aC zk<|aC (f2 (fC<|.int 70) zh zp) aN) zo)
abbrev kM:EF:=(xM (yK nE xa) [none,some 5,some 1] VU Y2<|f2 mS (f2 zG zW zD) zy)
abbrev ll:SF:=(zr true 4<|wq 2 "Makes" "made" yx<|aC (fP oV lstP) aN)
abbrev pO:SF:=(XW (Ym 2 (aC zG<|aC zk<|aC xl<|aC (f2 zK xl zD) PU) yq)<|gT 2<|Wp Iy<|Wp (gN 7) Ej)
abbrev pL:SF:=(XW (Ym 2 (aC zG<|aC zk<|aC (fV 8)<|aC Z_ PU) yq)<|gT 2<|Wp (gN 8)<|Wp (gN 10) Ej)
abbrev pE:SF:=(XW (Ym 2 (aC zG<|aC zk<|aC (fV 9)<|aC Z_ PU) yq)<|gT 2<|Wp (gN 9)<|Wp (gN 7) Ej)
abbrev lN:SF:=(xg (GO (YC<|fT<|Uy<|ze (aC zG<|aC zk<|aC (yJ<|dC (fV 8)<|dC (fV 9) dN)<|aC Z_ PU) Z9)<|fT<|f2 (fV 10) Z_<|zw .NotEq) (zv<|fC<|.bl false) xj)
abbrev tU:TF:=(fT<|f2 (xW 2 vJ "listed" (aC En aN)) (f2 zK En zD)<|zw .NotEq)
def D3:SF:=(zl (zr true 1<|ze (aC (ze (aC zh<|aC zW aN) xo) aN) Zj)<|zl (zr false 2<|ze (aC (ze yI<|w_ "Ways") aN)<|xu "Makes")<|zl (zr false 3 jY)<|zl (zr true 4<|wq 2 "Makes" "made" yx<|aC (yJ dN) aN)<|zl (G5 3 zX<|yJ dN)<|zl (y9 (Yd<|ZY zh (oS zO) (oS<|fC<|.int 41) XU) (gN 5)<|zl lH<|zl (xg qj (zl (zr true 7 kM) ll) pO)<|G5 3 zX Z_)<|zl (zr true 8<|f2 (fP vL Kb) (f2 (ze (aC zh<|aC (fC<|.int 41) aN) xo) (fP vL yA) zy) zD)<|zl (zr true 7<|f2 zK (fV 8) zD)<|zl (zr true 9<|wq 2 "Makes" "made" yx<|aC (xW 2 vJ "listed" (aC (fV 8) aN)) aN)<|zl (xg (YC<|fT<|Uy<|ze (aC zG<|aC zk<|aC (yJ<|dC (fV 8)<|dC (fV 9) dN)<|aC Z_<|aC (ze (aC zh<|aC (fC<|.int 41) aN) xo) aN) Z9) (zv<|fC<|.bl false) xj)<|zl (y9 (Yd<|f2 (ZY zh (oS<|fC<|.int 42) (oS<|fC<|.int 63) XU) (yJ<|dC zW<|dC zO dN) zp) (gN 5)<|zl pL<|zl pE lN)<|zl (y9 (Yd<|fP vL Kb) (gN 11)<|xg tU (zv<|fC<|.bl false) xj)<|zv<|fC<|.bl true)
def Kg:Fn:=xZ 12 1 D3
set_option genInjectivity false in
set_option genSizeOf false in
structure Txt(P:Program)(w:World)(K:zzA)(mg:Str->Option Value)(base:Heap)(kd:KD):Prop where
 hkd:q_ P w K kd
 EW:Fq K mg "is_whole" Px
 Ed:Fq K mg "is_within" UH
 RH:Fq K mg "nothing_fails" XB
 RI:Fq K mg "parting_fails" XO
 G4:Fq K mg "doing_fails" VM
 NP:Fq K mg "deeds_fail" QD
 Lu:Fq K mg "what_fails" Qi
 P0:Fq K mg "check_let_by" Wa
 SM:Fq K mg "leaf_of" Lk
 S_:Fq K mg "knot_of" Kt
 G9:Fq K mg "tree_of" K5
 HS:Fq K mg "size_of" KW
 EM:Fq K mg "whole_of" To
 Lx:Fq K mg "both_waits" Q2
 Fy:Fq K mg "done_all" TY
 NY:Fq K mg "turned_all" Qh
 Bc:Fq K mg "parts_of" PD
 Mz:Fq K mg "gather" Ma
 O9:Fq K mg "row_of" Mi
 Kj:Fq K mg "walk_of" K7
 GK:Fq K mg "leaned_left" VN
 Pj:Fq K mg "leaned_right" WG
 Oi:Fq K mg "evened" MZ
 Wm:Fq K mg "put_together" Wv
 UE:Fq K mg "parted_at" U4
 G0:Fq K mg "check_place" VD
 Ln:Fq K mg "check_size" Qz
 rz:Fq K mg "firm" Jk
 GM:Fq K mg "_law_cell_at" Vy
 Mp:Fq K mg "_law_mixed" Re
 M8:Fq K mg "_law_names" UK
 Hw:Fq K mg "_law_two" Lb
 Hu:Fq K mg "_law_one" Ky
 MP:Fq K mg "_law_order" US
 EX:Fq K mg "_law_rows" Gk
 GH:Fq K mg "_law_algebra" Vt
 F2:Fq K mg "_law_come" P9
 FN:Fq K mg "_law_made" T7
 TJ:Fq K mg "_law_gone" Tq
 MN:Fq K mg "_law_place" U7
 G6:Fq K mg "_law_changed" Vz
 Es:Fq K mg "_law_first" UL
 FX:Fq K mg "_law_same" P_
 oC:Fq K mg "law" Mv
 Y6:CI K kd mg "Knot" (kd.c "Knot")
 yQ:CI K kd mg "Makes" (kd.c "Makes")
 wV:CI K kd mg "Ways" (kd.c "Ways")
 Rg:Mq K kd "Knot" "__init__" "Knot.__init__" XH
 Mh:Mq K kd "Ways" "join" "Ways.join" UV
 Pq:Mq K kd "Ways" "nothing" "Ways.nothing" X6
 GL:Mq K kd "Ways" "behind" "Ways.behind" VP
 My:Mq K kd "Ways" "made" "Ways.made" Rc
 Ry:Mq K kd "Makes" "tree_at" "Makes.tree_at" XR
 Vi:Mq K kd "Makes" "three_parts" "Makes.three_parts" ZF
 LK:Mq K kd "Makes" "keep" "Makes.keep" QK
 Th:Mq K kd "Ways" "is_deed" "Ways.is_deed" Wc
 Tg:Mq K kd "Ways" "wait_of" "Ways.wait_of" X9
 Xj:Mq K kd "Makes" "three_together" "Makes.three_together" vW
 LW:Mq K kd "Makes" "done" "Makes.done" Qj
 Gg:Mq K kd "Makes" "turned" "Makes.turned" XZ
 Rm:Mq K kd "Ways" "is_value" "Ways.is_value" XD
 Vm:Mq K kd "Makes" "check_value" "Makes.check_value" ZH
 Rh:Mq K kd "Makes" "changed" "Makes.changed" XA
 Ph:Mq K kd "Makes" "put_in" "Makes.put_in" WB
 EI:Mq K kd "Makes" "cut" "Makes.cut" U2
 LF:Mq K kd "Makes" "walk" "Makes.walk" QB
 Pt:Mq K kd "Makes" "listed" "Makes.listed" Ww
 Ls:Mq K kd "Makes" "many" "Makes.many" QG
 Gy:Mq K kd "Makes" "asked" "Makes.asked" VL
 Gb:Mq K kd "Ways" "is_sign" "Ways.is_sign" Wh
 RM:Mq K kd "Ways" "has_sign" "Ways.has_sign" Xv
 GQ:Mq K kd "Makes" "first" "Makes.first" Vq
 UB:Mq K kd "Makes" "__init__" "Makes.__init__" YU
 LO:Mq K kd "Makes" "made" "Makes.made" QT
 RC:Mq K kd "Ways" "__init__" "Ways.__init__" Xu
 Nd:yG K (kd.c "Knot") "whole"
 Ec:yG K (kd.c "Knot") "back"
 Ms:yG K (kd.c "Knot") "wait"
 N7:yG K (kd.c "Knot") "turn"
 Fs:yG K (kd.c "Knot") "one"
 LS:yG K (kd.c "Knot") "other"
 Mt:yG K (kd.c "Knot") "deep"
 Em:yG K (kd.c "Knot") "size"
 N8:yG K (kd.c "Ways") "size"
 NJ:yG K (kd.c "Ways") "table"
 Ti:yG K (kd.c "Ways") "neutral"
 G3:yG K (kd.c "Ways") "around"
 GG:yG K (kd.c "Makes") "trees"
 N9:yG K (kd.c "Makes") "way"
 Ni:yG K (kd.c "Ways") "waits"
 TH:yG K (kd.c "Ways") "holders"
 GS:GC K kd mg "MOST_IN_ROW" (.int 300)
 oA:mg "abs"=none
 rB:mg "bool"=none
 uZ:mg "dict"=none
 ui:mg "int"=none
 wH:mg "isinstance"=none
 QC:mg "len"=none
 V2:mg "list"=none
 uN:mg "max"=none
 uq:mg "min"=none
 Qq:mg "range"=none
 Ja:mg "sorted"=none
 mC:mg "str"=none
 LU:mg "tuple"=none
 lV:mg "zip"=none
abbrev Ct{P:Program}{w:World}{K:zzA}{mg:Str->Option Value}{base:Heap}{kd:KD}(_:Txt P w K mg base kd)(x:Str)(k:Nat)(m:Fn):Prop:=Cn x P w K mg base k<|XX K kd m
abbrev Cz{P:Program}{w:World}{K:zzA}{mg:Str->Option Value}{base:Heap}{kd:KD}(_:Txt P w K mg base kd)(c m:Str)(k:Nat)(sp:Sp):Prop:=Cm c m P w K mg base kd k sp
abbrev Tm{P:Program}{w:World}{K:zzA}{mg:Str->Option Value}{base:Heap}{kd:KD}(_:Txt P w K mg base kd)(m:Str)(k:Nat)(tb:List (Str×Fn)):Prop:=MT P w K mg base kd m k tb
abbrev Ts{P:Program}{w:World}{K:zzA}{mg:Str->Option Value}{base:Heap}{kd:KD}(_:Txt P w K mg base kd)(m:Str)(k:Nat)(c:Str)(g:List wB->O->Option (D×O)):Prop:=MS P w K mg base kd m k c g
abbrev Cs{P:Program}{w:World}{K:zzA}{mg:Str->Option Value}{base:Heap}{kd:KD}(_:Txt P w K mg base kd)(x:Str)(k:Nat)(sp:Sp):Prop:=Cn x P w K mg base k sp
set_option maxHeartbeats 8000000
def gz(T r:Lean.Ident)(w:List String):Lean.MacroM (Lean.TSyntax `tactic):=do
 let a <-(w.drop 1).toArray.mapM λx=>match x with | "?"=>`(?_) | "="=>`(rfl) | "_"=>`(_) | "R"=>`($r) | "h"=>`(Txt.hkd $T) | "a"=>`(by assumption) | "d"=>`(by decide) | "f"=>`(λ_=>rfl) | "v"=>`(pv _) | "w"=>`(pv 0) | "t"=>`(by trivial) | "o"=>`(($r).mono (by omega)) | "b"=>`(Bt.n _ rfl) | "H"=>`(Txt.hkd $T _ rfl rfl rfl)|x=>let n:Lean.Ident:=Lean.mkIdent (((x.replace "@" "").replace "%" "").replace "!" "").toName;if x.startsWith "@" then `(($n $T))else if x.startsWith "%" then `(($n (Txt.hkd $T _ rfl rfl rfl)))else if x.startsWith "!" then `(($n rfl))else return n
 `(tactic| (refine $(Lean.mkIdent (w.headD "").toName) $a* <;> trivial))
def iK(l:List (Lean.TSyntax `tactic)):Lean.MacroM (Lean.TSyntax `tactic):=do l.foldrM (λa b=>`(tactic| first | $a:tactic | $b:tactic)) (<- `(tactic| fail))
def G8(T r:Lean.Ident)(q:List (Lean.TSyntax `tactic))(s:String):Lean.MacroM (Lean.TSyntax `tactic):=do
 let l:=s.splitOn ";";let x <-iK ((<-(l.drop 1).mapM λz=>gz T r<|z.splitOn " ")++q)
 match(l.headD "").splitOn " " with | [h,k]=>`(tactic| (show $(Lean.mkIdent h.toName) $(Array.replicate k.toNat! (<- `(_)))*;$x:tactic))|_=>return x
section
variable{P:Program}{w:World}{K:zzA}{mg:Str->Option Value}{base:Heap}{kd:KD}(T:Txt P w K mg base kd)
include T
def Bq:CF K kd xO "whole":=(wU T.Y6 T.Nd vD)
def Oc:CF K kd Xm "back":=(wU T.Y6 T.Ec vD)
def Jh:CF K kd Zk "wait":=(wU T.Y6 T.Ms vD)
def Oz:CF K kd YA "turn":=(wU T.Y6 T.N7 vD)
def ug:CF K kd XY "one":=(wU T.Y6 T.Fs vD)
def BE:CF K kd Zq "other":=(wU T.Y6 T.LS vD)
def Cd:CF K kd yO "deep":=(wU T.Y6 T.Mt vD)
def OK:CF K kd xF "size":=(wU T.Y6 T.Em<|wU T.wV T.N8 vD)
def B4:CF K kd PP "table":=(wU T.wV T.NJ vD)
def Kx:CF K kd V3 "neutral":=(wU T.wV T.Ti vD)
def Ex:CF K kd Vg "around":=(wU T.wV T.G3 vD)
def RU:CF K kd xv "trees":=(wU T.yQ T.GG vD)
def Ce:CF K kd z_ "way":=(wU T.yQ T.N9 vD)
def B0:CF K kd YT "waits":=(wU T.wV T.Ni vD)
def Lj:CF K kd Za "holders":=(wU T.wV T.TH vD)
local macro_rules | `(tactic| trivial)=>do let T:=Lean.mkIdent `T;let r:=Lean.mkIdent `hr;iK [<-G8 T r [<- `(tactic| (refine ec (Txt.hkd $T) $r ?_ ?_ (hm:=rfl)<;>trivial)),<- `(tactic| (refine OV (L6 ((Txt.hkd $T) _ rfl rfl rfl) (SI $r) _) (L6 ((Txt.hkd $T) _ rfl rfl rfl) (SI $r) _) ?_ ?_ ?_ (by with_unfolding_all rfl)<;>trivial)),<- `(tactic| (refine Dt (ty:=.str) ((Txt.hkd $T) _ rfl rfl rfl) Dc PySem.F.plainAttrs_str PySem.F.slot_str_join PySem.F.type_str_join ?_ ?_ rfl rfl rfl rfl rfl<;>trivial)),<- `(tactic| (refine D5 (FV rfl (Txt.hkd $T _ rfl rfl rfl)) (Txt.uZ $T) Bt.dict ?_;trivial))] "AE 4;av _;aI;ax h ? ?;bn ? ?;aS;aZ;aB;ec h R ? ?;cn a R ?;Wr ?;Ws ?;cm ? ? ? ?;yV ? ? ?;HN ? ? ?;bi %vG @Txt.QC Bt.len ?;bi !Li @Txt.uN Bt.max ?;bi !K2 @Txt.uq Bt.min ?;bi Bh @Txt.Ja Bt.sorted ?;D5 Bi @Txt.ui Bt.int ?;Uw H = = @Txt.wH Bt.isinstance = @Txt.ui Bt.int ? b d b d = = =;Uw H = = @Txt.wH Bt.isinstance = @Txt.mC Bt.str ? b d b d = = =;D5 HR @Txt.LU Bt.tuple ?;D5 Kk @Txt.V2 Bt.list ?;Uw H = = @Txt.wH Bt.isinstance = @Txt.rB Bt.bool ? b d b d = = =;SX = = @Txt.Qq = @Txt.V2 ? = =;qW ?;OS se ?;lI ? ? ?;u6 ? ?;r_ ?;uL;OJ Lc s_ PySem.F.slot_list_append PySem.F.type_list_append v ? = = = = =;OJ Ig I0 PySem.F.slot_list_pop PySem.F.type_list_pop v ? = = = = =;sU @Txt.GS = d;fd @Cd ?;fd @OK ?;fd @B4 ?;fd @Bq ?;fd @Oc ?;fd @Kx ?;fd @Ex ?;fd @Jh ?;fd @Oz ?;fd @ug ?;fd @BE ?;fd @RU ?;fd @Ce ?;fd @B0 ?;fd @Lj ?;j_ a R ?;mt a R ? ? =;gh a R ? =;NO a o vO v ? = = =;ZK a o vO v ? = = =;Vu ?;oQ @Ce v =;pI @RU v = = @Txt.QC = =;TU ?;Uw H = = @Txt.wH Bt.isinstance = @Txt.LU Bt.tuple ? b d b d = = =;Uw H = = @Txt.wH Bt.isinstance = @Txt.V2 Bt.list ? b d b d = = =;Oa ? ?",<-G8 T r [] "AA 4;bc ? ?;zS",<-G8 T r [<- `(tactic| (refine O_ (pv _) ?_ (λ_ _=>rfl) ?_ ?_ (λ_=>rfl) rfl rfl rfl<;>trivial)),<- `(tactic| (refine Fj (IJ $r) (pv _) ?_ ?_ rfl<;>trivial))] "Ld 4;gJ a ? ? ? ?;Zv ?;VJ ? ? ?;i9 ? ? ?;DW ? =;sv _ _ a ?;jk ? ?;JO v ? ? f = = =;j4 a R ?;lY",<-G8 T r [] "Sx 4;sj _ a ? ?;yM ? ?;xi ?;ZR",<-G8 T r [<- `(tactic| (refine tc (Txt.hkd $T) $r ?_ ?_ (hm:=rfl)<;>trivial))] "AT 4;tc h R ? ?;Np ?;Nr ? f;AW.at_ ?",<-G8 T r [] "AD 4;bd ? ?;vE",<-G8 T r [] "AO 4;yD ?;vT",<-G8 T r [<- `(tactic| exact ag2 (an _ (by assumption)) (an _ (by assumption))),<- `(tactic| exact an _ (gE (by kernel_rfl)))] "AG 5;an _ a;Ul = ? = =",<-G8 T r [] "uv 5;gy ? ?;Va",<-G8 T r [] "q9 4;jb _ a;jF ?",<-G8 T r [] "CT 4;jQ ? ?;jC",<-G8 T r [] "uo 5;KQ = @Txt.Qq ? =;Dj = @Txt.lV ? = =;t9 ?",<-G8 T r [] "AI 5;HQ = @Txt.Qq ? =;S4 = @Txt.Qq ? = =;Lz ?",<-G8 T r [] "AW 4;MR ? ?;NU ? ?;Vd ?;Xo ?",<-G8 T r [<- `(tactic| (refine nV (pv _) ?_ (λ_ _=>rfl);trivial))] "AK 4;rL v",<-G8 T r [] "uA 5;Qu ? ?;W0 ?;Py ? ? ?",<-G8 T r [] "AP 5;jm _ _ d a ?;J5 ? =;pH ? ? ?;apA t t;gv t t t;nM @RU v v = = = = = = =;kI a R ?;nI",<-G8 T r [] "Jz 5;Io ? ?;Dr ?;DJ",<-G8 T r [] "mr 4;OZ ? ?;A4 ?",<-G8 T r [] "pe 4;JV ? =;xX @Bq w ? =;xX @Oc w ? =;xX @Jh w ? =;xX @Oz w ? =;xX @ug w ? =;xX @BE w ? =;xX @Cd w ? =;xX @OK w ? =;xX @Ce w ? =;xX @Ex w ? =;xX @B4 w ? =;xX @Kx w ? =;xX @B0 w ? =;xX @Lj w ? =;Cv @RU w ? =",<-G8 T r [] "-;BL;Aq ?",<- `(tactic| (intro _;trivial)),<- `(tactic| (show jt _ _ _ _ _;refine SN ?_ ?_ ?_<;>trivial))]
def EY:Ct T "is_whole" 1 V6:=by
 refine Y0 (N:=F9) (n:=1) (k:=0) (cc:=PM) T.EW λhN _ _ _ _ _ _ _ hr=>?_;conv=>arg 3;whnf
 trivial
def Wf:Ct T "is_within" 2 vK:=by
 refine Y0 (N:=Mu) (n:=3) (k:=1) (cc:=UG) T.Ed λhN _ _ _ _ _ _ _ hr=>?_;have:=EY T;conv=>arg 3;whnf
 trivial
def Rv:Ct T "nothing_fails" 1 Zx:=by
 refine Y0 (N:=Ri) (n:=1) (k:=0) (cc:=w9) T.RH λhN _ _ _ _ _ _ _ hr=>?_;conv=>arg 3;whnf
 trivial
def Rz:Ct T "parting_fails" 1 Zu:=by
 refine Y0 (N:=RG) (n:=1) (k:=0) (cc:=ZC) T.RI λhN _ _ _ _ _ _ _ hr=>?_;conv=>arg 3;whnf
 trivial
def GJ:Ct T "doing_fails" 1 Zl:=by
 refine Y0 (N:=GX) (n:=3) (k:=0) (cc:=YK) T.G4 λhN _ _ _ _ _ _ _ hr=>?_;conv=>arg 3;whnf
 trivial
def NS:Ct T "deeds_fail" 2 Xf:=by
 refine Y0 (N:=Ng) (n:=1) (k:=1) (cc:=Qd) T.NP λhN _ _ _ _ _ _ _ hr=>?_;have:=GJ T;conv=>arg 3;whnf
 trivial
def Nj:Ct T "what_fails" 3 Y7:=by
 refine Y0 (N:=Ly) (n:=1) (k:=2) (cc:=QN) T.Lu λhN _ _ _ _ _ _ _ hr=>?_;have:=Rv T;have:=Rz T;have:=NS T;conv=>arg 3;whnf
 trivial
def Gr:Ct T "check_let_by" 4 vZ:=by
 refine Y0 (N:=Pe) (n:=1) (k:=3) (cc:=Yq) T.P0 λhN _ _ _ _ _ _ _ hr=>?_;have:=Nj T;conv=>arg 3;whnf
 trivial
def vB(c:Str):Cz T "Knot" "__init__" 1 (uV K kd c<|yn c):=by
 refine WL (N:=XE) (n:=7) T.Y6 T.Rg λF S=>FB (N:=XE) (k:=0) (b:=Zz) F S (by decide) λcdv A outer s H E hr=>?_;have hN:=S.nd;conv=>arg 3;whnf
 trivial
def Kw:Ct T "leaf_of" 3 W6:=by
 refine Y0 (N:=S3) (n:=1) (k:=2) (cc:=Ks) T.SM λhN _ _ _ _ _ _ _ hr=>?_;have:=vB T "Knot";conv=>arg 3;whnf
 trivial
def Mw:Cz T "Ways" "join" 1 (XX K kd WR):=by
 refine N2 (N:=N_) (n:=3) (k:=0) (cc:=UP) T.wV T.Mh λhN _ _ _ _ _ _ _ hr=>?_;conv=>arg 3;whnf
 trivial
def IU:Tm T "join" 1 W_:=(N3 (Mw T) xT)
def YX:Ct T "knot_of" 3 yu:=by
 refine Y0 (N:=S7) (n:=3) (k:=2) (cc:=KC) T.S_ λhN _ _ _ _ _ _ _ hr=>?_;have:=vB T "Knot";have:=IU T;conv=>arg 3;whnf
 trivial
theorem Ut:∀n:Nat,Ct T "tree_of" (3+n) (xR n)
 |0=>oO T.G9 KN 2
 |n+1=>by
  have G:=Ut n;refine Y0 (N:=KN) (n:=2) (k:=3+n) (cc:=Kf<|xR n) T.G9 λhN _ _ _ _ _ _ _ hr=>?_;have:=Kw T;have:=YX T;conv=>arg 3;whnf
  trivial
def W4:Ct T "size_of" 1 xb:=by
 refine Y0 (N:=SU) (n:=1) (k:=0) (cc:=KA) T.HS λhN _ _ _ _ _ _ _ hr=>?_;conv=>arg 3;whnf
 trivial
def Gh:Cz T "Ways" "nothing" 1 (XX K kd Z0):=by
 refine N2 (N:=T_) (n:=1) (k:=0) (cc:=WS) T.wV T.Pq λhN _ _ _ _ _ _ _ hr=>?_;conv=>arg 3;whnf
 trivial
def Le:Tm T "nothing" 1 Xn:=(N3 (Gh T) xT)
def F4:Ct T "whole_of" 2 V1:=by
 refine Y0 (N:=Fi) (n:=2) (k:=1) (cc:=TX) T.EM λhN _ _ _ _ _ _ _ hr=>?_;have:=Le T;conv=>arg 3;whnf
 trivial
def GV:Cz T "Ways" "behind" 1 (XX K kd YO):=by
 refine N2 (N:=GU) (n:=3) (k:=0) (cc:=VA) T.wV T.GL λhN _ _ _ _ _ _ _ hr=>?_;conv=>arg 3;whnf
 trivial
def O4:Tm T "behind" 1 Kd:=(N3 (GV T) xT)
def QS:Ct T "both_waits" 2 Xl:=by
 refine Y0 (N:=LZ) (n:=3) (k:=1) (cc:=Q0) T.Lx λhN _ _ _ _ _ _ _ hr=>?_;have:=O4 T;conv=>arg 3;whnf
 trivial
def M_:Cz T "Ways" "made" 1 (XX K kd WU):=by
 refine N2 (N:=Er) (n:=4) (k:=0) (cc:=UY) T.wV T.My λhN _ _ _ _ _ _ _ hr=>?_;conv=>arg 3;whnf
 trivial
def C9:Tm T "made" 1 QP:=(N3 (M_ T) xT)
def PQ:Ct T "done_all" 4 Ze:=by
 refine Y0 (N:=E6) (n:=3) (k:=3) (cc:=Tf) T.Fy λhN _ _ _ _ _ _ _ hr=>?_;have:=C9 T;have:=Kw T;have:=vB T "Knot";have:=QS T;conv=>arg 3;whnf
 trivial
def Qr:Ct T "turned_all" 3 xG:=by
 refine Y0 (N:=LC) (n:=2) (k:=2) (cc:=QY) T.NY λhN _ _ _ _ _ _ _ hr=>?_;have:=vB T "Knot";conv=>arg 3;whnf
 trivial
def Yl:Ct T "parts_of" 5 we:=by
 refine Y0 (N:=FG) (n:=2) (k:=4) (cc:=PY) T.Bc λhN _ _ _ _ _ _ _ hr=>?_;have:=PQ T;have:=Qr T;conv=>arg 3;whnf
 trivial
theorem Mg:∀n:Nat,Cs T "gather" (2+n) (FS K kd<|wZ n)
 |0=>Et (N:=Tn) (n:=5) T.Mz λ_ _=>IX
 |n+1=>by
  have G:=Mg n;refine Et (N:=Tn) (n:=5) T.Mz λF S=>u5 (N:=Tn) (k:=2+n) (c:=QR<|wZ n) F S (by decide) λ_ _ _ _ _ _ hr=>?_;have hN:=S.nd;have:=C9 T;have:=QS T;conv=>arg 4;whnf
  trivial
def Ju:Ct T "row_of" 23 Y4:=by
 refine Y0 (N:=Cy) (n:=2) (k:=22) (cc:=EB) T.O9 λhN _ _ _ _ _ _ _ hr=>?_;have:=Mg T 20;conv=>arg 3;whnf
 trivial
theorem Ka:∀n:Nat,Ct T "walk_of" (5+n) (ZU n)
 |0=>oO T.Kj KJ 2
 |n+1=>by
  have G:=Ka n;refine Y0 (N:=KJ) (n:=2) (k:=5+n) (cc:=Kv<|ZU n) T.Kj λhN _ _ _ _ _ _ _ hr=>?_;have:=Yl T;conv=>arg 3;whnf
  trivial
def GE:Ct T "leaned_left" 6 YE:=by
 refine Y0 (N:=Gx) (n:=3) (k:=5) (cc:=Vr) T.GK λhN _ _ _ _ _ _ _ hr=>?_;have:=Yl T;have:=YX T;conv=>arg 3;whnf
 trivial
def P8:Ct T "leaned_right" 6 Yo:=by
 refine Y0 (N:=Tc) (n:=3) (k:=5) (cc:=X1) T.Pj λhN _ _ _ _ _ _ _ hr=>?_;have:=Yl T;have:=YX T;conv=>arg 3;whnf
 trivial
def Cj:Ct T "evened" 7 Qm:=by
 refine Y0 (N:=Jl) (n:=3) (k:=6) (cc:=Ef) T.Oi λhN _ _ _ _ _ _ _ hr=>?_;have:=GE T;have:=P8 T;have:=YX T;conv=>arg 3;whnf
 trivial
theorem vU:∀n:Nat,Ct T "put_together" (7+n) (yg n)
 |0=>oO T.Wm X3 3
 |n+1=>by
  have G:=vU n;refine Y0 (N:=X3) (n:=3) (k:=7+n) (cc:=X_<|yg n) T.Wm λhN _ _ _ _ _ _ _ hr=>?_;have:=Yl T;have:=Cj T;have:=YX T;conv=>arg 3;whnf
  trivial
theorem Wt:∀n:Nat,Ct T "parted_at" (27+n) (xy n)
 |0=>oO T.UE UO 3
 |n+1=>by
  have G:=Wt n;refine Y0 (N:=UO) (n:=3) (k:=27+n) (cc:=UZ<|xy n) T.UE λhN _ _ _ _ _ _ _ hr=>?_;have:=Yl T;have:=vU T 20;conv=>arg 3;whnf
  trivial
def Zi:Ct T "check_place" 3 yR:=by
 refine Y0 (N:=GI) (n:=3) (k:=2) (cc:=YL) T.G0 λhN _ _ _ _ _ _ _ hr=>?_;have:=Wf T;conv=>arg 3;whnf
 trivial
def QJ:Ct T "check_size" 1 wK:=by
 refine Y0 (N:=LV) (n:=1) (k:=0) (cc:=Xr) T.Ln λhN _ _ _ _ _ _ _ hr=>?_;conv=>arg 3;whnf
 trivial
def tY:Ct T "firm" 1 LL:=by
 refine Y0 (N:=tG) (n:=1) (k:=0) (cc:=Ie) T.rz λhN _ _ _ _ _ _ _ hr=>?_;conv=>arg 3;whnf
 trivial
def YD:Ct T "_law_cell_at" 1 xo:=by
 refine Y0 (N:=GB) (n:=2) (k:=0) (cc:=VR) T.GM λhN _ _ _ _ _ _ _ hr=>?_;conv=>arg 3;whnf
 trivial
def yz:Ct T "_law_mixed" 1 zo:=by
 refine Y0 (N:=MA) (n:=2) (k:=0) (cc:=U9) T.Mp λhN _ _ _ _ _ _ _ hr=>?_;conv=>arg 3;whnf
 exact(by
  refine yM ?_ ?_;exact(VJ (tc T.hkd hr (bn (av 0) aI) aI) (xi<|Zv<|bn (av 0)<|O0 AY aI<|bn aI<|av 1) ZR);refine sj 2 hN ?_ ?_;trivial;refine sj 2 hN ?_ ?_;trivial;exact xi<|Zv<|bn (bn (bn (av 2)<|av 2)<|bn aI<|av 1) aI)
def EA:Ct T "_law_names" 2 Yy:=by
 refine Y0 (N:=EC) (n:=2) (k:=1) (cc:=UF) T.M8 λhN _ _ _ _ _ _ _ hr=>?_;have:=yz T;conv=>arg 3;whnf
 trivial
def HM:Ct T "_law_two" 1 wJ:=by
 refine Y0 (N:=HW) (n:=4) (k:=0) (cc:=Ki) T.Hw λhN _ _ _ _ _ _ _ hr=>?_;conv=>arg 3;whnf
 trivial
def HC:Ct T "_law_one" 2 Y3:=by
 refine Y0 (N:=S0) (n:=5) (k:=1) (cc:=Kr) T.Hu λhN _ _ _ _ _ _ _ hr=>?_;have:=yz T;conv=>arg 3;whnf
 trivial
def Mb:Ct T "_law_order" 2 Yv:=by
 refine Y0 (N:=EH) (n:=2) (k:=1) (cc:=Rb) T.MP λhN _ _ _ _ _ _ _ hr=>?_;have:=yz T;conv=>arg 3;whnf
 trivial
def FC:Ct T "_law_rows" 3 Z2:=by
 refine Y0 (N:=FF) (n:=5) (k:=2) (cc:=Tu) T.EX λhN _ _ _ _ _ _ _ hr=>?_;have:=HC T;conv=>arg 3;whnf
 trivial
def GT:Ct T "_law_algebra" 4 Zj:=by
 refine Y0 (N:=GZ) (n:=1) (k:=3) (cc:=VQ) T.GH λhN _ _ _ _ _ _ _ hr=>?_;have:=yz T;have:=Mb T;have:=HM T;have:=EA T;have:=FC T;conv=>arg 3;whnf
 trivial
def V8:Ct T "_law_come" 1 vC:=by
 refine Y0 (N:=Ft) (n:=2) (k:=0) (cc:=Pk) T.F2 λhN _ _ _ _ _ _ _ hr=>?_;conv=>arg 3;whnf
 trivial
def EL:Ct T "_law_made" 1 VY:=by
 refine Y0 (N:=EZ) (n:=3) (k:=0) (cc:=PL) T.FN λhN _ _ _ _ _ _ _ hr=>?_;conv=>arg 3;whnf
 trivial
theorem PJ:∀n:Nat,Ct T "_law_gone" (1+n) (Zc n)
 |0=>oO T.TJ T8 2
 |n+1=>by
  have G:=PJ n;refine Y0 (N:=T8) (n:=2) (k:=1+n) (cc:=Td<|Zc n) T.TJ λhN _ _ _ _ _ _ _ hr=>?_;exact(by
  refine yM ?_ ?_;exact(VJ (AW.at_<|MR (Np<|Nr (Uw (T.hkd _ rfl rfl rfl) rfl rfl T.wH Bt.isinstance rfl T.LU Bt.tuple (av 1) (Bt.n _ rfl) (by decide) (Bt.n _ rfl) (by decide) rfl rfl rfl) λ_=>rfl)<|Vd<|AW.at_<|NU (tc T.hkd hr (bi (vG<|T.hkd _ rfl rfl rfl) T.QC Bt.len<|bc (av 1) zS) aI)<|Xo<|tc T.hkd hr (bi (vG<|T.hkd _ rfl rfl rfl) T.QC Bt.len<|bc (av 1) zS) aI) (xi<|Zv aZ) ZR);refine yM ?_ ?_;exact(VJ (tc T.hkd hr (bi (vG<|T.hkd _ rfl rfl rfl) T.QC Bt.len<|bc (av 1) zS) aI) (xi<|Zv<|Wr<|bd aI<|bd (Ws<|bd (ax T.hkd (av 1) aI) vE) vE) ZR);refine sj 2 hN ?_ ?_;exact(cn G hr<|bc (av 0)<|bc (ax T.hkd (av 1) aI) zS);refine sj 3 hN ?_ ?_;exact(cn G hr<|bc (av 0)<|bc (ax T.hkd (av 1) aI) zS);refine yM ?_ ?_;exact(VJ (AW.at_<|MR (tc T.hkd hr (av 2) aZ)<|MR (tc T.hkd hr (av 3) aZ)<|Vd<|tc T.hkd hr (bi HL T.oA Bt.abs<|bc (bn (ax T.hkd (av 2) aI)<|ax T.hkd (av 3) aI) zS) aI) (xi<|Zv aZ) ZR);refine sj 4 hN ?_ ?_;exact(bn (ax T.hkd (av 2) aI)<|ax T.hkd (av 3) aI);refine yM ?_ ?_;exact(VJ (tc T.hkd hr (ax T.hkd (av 1) aI)<|cn (V8 T) hr<|bc (av 0)<|bc (av 4) zS) (xi<|Zv aZ) ZR);exact xi<|Zv<|Wr<|bd (bn aI<|bi (Li rfl) T.uN Bt.max<|bc (ax T.hkd (av 2) aI)<|bc (ax T.hkd (av 3) aI) zS)<|bd (av 4) vE)
def UW:Ct T "_law_place" 2 Wn:=by
 refine Y0 (N:=Ei) (n:=3) (k:=1) (cc:=U8) T.MN λhN _ _ _ _ _ _ _ hr=>?_;have:=yz T;conv=>arg 3;whnf
 trivial
def RF:Cz T "Makes" "tree_at" 3 (XX K kd yE):=by
 refine N2 (N:=RL) (n:=2) (k:=2) (cc:=Xw) T.yQ T.Ry λhN _ _ _ _ _ _ _ hr=>?_;have:=Wf T;conv=>arg 3;whnf
 trivial
def ZT:Tm T "tree_at" 3 yH:=(N3 (RF T) xT)
def Vo:Cz T "Makes" "three_parts" 48 (XX K kd yj):=by
 refine N2 (N:=Vj) (n:=4) (k:=47) (cc:=ZG) T.yQ T.Vi λhN _ _ _ _ _ _ _ hr=>?_;have:=ZT T;have:=Zi T;have:=W4 T;have:=Wt T 20;conv=>arg 3;whnf
 trivial
def Nh:Cz T "Makes" "keep" 1 (spS K kd zU):=by
 refine WL (N:=QV) (n:=2) T.yQ T.LK λF S=>Wb (N:=QV) (k:=0) (c:=ZP) F S (by decide) λcdv A outer s H E hr=>?_;have hN:=S.nd;conv=>arg 4;whnf
 trivial
def T6:Cz T "Ways" "is_deed" 1 (XX K kd Z5):=by
 refine N2 (N:=Gi) (n:=2) (k:=0) (cc:=Wx) T.wV T.Th λhN _ _ _ _ _ _ _ hr=>?_;conv=>arg 3;whnf
 trivial
def P2:Cz T "Ways" "wait_of" 1 (XX K kd Ye):=by
 refine N2 (N:=Gf) (n:=2) (k:=0) (cc:=Wi) T.wV T.Tg λhN _ _ _ _ _ _ _ hr=>?_;conv=>arg 3;whnf
 trivial
def Xb:Cz T "Makes" "three_together" 28 (XX K kd zH):=by
 refine N2 (N:=Xg) (n:=4) (k:=27) (cc:=vQ) T.yQ T.Xj λhN _ _ _ _ _ _ _ hr=>?_;have:=vU T 20;conv=>arg 3;whnf
 trivial
def wI:Tm T "three_together" 28 xh:=(N3 (Xb T) xT)
def Hm:Tm T "wait_of" 1 V4:=(N3 (P2 T) xT)
def SQ:Tm T "is_deed" 1 V9:=(N3 (T6 T) xT)
def wY:Tm T "three_parts" 48 wu:=(N3 (Vo T) xT)
def Vh:Ts T "keep" 1 "Makes" zU:=tV<|Nh T
def LP:Cz T "Makes" "done" 49 (spS K kd ZJ):=by
 refine WL (N:=Qe) (n:=5) T.yQ T.LW λF S=>Wb (N:=Qe) (k:=48) (c:=Q3) F S (by decide) λcdv A outer s H E hr=>?_;have hN:=S.nd;have:=wY T;have:=SQ T;have:=PQ T;have:=Hm T;have:=Vh T;have:=wI T;conv=>arg 4;whnf
 trivial
def PH:Cz T "Makes" "turned" 49 (spS K kd vY):=by
 refine WL (N:=WJ) (n:=4) T.yQ T.Gg λF S=>Wb (N:=WJ) (k:=48) (c:=WQ) F S (by decide) λcdv A outer s H E hr=>?_;have hN:=S.nd;have:=wY T;have:=Vh T;have:=wI T;have:=Qr T;conv=>arg 4;whnf
 trivial
def Rk:Cz T "Ways" "is_value" 3 (XX K kd Zy):=by
 refine N2 (N:=RB) (n:=2) (k:=2) (cc:=Xy) T.wV T.Rm λhN _ _ _ _ _ _ _ hr=>?_;have:=Wf T;conv=>arg 3;whnf
 trivial
def E7:Tm T "is_value" 3 U0:=(N3 (Rk T) xT)
def Vl:Cz T "Makes" "check_value" 4 (XX K kd yt):=by
 refine N2 (N:=Vp) (n:=2) (k:=3) (cc:=wW) T.yQ T.Vm λhN _ _ _ _ _ _ _ hr=>?_;have:=E7 T;conv=>arg 3;whnf
 trivial
def Vx:Tm T "check_value" 4 yW:=(N3 (Vl T) xT)
def RJ:Cz T "Makes" "changed" 49 (spS K kd vA):=by
 refine WL (N:=Xz) (n:=4) T.yQ T.Rh λF S=>Wb (N:=Xz) (k:=48) (c:=XG) F S (by decide) λcdv A outer s H E hr=>?_;have hN:=S.nd;have:=ZT T;have:=Zi T;have:=W4 T;have:=Vx T;have:=wY T;have:=Vh T;have:=wI T;have:=Ut T 20;conv=>arg 4;whnf
 trivial
def TQ:Cz T "Makes" "put_in" 48 (spS K kd v9):=by
 refine WL (N:=Wy) (n:=4) T.yQ T.Ph λF S=>Wb (N:=Wy) (k:=47) (c:=X2) F S (by decide) λcdv A outer s H E hr=>?_;have hN:=S.nd;have:=ZT T;have:=Zi T;have:=W4 T;have:=QJ T;have:=Wt T 20;have:=Vh T;have:=wI T;conv=>arg 4;whnf
 trivial
def N5:Cz T "Makes" "cut" 49 (spS K kd Yx):=by
 refine WL (N:=UT) (n:=4) T.yQ T.EI λF S=>Wb (N:=UT) (k:=48) (c:=UM) F S (by decide) λcdv A outer s H E hr=>?_;have hN:=S.nd;have:=wY T;have:=Vh T;have:=vU T 20;conv=>arg 4;whnf
 trivial
def FL:Ts T "changed" 49 "Makes" vA:=tV<|RJ T
def sW:Ts T "cut" 49 "Makes" Yx:=tV<|N5 T
def AV:Ts T "done" 49 "Makes" ZJ:=tV<|LP T
def HP:Ts T "put_in" 48 "Makes" v9:=tV<|TQ T
def HA:Ts T "turned" 49 "Makes" vY:=tV<|PH T
def GN:Cs T "_law_changed" 50 (spS K kd yq):=by
 refine Et (N:=VB) (n:=5) T.G6 λF S=>Wb (N:=VB) (k:=49) (c:=YF) F S (by decide) λcdv A outer s H E hr=>?_;have hN:=S.nd;exact(Qu (tu (by decide) (cn (UW T) hr<|bc (av 1)<|bc (av 3)<|bc (av 4) zS) (Ul rfl (xQ (an 5 hN) (xQ (an 6 hN) (xQ (an 7 hN) (xQ (an 8 hN) Va rfl) rfl) rfl) rfl) rfl rfl) rfl rfl rfl)<|Qu (by refine jm true 9 (by decide) hN ?_;exact(bn (cn (yz T) hr<|bc (av 4)<|bc aI zS) aI))<|Py (tc T.hkd hr (av 9) aI) (W0<|Wr<|bd (Vu<|ZK (HA T) (hr.mono<|by omega) vO (pv 0) (bc (av 2)<|bc (av 5)<|bc (av 6) zS) rfl rfl rfl)<|bd (Vu<|bn (bn (yV (av 3) vT<|yD<|av 5)<|Oa (yV (av 3) (yD<|av 5)<|yD<|av 6)<|OS se aI)<|yV (av 3) (yD<|av 6) vT) vE)<|Py (AW.at_<|NU (tc T.hkd hr (av 9) aI)<|Xo<|tc T.hkd hr (av 5)<|bi (vG<|T.hkd _ rfl rfl rfl) T.QC Bt.len<|bc (av 3) zS) (W0<|Wr<|bd (Vu<|ZK (FL T) (hr.mono<|by omega) vO (pv 0) (bc (av 2)<|bc (av 5)<|bc (av 8) zS) rfl rfl rfl)<|bd (Vu<|bn (bn (yV (av 3) vT<|yD<|av 5)<|Ws<|bd (av 8) vE)<|yV (av 3) (yD<|bn (av 5) aI) vT) vE)<|Py (AW.at_<|NU (tc T.hkd hr (av 9) aI)<|Xo<|tc T.hkd hr (bn aI<|bi (vG<|T.hkd _ rfl rfl rfl) T.QC Bt.len<|bc (av 3) zS) aI) (W0<|Wr<|bd (Vu<|ZK (HP T) (hr.mono<|by omega) vO (pv 0) (bc (av 2)<|bc (av 5)<|bc (av 2) zS) rfl rfl rfl)<|bd (Vu<|bn (bn (yV (av 3) vT<|yD<|av 5)<|av 3)<|yV (av 3) (yD<|av 5) vT) vE)<|Py (tc T.hkd hr (av 9) aI) (W0<|Wr<|bd (ax T.hkd (ZK (sW T) (hr.mono<|by omega) vO (pv 0) (bc (av 2)<|bc (av 5)<|bc (av 6) zS) rfl rfl rfl) aI)<|bd (Vu<|bn (yV (av 3) vT<|yD<|av 5)<|yV (av 3) (yD<|av 6) vT) vE)<|Qu (by refine jm true 10 (by decide) hN ?_;exact(ax T.hkd (ax T.hkd (ax T.hkd (av 1) aI)<|av 7) aI))<|W0<|Wr<|bd (Vu<|ZK (AV T) (hr.mono<|by omega) vO (pv 0) (bc (av 2)<|bc (av 5)<|bc (av 6)<|bc (av 10) zS) rfl rfl rfl)<|bd (Vu<|bn (bn (yV (av 3) vT<|yD<|av 5)<|cn (EL T) hr<|bc (av 1)<|bc (av 7)<|bc (yV (av 3) (yD<|av 5)<|yD<|av 6) zS)<|yV (av 3) (yD<|av 6) vT) vE)
def MM:Ct T "_law_first" 2 WH:=by
 refine Y0 (N:=MX) (n:=4) (k:=1) (cc:=UI) T.Es λhN _ _ _ _ _ _ _ hr=>?_;have:=V8 T;conv=>arg 3;whnf
 trivial
def NV:Cz T "Makes" "walk" 26 (XX K kd ZO):=by
 refine N2 (N:=LA) (n:=2) (k:=25) (cc:=Qn) T.yQ T.LF λhN _ _ _ _ _ _ _ hr=>?_;have:=Ka T 20;have:=ZT T;conv=>arg 3;whnf
 trivial
def Tw:Cz T "Makes" "listed" 24 (XX K kd wA):=by
 refine N2 (N:=Gm) (n:=2) (k:=23) (cc:=WV) T.yQ T.Pt λhN _ _ _ _ _ _ _ hr=>?_;have:=Ju T;have:=ZT T;conv=>arg 3;whnf
 trivial
def L8:Cz T "Makes" "many" 4 (XX K kd Xs):=by
 refine N2 (N:=Ll) (n:=2) (k:=3) (cc:=Qf) T.yQ T.Ls λhN _ _ _ _ _ _ _ hr=>?_;have:=W4 T;have:=ZT T;conv=>arg 3;whnf
 trivial
def GW:Cz T "Makes" "asked" 49 (XX K kd YR):=by
 refine N2 (N:=GY) (n:=4) (k:=48) (cc:=VH) T.yQ T.Gy λhN _ _ _ _ _ _ _ hr=>?_;have:=F4 T;have:=wY T;conv=>arg 3;whnf
 trivial
def P6:Cz T "Ways" "is_sign" 1 (XX K kd Z1):=by
 refine N2 (N:=Gj) (n:=2) (k:=0) (cc:=Wz) T.wV T.Gb λhN _ _ _ _ _ _ _ hr=>?_;conv=>arg 3;whnf
 trivial
def Rn:Cz T "Ways" "has_sign" 1 (XX K kd Zw):=by
 refine N2 (N:=RK) (n:=3) (k:=0) (cc:=XJ) T.wV T.RM λhN _ _ _ _ _ _ _ hr=>?_;conv=>arg 3;whnf
 trivial
def Qo:Tm T "listed" 24 vJ:=(N3 (Tw T) xT)
def Hh:Tm T "is_sign" 1 VV:=(N3 (P6 T) xT)
def FW:Tm T "has_sign" 1 UR:=(N3 (Rn T) xT)
def Gs:Cz T "Makes" "first" 25 (XX K kd YH):=by
 refine N2 (N:=Gv) (n:=4) (k:=24) (cc:=Vs) T.yQ T.GQ λhN _ _ _ _ _ _ _ hr=>?_;have:=Qo T;have:=Zi T;have:=Hh T;have:=Le T;have:=IU T;have:=FW T;conv=>arg 3;whnf
 trivial
def qM:Tm T "many" 4 B3:=(N3 (L8 T) xT)
def Aa:Tm T "asked" 49 EE:=(N3 (GW T) xT)
def JT:Tm T "first" 25 Mn:=(N3 (Gs T) xT)
def rd:Tm T "walk" 26 RS:=(N3 (NV T) xT)
def Tx:Ct T "_law_same" 50 Z9:=by
 refine Y0 (N:=F3) (n:=5) (k:=49) (cc:=Pp) T.FX λhN _ _ _ _ _ _ _ hr=>?_;have:=UW T;have:=yz T;have:=V8 T;have:=MM T;have:=Qo T;have:=qM T;have:=Aa T;have:=JT T;have:=rd T;have:=PJ T 20;conv=>arg 3;whnf
 trivial
def UC(c:Str):Cz T "Makes" "__init__" 1 (uV K kd c<|xu c):=by
 refine WL (N:=YY) (n:=2) T.yQ T.UB λF S=>FB (N:=YY) (k:=0) (b:=Zh) F S (by decide) λcdv A outer s H E hr=>?_;have hN:=S.nd;conv=>arg 3;whnf
 trivial
def Nt:Cz T "Makes" "made" 24 (spS K kd yx):=by
 refine WL (N:=Qy) (n:=2) T.yQ T.LO λF S=>Wb (N:=Qy) (k:=23) (c:=ZL) F S (by decide) λcdv A outer s H E hr=>?_;have hN:=S.nd;have:=Vx T;have:=QJ T;have:=Vh T;have:=Ut T 20;conv=>arg 4;whnf
 trivial
def Rx(c:Str):Cz T "Ways" "__init__" 5 (uV K kd c<|w_ c):=by
 refine WL (N:=Xx) (n:=2) T.wV T.RC λF S=>FB (N:=Xx) (k:=4) (b:=ZA) F S (by decide) λcdv A outer s H E hr=>?_;have hN:=S.nd;have:=Gr T;have:=tY T;conv=>arg 3;whnf
 trivial
def NG:Ts T "made" 24 "Makes" yx:=tV<|Nt T
def pM{f d}(F:Fun K "law" "law" Mv f d):FnOk P w K mg base Ys 51 f d (El.take 1) (XX K kd Kg):=by
 have S:FnScope El (El.take 1) (zR Mv):=pf;have hN:=S.nd;obtain⟨_,_,_,F_law_changed,m_law_changed_,k_law_changed_,b_law_changed_⟩:=GN T;refine O3 (N:=El) (k:=50) (c:=D3) F S λcdv A outer s H E hr=>?_;exact(by
  refine sj 1 hN ?_ ?_;exact(cn (GT T) hr<|bc (cn (YD T) hr<|bc (av 0)<|bc aI zS) zS);refine sj 2 hN ?_ ?_;exact(j_ (UC T "Makes") hr<|bc (j_ (Rx T "Ways") hr<|bc (av 1) zS) zS);refine sj 3 hN ?_ ?_;exact uL;refine sj 4 hN ?_ ?_;exact(ZK (NG T) (hr.mono<|by omega) vO (pv 2) (bc (Ws vE) zS) rfl rfl rfl);refine yM ?_ ?_;exact(Fj (IJ hr) (pv 3) (av 4) (Ws vE) rfl);refine yM ?_ ?_;exact(NA PassesOwn.never rfl (Lz<|yV (av 0) (yD aI)<|yD aI) (an 5 hN) (by
  refine sj 6 hN ?_ ?_;exact(ax T.hkd (D5 (V7 rfl<|T.hkd _ rfl rfl rfl) T.V2 Bt.list<|bc (av 3) zS)<|bn (OS se aI)<|bn (cn (yz T) hr<|bc (av 5)<|bc aI zS)<|bi (K2 rfl) T.uq Bt.min<|bc aI<|bc (bi (vG<|T.hkd _ rfl rfl rfl) T.QC Bt.len<|bc (av 3) zS) zS);refine yM ?_ ?_;exact(VJ (tc T.hkd hr (bn (cn (yz T) hr<|bc (av 5)<|bc aI zS) aI) aI) (by
  refine yM ?_ ?_;exact(BN (z:=true) (i:=7) (N:=["_law_k","_law_cell","_law_algebra_here"]) (cap:=[none,some 5,some 1]) (S:=[0]) hN rfl (by exact Or.inl rfl) (by exact Or.inr rfl) rfl rfl (KQ rfl T.Qq (bc (bn (cn (yz T) hr<|bc (av 5)<|bc aI zS) aI) zS) rfl) rfl (by change Qp _ El _ (zR Mv).names _=true;decide +kernel) (by decide) (λcl s H fp=>(an 0 IE)) (λcl s H fp=>BL) (λcl s H fp=>(bn (cn (yz T) hr<|bc (av 1)<|bc (bn aI<|av 0) zS)<|ax T.hkd (av 2) aI)) λ_=>rfl);exact xi<|by refine sv true 4 hN ?_;exact(ZK (NG T) (hr.mono<|by omega) vO (pv 2) (bc (D5 Kk T.V2 Bt.list<|bc (av 7) zS) zS) rfl rfl rfl))<|xi<|L_ (TL 2 F_law_changed hr m_law_changed_ k_law_changed_ b_law_changed_<|bc (av 2)<|bc (av 1)<|bc (av 6)<|bc (ax T.hkd (av 3)<|av 6)<|bc (av 5) zS) (Ul rfl (xQ (an 4 hN) (xQ (an 7 hN) Va rfl) rfl) rfl rfl) rfl rfl rfl)
  exact xi<|Fj (IJ hr) (pv 3) (av 4) (av 7) rfl) λ_=>rfl)
  refine sj 8 hN ?_ ?_;exact(ax T.hkd (D5 (V7 rfl<|T.hkd _ rfl rfl rfl) T.V2 Bt.list<|bc (av 3) zS)<|bn (cn (YD T) hr<|bc (av 0)<|bc aI zS)<|bi (vG<|T.hkd _ rfl rfl rfl) T.QC Bt.len<|bc (av 3) zS);refine sj 7 hN ?_ ?_;exact(ax T.hkd (av 3)<|av 8);refine sj 9 hN ?_ ?_;exact(ZK (NG T) (hr.mono<|by omega) vO (pv 2) (bc (NO (Qo T) (hr.mono<|by omega) vO (pv 2) (bc (av 8) zS) rfl rfl rfl) zS) rfl rfl rfl);refine yM ?_ ?_;exact(VJ (Np<|Nr (TU<|cn (Tx T) hr<|bc (av 2)<|bc (av 1)<|bc (Ws<|bd (av 8)<|bd (av 9) vE)<|bc (av 7)<|bc (cn (YD T) hr<|bc (av 0)<|bc aI zS) zS) λ_=>rfl) (xi<|Zv aB) ZR);refine yM ?_ ?_;exact(NA PassesOwn.never rfl (Lz<|bn (yV (av 0) (yD aI)<|yD aI)<|Ws<|bd aI<|bd aI vE) (an 5 hN) (by
  refine yM ?_ ?_;exact(L_ (TL 2 F_law_changed hr m_law_changed_ k_law_changed_ b_law_changed_<|bc (av 2)<|bc (av 1)<|bc (av 8)<|bc (av 7)<|bc (av 5) zS) (Ul rfl (xQ (an 8 hN) (xQ (an 10 hN) Va rfl) rfl) rfl rfl) rfl rfl rfl);refine yM ?_ ?_;exact(L_ (TL 2 F_law_changed hr m_law_changed_ k_law_changed_ b_law_changed_<|bc (av 2)<|bc (av 1)<|bc (av 9)<|bc (av 7)<|bc (av 5) zS) (Ul rfl (xQ (an 9 hN) (xQ (an 7 hN) Va rfl) rfl) rfl rfl) rfl rfl rfl);exact xi<|VJ (AW.at_<|MR (Np<|Nr (TU<|cn (Tx T) hr<|bc (av 2)<|bc (av 1)<|bc (Ws<|bd (av 8)<|bd (av 9) vE)<|bc (av 7)<|bc (av 5) zS) λ_=>rfl)<|Vd<|tc T.hkd hr (av 10)<|av 7) (xi<|Zv aB) ZR) λ_=>rfl)
  refine yM ?_ ?_;exact(NA PassesOwn.never rfl (Lz<|D5 (V7 rfl<|T.hkd _ rfl rfl rfl) T.V2 Bt.list<|bc (av 3) zS) (an 11 hN) (xi<|VJ (tc T.hkd hr (NO (Qo T) (hr.mono<|by omega) vO (pv 2) (bc (av 11) zS) rfl rfl rfl)<|ax T.hkd (av 3)<|av 11) (xi<|Zv aB) ZR) λ_=>rfl);exact xi<|Zv aB)
end
def tM{l:PySem.W.OpenLaw}{w:World}{K:zzA}{mg:Str->Option Value}{fa:Addr}{kd:KD}(h:Heap)(hfa:mg "law"=some (.ref fa))(T:∀base,Txt l.prog w K mg base kd):
 ∃fd:FuncData,(∀(s:Shared) (v:Value),BindsTo s fd ⟨[v],[]⟩ [("_law_script",v)])/\∀base:Heap,K.In base->base.Ns mainGlobals mg->FnOk l.prog w K mg base Ys 51 fa fd ["_law_script"] (jc K Kg):=by
 obtain⟨f,d,F,e⟩:=(T h).oC;cases hfa.symm.trans e;obtain⟨_,_,_,_,_,_,_,_,_,rfl,_,_⟩:=F.ex;exact⟨_,λs v=>.of_eq rfl,λbase _ _=>(pM (T base) F).imp λvs H Q E h=>h _⟩
def walk{l:PySem.W.OpenLaw}{q:Program}{loose:List Str}{XP:(Str->Option Value)->Heap->Prop}{YP:World->Heap->Prop}{d:DefRec}{K:Params->zzA}(hn:l.most=some 63)(hdf:d.params.defaults=[])
 (hY:∀(w:World) (h:Heap),YP w h->(K w.params).In h) (hm:∀ns:List Int,ns.length<=63->Kg [(true,.lst<|ns.map D.int)]=some (.lf true<|.bl true))
 (F:∀(w:World) (mg:Str->Option Value) (fa:Addr) (h:Heap),(K w.params).In h->h.Ns mainGlobals mg->mg d.name=some (.ref fa)->
  ∃fd:FuncData,(∀(s:Shared) (u:Value),BindsTo s fd ⟨[u],[]⟩ [("_law_script",u)])/\∀base:Heap,(K w.params).In base->base.Ns mainGlobals mg->FnOk l.prog w (K w.params) mg base Ys 51 fa fd ["_law_script"] (jc (K w.params) Kg)):
 PySem.W.WalkO q loose XP YP l.row.toRowW d [] (λf vs=>PySem.call f vs):=
 L2.walk_of (n:=63) (k:=51) (x:="_law_script") (CX:=λ_=>Ys) (sp:=λw=>jc (K w.params) Kg) hn (by decide) hdf ⟨rfl,by decide,by decide,rfl⟩ hY F (λ_ _ a ns hl _ hS kd=>u3 (hm ns hl) hS) λ_ _ _ _ _ z=>z
local macro_rules | `(tactic| trivial)=>do `(tactic| first|with_reducible first|assumption|$(<-zqb "Int.natCast_nonneg _;Nat.le_refl _;Int.le_refl _;rfl;M3 a;Ew a;np2 a;nq1 a;nq2 a;Int.natCast_pos.mpr a;Nat.le_trans a d;bgL _;bgU a;mU a;zI _;bL0 a;bU0 a a;iL a;iU a a;iC a;iT a;stL a;stU a;lnK a a a;zi1 _;lnE a;ltL a;Int.toNat_of_nonneg a;tS a a;b6 a;Int.emod_nonneg _ d;Int.emod_lt_of_pos _ d"):tactic|decide|omega)
local macro_rules |`(⋯)=>do `(by first|with_reducible rfl|assumption|$(<-zqb "zb;zj;ye;zi"):tactic|(with_reducible refine za ?_;first|rfl|assumption)|$(<-zqc "WD.e ?;zc ? ?;zL ? ?;zT ? ?;vS ? ?;yc ? ? ?;WZ ? ? ? ?;YJ ? ? ? ?;zu ? ? = =;zx ?;xt ?;zN ? ="):tactic|exact yF (by decide)|omega|rfl|decide)
section
variable{n m:Nat}{J T:TZ}{e:Int}{Ds:DD}{S:SS}
def Bf(n8:n<=8)(hJ:Tab n n J)(he:zJ n e):HZ (Zx [(true,yZ n m J e Ds S)]) (kz n J e):=by
 refine HZ.imp (P:=kz n J e/\True) (FZ (n:=4) (m:=1) (c:=w9) rfl ?_) ⟨λz=>z.1,λz=>⟨z,trivial⟩⟩;have s1:zr true 1 (f2 zh y8 zD) [sT<|yZ n m J e Ds S,none,none,none]=some (.nx [sT<|yZ n m J e Ds S,sT<|xI J,none,none]):=zV (i:=1) (yP (za (i:=0) rfl) zb rfl)<|zi rfl;have s2:zr true 2 (f2 zh wG zD) [sT<|yZ n m J e Ds S,sT<|xI J,none,none]=some (.nx [sT<|yZ n m J e Ds S,sT<|xI J,sI e,none]):=zV (i:=2) (yP (za (i:=0) rfl) zb rfl)<|zi rfl;have k:=Nx (as:=[sT<|yZ n m J e Ds S,sT<|xI J,sI e,none]) (g:=zv<|fC .non) (Q:=True) (uY (S:=λx y z=>[sT<|yZ n m J e Ds S,sT<|xI J,sI e,x]) (x:=none) (y:=none) (z:=none) (vj:=1) (ve:=2) hJ he (λ_ _ _=>rfl) (λ_ _ _=>rfl) (λ_ _ _=>rfl) λ_ _ _ _=>rfl) λ_ _ _=>LI;have hf:∀f:SF,y9 (yK (aC (f2 zh zW zD) aN) xa) (gN 3) f [sT<|yZ n m J e Ds S,sT<|xI J,sI e,none]=forL (gN 3) f (yY 0 n) [sT<|yZ n m J e Ds S,sT<|xI J,sI e,none]:=λf=>xk (xB (j:=(n:Int)) (zc (zu (za (i:=0) rfl) zb rfl rfl) zj) (by trivial)<|by trivial) (by rw[zyH]);have fin:∀x,Rt (zl (λas=>forL (gN 3) pP (yY 0 n) as) (zv<|fC .non) [sT<|yZ n m J e Ds S,sT<|xI J,sI e,none]) x->Rt (w9<|vX 4 [(true,yZ n m J e Ds S)]) x:=λx h=>by
  refine zd s1<|zd s2 ?_;obtain⟨o,a,b⟩:=h;refine⟨o, ?_,b⟩;unfold zl at a ⊢;rw[hf];exact a
 rcases k with⟨k,p⟩|⟨⟨es,k⟩,p⟩
 . exact .inl ⟨fin _ k,p⟩
 . exact .inr ⟨⟨es,fin _ k⟩,p⟩
def E1(n8:n<=8)(hJ:Tab n n J):HZ (Zu [(true,yZ n m J e Ds S)]) (As n J):=by
 have s1:zr true 1 (f2 zh zW zD) [sT<|yZ n m J e Ds S,none,none,none,none,none]=some (.nx [sT<|yZ n m J e Ds S,sI n,none,none,none,none]):=zV (i:=1) (yP (za (i:=0) rfl) zb rfl)<|zi rfl;have s2:zr true 2 (f2 zh y8 zD) [sT<|yZ n m J e Ds S,sI n,none,none,none,none]=some (.nx [sT<|yZ n m J e Ds S,sI n,sT<|xI J,none,none,none]):=zV (i:=2) (yP (za (i:=0) rfl) zb rfl)<|zi rfl;have k:=Dh (S:=λx y z=>[sT<|yZ n m J e Ds S,sI n,sT<|xI J,x,y,z]) (x:=none) (y:=none) (z:=none) (vj:=2) (vn:=1) n8 hJ (λ_ _ _=>rfl) (λ_ _ _=>rfl) (λ_ _ _=>rfl) (λ_ _ _=>rfl) (λ_ _ _=>rfl) (λ_ _ _ _=>rfl) (λ_ _ _ _=>rfl) λ_ _ _ _=>rfl;rw[<-Yw (v:=1) (n:=n) (g:=gN 3) (f:=rn 2 1) (as:=[sT<|yZ n m J e Ds S,sI n,sT<|xI J,none,none,none]) rfl (by trivial)]at k;refine HZ.imp (P:=As n J/\True) (FZ (n:=6) (m:=1) (c:=ZC) rfl ?_) ⟨λz=>z.1,λz=>⟨z,trivial⟩⟩
 rcases Nx (g:=zv<|fC .non) (Q:=True) k λ_ _ _=>LI with⟨k,p⟩|⟨⟨es,k⟩,p⟩
 . exact .inl ⟨zd s1<|zd s2 k,p⟩
 . exact .inr ⟨⟨es,zd s1<|zd s2 k⟩,p⟩
def Iv{s:Str}(n8:n<=8)(m1:1<=m)(m6:m<=6)(hJ:Tab n n J)(hT:Tab m n T):HZ (Zl [(true,yZ n m J e Ds S),(true,.str s),(true,xI T)]) (Dn n m J T):=by
 have k:Rj (forL (gN 6) (y9 (yK (aC zX aN) xa) (gN 7)<|y9 (yK vL xa) (gN 8)<|y9 (yK (aC zX aN) xa) (gN 9) kG) (yY 0 n)<|Kc n m J T e Ds S s none none none none) (λas=>∃x y z w,as=Kc n m J T e Ds S s x y z w) (Dn n m J T):=by
  refine Wd (fr:=xj) (λas=>∃x y z w,as=Kc n m J T e Ds S s x y z w) _ (λa ha as hI=>?_) ⟨_,_,_,_,rfl⟩;obtain⟨x,y,z,w,rfl⟩:=hI;refine⟨Kc n m J T e Ds S s (sI a) y z w,rfl, ?_⟩;rw[Yw (v:=4) (n:=m) rfl<|by trivial];have k:=Wd (v:=7) (n:=m) (fr:=xj) (f:=y9 (yK vL xa) (gN 8)<|y9 (yK (aC zX aN) xa) (gN 9) kG) (as:=Kc n m J T e Ds S s (sI a) y z w) (λas=>∃y z w,as=Kc n m J T e Ds S s (sI a) y z w) (λi=>∀b,zJ n b->∀k,zJ m k->yT T ((i+k)%m) (yT J a b)=yT J (yT T i a) (yT T k b)) (λi hi as hI=>by
   obtain⟨y,z,w,rfl⟩:=hI;refine⟨Kc n m J T e Ds S s (sI a) (sI i) z w,rfl, ?_⟩;rw[Yw (v:=3) (n:=n) rfl<|by trivial];have k:=Wd (v:=8) (n:=n) (fr:=xj) (f:=y9 (yK (aC zX aN) xa) (gN 9) kG) (as:=Kc n m J T e Ds S s (sI a) (sI i) z w) (λas=>∃z w,as=Kc n m J T e Ds S s (sI a) (sI i) z w) (λb=>∀k,zJ m k->yT T ((i+k)%m) (yT J a b)=yT J (yT T i a) (yT T k b)) (λb hb as hI=>by
    obtain⟨z,w,rfl⟩:=hI;refine⟨Kc n m J T e Ds S s (sI a) (sI i) (sI b) w,rfl, ?_⟩;rw[Yw (v:=4) (n:=m) rfl<|by trivial]
    rcases gH (s:=s) (w:=w) (e:=e) (Ds:=Ds) (S:=S) hJ hT m1 ha hi hb with⟨as',k1,⟨w',rfl⟩,k3⟩|k
    . exact .inl ⟨_,k1,⟨_,_,rfl⟩,k3⟩
    . exact .inr k) ⟨_,_,rfl⟩
   rcases k with⟨as',k1,⟨z',w',rfl⟩,k3⟩|k
   . exact .inl ⟨_,k1,⟨_,_,_,rfl⟩,k3⟩
   . exact .inr k) ⟨_,_,_,rfl⟩
  rcases k with⟨as',k1,⟨y',z',w',rfl⟩,k3⟩|k
  . exact .inl ⟨_,k1,⟨_,_,_,_,rfl⟩,k3⟩
  . exact .inr k
 rw[<-Yw (v:=3) (n:=n) (as:=Kc n m J T e Ds S s none none none none) rfl (by trivial)]at k;have s3:zr true 3 (f2 zh zW zD) [sT<|yZ n m J e Ds S,sT<|.str s,sT<|xI T,none,none,none,none,none,none,none]=some (.nx [sT<|yZ n m J e Ds S,sT<|.str s,sT<|xI T,sI n,none,none,none,none,none,none]):=zV (i:=3) (yP (za (i:=0) rfl) zb rfl)<|zi rfl;have s4:zr true 4 (f2 zh zO zD) [sT<|yZ n m J e Ds S,sT<|.str s,sT<|xI T,sI n,none,none,none,none,none,none]=some (.nx [sT<|yZ n m J e Ds S,sT<|.str s,sT<|xI T,sI n,sI m,none,none,none,none,none]):=zV (i:=4) (yP (za (i:=0) rfl) zb rfl)<|zi rfl;have s5:zr true 5 (f2 zh y8 zD) [sT<|yZ n m J e Ds S,sT<|.str s,sT<|xI T,sI n,sI m,none,none,none,none,none]=some (.nx<|Kc n m J T e Ds S s none none none none):=zV (i:=5) (yP (za (i:=0) rfl) zb rfl)<|zi rfl;refine HZ.imp (P:=Dn n m J T/\True) (FZ (n:=10) (m:=3) (c:=YK) rfl ?_) ⟨λz=>z.1,λz=>⟨z,trivial⟩⟩
 rcases Nx (g:=zv<|fC .non) (Q:=True) k λ_ _ _=>LI with⟨k,p⟩|⟨⟨es,k⟩,p⟩
 . exact .inl ⟨zd s3<|zd s4<|zd s5 k,p⟩
 . exact .inr ⟨⟨es,zd s3<|zd s4<|zd s5 k⟩,p⟩
def FQ(A:Alg n m J e Ds)(L:LawA n m J e Ds):RE (Xf [(true,yZ n m J e Ds S)]) .non:=by
 have n8:=A.n8;have m1:=A.m1;have s1:zr true 1 (f2 zh wG zD) [sT<|yZ n m J e Ds S,none,none,none,none]=some (.nx [sT<|yZ n m J e Ds S,sI e,none,none,none]):=zV (i:=1) (yP (za (i:=0) rfl) zb rfl)<|zi rfl;obtain⟨as',hf,x,y,z,rfl⟩:=xr (g:=gT 2<|Wp (gN 2)<|Wp (gN 3) Ej) (f:=(zl mQ
  (zl (zr true 4<|ze (aC zh<|aC zG vL) Zl)
  (xg (fT<|f2 zX (fC .non)<|zw .IsNot) (zv zX) xj))))
  (λi as=>∃(x y z:Option O),as=[sT<|yZ n m J e Ds S,sI e,x,y,z])
  ((Ds.map XI).map λd=>(true,d)) 0 [sT<|yZ n m J e Ds S,sI e,none,none,none] (λi x as hx' hI=>by
    obtain⟨x,y,z,rfl⟩:=hI;rw[zyA,zzI]at hx';obtain⟨p,hp,rfl⟩:=zzW.mp hx';have mp:=zzZ hp;have hT:=A.ds p mp;obtain⟨q1,_⟩:=Ny (as:=[sT<|yZ n m J e Ds S,sI e,sT<|.str p.1,sT<|xI p.2,z]) hT (w:=0) (v:=e) ⟨by trivial,by trivial⟩ ⟨A.e0,A.en⟩ (za (i:=3) rfl) (zb (x:=.int 0))<|za (i:=1) rfl;have t1:=Im q1<|za (i:=1) (x:=.int e) (s:=true) rfl;rw[(L.ld p mp).em,show(!(e==e))=false by simp]at t1;have d:=(Iv (s:=p.1) (e:=e) (Ds:=Ds) (S:=S) n8 m1 A.m6 A.j hT).none<|L.dn mp;exact⟨[sT<|yZ n m J e Ds S,sI e,sT<|.str p.1,sT<|xI p.2,z],rfl,_,zt (zm t1 rfl)<|zt (xp (p:=4) (z9 (WD.e<|za (i:=0) rfl) (WD.e<|za (i:=2) rfl) (WD.e<|za (i:=3) rfl) d)<|zi rfl)<|zm (zN (zu (za (i:=4) rfl) zb rfl rfl) rfl) rfl,_,_,_,rfl⟩)
  ⟨_,_,_,rfl⟩
 exact zM rfl<|zd s1<|zd (xk (uC<|yP (za (i:=0) rfl) zb rfl) hf)<|zx<|WD.e zb
def S9(A:Alg n m J e Ds)(L:LawA n m J e Ds):RE (Y7 [(true,yZ n m J e Ds S)]) .non:=by
 have r1:=(Bf (m:=m) (Ds:=Ds) (S:=S) A.n8 A.j ⟨A.e0,A.en⟩).none L.un;have r2:=(E1 (m:=m) (e:=e) (Ds:=Ds) (S:=S) A.n8 A.j).none L.as;have r3:=FQ (S:=S) A L;have tt:WT (fT<|f2 zk (fC .non)<|zw .Is) [sT<|yZ n m J e Ds S,sT .non] true:=zN (zu (za (i:=1) rfl) zb rfl rfl) rfl;exact zM rfl<|zd (xp (p:=1) (wX (WD.e<|za (i:=0) rfl) r1)<|zi rfl)<|zd (wR tt<|xp (p:=1) (wX (WD.e<|za (i:=0) rfl) r2)<|zi rfl)<|zd (wR tt<|xp (p:=1) (wX (WD.e<|za (i:=0) rfl) r3)<|zi rfl)<|zx<|WD.e<|za (i:=1) rfl
end
open L2 (Vf)
abbrev D6(p:Str×TZ):L2.Key×D:=(Sum.inr p.1,wo p.2)
abbrev uS(p:Str×List Int):L2.Key×D:=(Sum.inr p.1,Zb p.2)
abbrev G7:List Str:=["size","around","table","neutral","waits","holders"]
abbrev Vn(n m:Nat)(J:TZ)(e:Int)(Ds:DD)(S:SS):D:=.ob "Ways" G7 [.int n,.int m,wo J,.int e,.dct<|Ds.map D6,.dct<|S.map uS]
def BP{α:Type}{f:EF}{as:AS}{g:α->D}{l:List α}(h:WE f as (.lst<|l.map g)):Gp f as=some (l.map λa=>(true,g a),as):=by
 have:=ou h;rw[zyA]at this;exact this
def B8{T:TZ}(hl:T.length<=1000):RE (LL [(true,xI T)]) (wo T):=
 zM rfl (zx<|Qw (Yg (h:=Zb) (it:=λr=>(true,zg r)) T (BP<|WD.e<|za (i:=0) rfl) (q1y hl) λr _=>⟨[sT<|zg r],rfl,Qw (WD.e<|za (i:=0) rfl) rfl⟩) rfl)
section
variable{n m:Nat}{J:TZ}{e:Int}{Ds:DD}{S:SS}
def OG(A:Alg n m J e Ds)(L:LawA n m J e Ds):RE (vZ [(true,yZ n m J e Ds S)]) .non:=by
 have h:Yq (vX 2 [(true,yZ n m J e Ds S)])=some (.nx [sT<|yZ n m J e Ds S,sT .non]):=zt (xp (p:=1) (wX (WD.e<|za (i:=0) rfl)<|S9 A L)<|zi rfl)<|zm (zN (zu (za (i:=1) rfl) zb rfl rfl) rfl) rfl;refine⟨.lf true .non, ?_,rfl,rfl⟩;unfold vZ xZ;rw[if_pos (by rfl),h];rfl
def Da(A:Alg n m J e Ds)(L:LawA n m J e Ds)(sl:S.length<=3)(sn:(S.map (·.1)).Nodup):RE (w_ "Ways" [(true,yZ n m J e Ds S)]) (Vn n m J e Ds S):=by
 have dl:=A.dl;have n8:=A.n8;have m6:=A.m6;have w1:∀o,WD zk [o,sT<|yZ n m J e Ds S] true (yZ n m J e Ds S):=λo=>za (i:=1) rfl;have h4:∀o,WE o9 [o,sT<|yZ n m J e Ds S] (.dct<|Ds.map D6):=λo=>
  nN (kf:=λp:Str×TZ=>p.1) (vf:=λp=>wo p.2) A.nd (Yg (h:=λp:Str×TZ=>.tup [.str p.1,wo p.2]) (it:=λp=>(true,XI p)) Ds (BP (g:=XI)<|VO (WD.e<|w1 o) (WD.e zb) rfl) (by omega) λp mp=>⟨[sT<|.str p.1,sT<|xI p.2],rfl,xD (WD.e<|za (i:=0) rfl)<|wX (WD.e<|za (i:=1) rfl)<|B8<|by rw[(A.ds p mp).1];omega⟩)
 have h5:∀o,WE n9 [o,sT<|yZ n m J e Ds S] (.dct<|S.map uS):=λo=>
  nN (kf:=λp:Str×List Int=>p.1) (vf:=λp=>Zb p.2) sn (Yg (h:=λp:Str×List Int=>.tup [.str p.1,Zb p.2]) (it:=λp=>(true,WN p)) S (BP (g:=WN)<|VO (WD.e<|w1 o) (WD.e zb) rfl) (by omega) λp mp=>⟨[sT<|.str p.1,sT<|zg p.2],rfl,xD (WD.e<|za (i:=0) rfl)<|Qw (WD.e<|za (i:=1) rfl) rfl⟩)
 have h:ZA (ZD 2 (n4 "Ways"::[(true,yZ n m J e Ds S)].map O7))=some [some<|.nd (.ob "Ways" G7) [.lf true<|.int n,.lf true<|.int m,.lf true<|wo J,.lf true<|.int e,.lf true<|.dct<|Ds.map D6,.lf true<|.dct<|S.map uS],sT<|yZ n m J e Ds S]:=
  yC (Jp<|wX (WD.e<|w1 _)<|OG A L) (yC (yU (c:="Ways") (i:=0) (ns:=[]) (os:=[]) (VO (WD.e<|w1 _) (WD.e zb) rfl) rfl (by decide +kernel) (by decide +kernel)<|by decide)<|yC (yU (c:="Ways") (i:=0) (VO (WD.e<|w1 _) (WD.e zb) rfl) rfl (by decide +kernel) (by decide +kernel)<|by decide)<|yC (yU (c:="Ways") (i:=0) (wX (VO (WD.e<|w1 _) (WD.e zb) rfl)<|B8<|by rw[A.j.1];omega) rfl (by decide +kernel) (by decide +kernel)<|by decide)<|yC (yU (c:="Ways") (i:=0) (VO (WD.e<|w1 _) (WD.e zb) rfl) rfl (by decide +kernel) (by decide +kernel)<|by decide)<|yC (yU (c:="Ways") (i:=0) (h4 _) rfl (by decide +kernel) (by decide +kernel)<|by decide)<|yU (c:="Ways") (i:=0) (h5 _) rfl (by decide +kernel) (by decide +kernel)<|by decide)
 refine⟨.nd (.ob "Ways" G7) [.lf true<|.int n,.lf true<|.int m,.lf true<|wo J,.lf true<|.int e,.lf true<|.dct<|Ds.map D6,.lf true<|.dct<|S.map uS], ?_,rfl,rfl⟩;unfold w_ rV;rw[if_pos (by rfl),h];rfl
def KB:RE (Z0 [(true,Vn n m J e Ds S)]) (.int e):=zM rfl<|zx<|WD.e<|EV (c:="Ways") (ns:=G7) rfl (by decide +kernel) rfl
def FI{a b:Int}(hJ:Tab n n J)(ha:zJ n a)(hb:zJ n b):RE (WR [(true,Vn n m J e Ds S),(true,.int a),(true,.int b)]) (.int<|yT J a b):=
 zM rfl (zx<|WD.e<|Ck hJ ha hb (EV (c:="Ways") (ns:=G7) rfl (by decide +kernel) rfl) (za (i:=1) rfl)<|za (i:=2) rfl)
end
structure Cx where
 n:Nat
 m:Nat
 J:TZ
 e:Int
 Ds:DD
 S:SS
abbrev Cx.w(c:Cx):D:=Vn c.n c.m c.J c.e c.Ds c.S
abbrev Cx.g(c:Cx):D:=yZ c.n c.m c.J c.e c.Ds c.S
abbrev Cx.h(c:Cx):List Int->Int:=SE c.J c.e
abbrev Cx.In(c:Cx)(r:List Int):Prop:=∀x ∈ r,zJ c.n x
structure Cx.Ok(c:Cx):Prop where
 A:Alg c.n c.m c.J c.e c.Ds
 L:LawA c.n c.m c.J c.e c.Ds
structure Cx.W(c:Cx)(T:TZ):Prop where
 t:Tab c.m c.n T
 l:LD c.n c.m (yT c.J) c.e (yT T)
def XQ:Option TZ->D
 |none=>.non
 |some T=>wo T
def Cx.wok(c:Cx):Option TZ->Prop
 |none=>True
 |some T=>c.W T
def Cx.ap(c:Cx):Option TZ->List Int->List Int
 |none,r=>r
 |some T,r=>r.map<|yT T<|1%(c.m:Int)
def tn:Bool->List Int->List Int
 |false,r=>r
 |true,r=>r.reverse
abbrev rN:List Str:=["whole","back","wait","turn","one","other","deep","size"]
abbrev kn(w b:Int)(q:D)(t:Bool)(x y:D)(p s:Int):D:=.ob "Knot" rN [.int w,.int b,q,.bl t,x,y,.int p,.int s]
inductive TK(c:Cx):D->List Int->Nat->Prop
 |lf (v:Int) (t:Bool):zJ c.n v->TK c (kn v v .non t .non .non 0 1) [v] 0
 |nd (w:Option TZ) (t:Bool) {x y:D}{r s:List Int}{p q:Nat}{R:List Int}:TK c x r p->TK c y s q->p<=q+1->q<=p+1->c.wok w->R=tn t (c.ap w (r++s))->TK c (kn (c.h R) (c.h R.reverse) (XQ w) t x y ((1+max p q:Nat):Int) (R.length:Int)) R (1+max p q)
section
variable{c:Cx}{d:D}{R:List Int}{p:Nat}
def Y5(w:Option TZ)(r:List Int):(c.ap w r).length=r.length:=by cases w with
 |none=>rfl
 |some T=>exact zzB ..
def Nl(t:Bool)(r:List Int):(tn t r).length=r.length:=by cases t with
 |false=>rfl
 |true=>exact List.length_reverse ..
def F6(w:Option TZ)(r s:List Int):c.ap w (r++s)=c.ap w r++c.ap w s:=by cases w with
 |none=>rfl
 |some T=>exact zyL ..
def uy(w:Option TZ)(t:Bool)(r:List Int):c.ap w (tn t r)=tn t (c.ap w r):=by cases w with
 |none=>rfl
 |some T=>cases t with
  |false=>rfl
  |true=>exact List.map_reverse ..
def mf(t u:Bool)(r:List Int):tn t (tn u r)=tn (u != t) r:=by cases t<;>cases u<;>first|rfl|exact List.reverse_reverse r
theorem Cx.Ok.m1(h:c.Ok):zJ c.m (1%(c.m:Int)):=Uo h.A.m1
def pq(h:c.Ok){w:Option TZ}(hw:c.wok w){r:List Int}(k:c.In r):c.In (c.ap w r):=by cases w with
 |none=>exact k
 |some T=>
  intro x mx;obtain⟨z,mz,rfl⟩:=zxC.mp mx;exact hw.l.cl _ _ h.m1<|k z mz
def ud{t:Bool}{r:List Int}(k:c.In r):c.In (tn t r):=by cases t with
 |false=>exact k
 |true=>exact λx mx=>k x<|List.mem_reverse.mp mx
def NI{r s:List Int}(k:c.In r)(l:c.In s):c.In (r++s):=λx mx=>(zzM.mp mx).elim (k x)<|l x
def TK.in(h:c.Ok):TK c d R p->c.In R:=λk=>by
 induction k with
 |lf v t hv=>exact λx mx=>by rcases zzC.mp mx with rfl|mx;exact hv;exact nomatch mx
 |nd w t a b _ _ hw e i j=>subst e;exact ud<|pq h hw<|NI i j
def TK.rev(h:c.Ok)(k:TK c d R p):c.In R.reverse:=ud (t:=true)<|k.in h
def fb:Nat->Nat
 |0=>1
 |1=>2
 |k+2=>fb (k+1)+fb k
def nj:∀k,fb k<=fb (k+1)
 |0=>by decide
 |k+1=>by show _<=fb (k+1)+fb k;omega
def uO{a b:Nat}(h:a<=b):fb a<=fb b:=by
 induction h with
 |refl=>exact zzN _
 |step _ i=>exact zzO i (nj _)
theorem TK.fb(k:TK c d R p):fb p<=R.length:=by
 induction k with
 |lf=>exact zzN _
 | @nd w t x y r s p q R a b h1 h2 hw e i j=>
  subst e;rw[Nl,Y5,zzJ]
  by_cases h:q<=p
  . rw[Nat.max_eq_left h,Nat.add_comm 1 p];cases p with
    |zero=>rw[show q=0 by omega]at j;exact Nat.add_le_add i j
    |succ p=>
     have:G94.fb p<=G94.fb q:=uO (by omega);show G94.fb (p+1)+G94.fb p<=_;omega
  . rw[Nat.max_eq_right (by omega),Nat.add_comm 1 q,show q=p+1 from q1m h2 h1 h];rw[show q=p+1 from q1m h2 h1 h]at j;show G94.fb (p+1)+G94.fb p<=_;omega
def TK.lt(k:TK c d R p)(hl:R.length<=1000):p<20:=by
 refine Nat.lt_of_not_le λh=>?_;have h1:=k.fb;have h2:=uO h;have:G94.fb 20=17711:=by decide
 omega
def TK.gt(k:TK c d R p):∃q t x y,d=kn (c.h R) (c.h R.reverse) q t x y p R.length:=by
 cases k with
 |lf v t _=>exact⟨_,_,_,_,rfl⟩
 |nd w t=>exact⟨_,_,_,_,rfl⟩
def Xc{a:EF}{as:AS}{w b:Int}{q x y:D}{t:Bool}{p s:Int}{cs:List Str}{f:Str}{v:D}(h:WD a as true (kn w b q t x y p s))(hc:("Knot":Str) ∈ cs)(hl:EK rN [.int w,.int b,q,.bl t,x,y,.int p,.int s] f=some v):WD (f1 a<|zP cs f) as true v:=by
 have:=Ql h hc hl;rw[zyC]at this;exact this
variable{a:EF}{as:AS}
theorem TK.whole(k:TK c d R p)(ha:WD a as true d):WD (f1 a<|zP xO "whole") as true (.int<|c.h R):=by
 obtain⟨q,t,x,y,rfl⟩:=k.gt;exact Xc ha (by decide +kernel) rfl
theorem TK.back(k:TK c d R p)(ha:WD a as true d):WD (f1 a<|zP Xm "back") as true (.int<|c.h R.reverse):=by
 obtain⟨q,t,x,y,rfl⟩:=k.gt;exact Xc ha (by decide +kernel) rfl
theorem TK.deep(k:TK c d R p)(ha:WD a as true d):WD (f1 a<|zP yO "deep") as true (.int p):=by
 obtain⟨q,t,x,y,rfl⟩:=k.gt;exact Xc ha (by decide +kernel) rfl
theorem TK.size(k:TK c d R p)(ha:WD a as true d):WD (f1 a<|zP xF "size") as true (.int R.length):=by
 obtain⟨q,t,x,y,rfl⟩:=k.gt;exact Xc ha (by decide +kernel) rfl
def TK.isN(k:TK c d R p)(ha:WD a as true d):WT (fT<|f2 a (fC .non)<|zw .Is) as false:=by
 obtain⟨q,t,x,y,rfl⟩:=k.gt;exact zN (zu (z:=.bl false) ha zb rfl rfl) rfl
def TK.isS(k:TK c d R p)(ha:WD a as true d):WT (fT<|f2 a (fC .non)<|zw .IsNot) as true:=by
 obtain⟨q,t,x,y,rfl⟩:=k.gt;exact zN (zu (z:=.bl true) ha zb rfl rfl) rfl
def TK.zero(k:TK c d R p)(ha:WD a as true d):WT (fT<|f2 (f1 a<|zP yO "deep") zW<|zw .Eq) as (decide (p=0)):=zN (Yz (c:=decide (p=0)) (k.deep ha) zb (by
 show some ((p:Int)==0)=_
 by_cases h:p=0
 . subst h;rfl
 . rw[zyF h,beq_eq_false_iff_ne.mpr<|by omega])) rfl
end
section
variable{n m:Nat}{J:TZ}{e:Int}{Ds:DD}{S:SS}
def HG{W1 W2:TZ}{x:D}(h1:Tab m n W1)(h2:Tab m n W2)(m6:m<=6)(n8:n<=8):RE (YO [(true,x),(true,wo W1),(true,wo W2)]) (wo<|bh W1 W2):=by
 have hz:K_ (aC zk xN) [sT x,sT<|wo W1,sT<|wo W2]=some ((W1.zip W2).map λq=>(true,.tup [Zb q.1,Zb q.2]),[sT x,sT<|wo W1,sT<|wo W2]):=by
  have:=Ir (as:=[sT x,sT<|wo W1,sT<|wo W2]) (WD.e<|za (i:=1) rfl) (WD.e<|za (i:=2) rfl) (xs:=W1.map Zb) (ys:=W2.map Zb) (.t _)<|.t _;rw[this,List.zip_map,zyA];rfl
 have:=Yg (as:=[sT x,sT<|wo W1,sT<|wo W2]) (h:=λq:List Int×List Int=>Zb<|q.1.map<|wO q.2) (it:=λq=>(true,.tup [Zb q.1,Zb q.2])) (fi:=K_<|aC zk xN) (cap:=[none,none]) (gg:=gT 2<|Wp VU<|Wp (gN 1) Ej) (fe:=fP m5 tupP) (W1.zip W2) hz (by rw[List.length_zip,h1.1];omega) (λq mq=>by
  obtain⟨q1,q2⟩:=List.of_mem_zip mq;have r1:=h1.2 _ q1;have r2:=h2.2 _ q2;refine⟨[sT<|Zb q.1,sT<|Zb q.2],rfl,Qw (Yg (h:=λa=>D.int<|wO q.2 a) (it:=λa=>(true,D.int a)) q.1 ?_ (by rw[r1.1];omega) λa ma=>⟨[sI a,sT<|Zb q.2],rfl,WD.e<|zu (za (i:=1) rfl) (za (i:=0) rfl) (nY r2<|r1.2 a ma) rfl⟩) ?_⟩
  . have:=sX (as:=[sT<|Zb q.1,sT<|Zb q.2]) (WD.e<|za (i:=0) rfl) (ds:=q.1.map D.int);rw[zyA]at this;exact this
  . show some (R0.im<|.tup<|q.1.map λa=>D.int<|wO q.2 a)=some (R0.im<|.tup<|(q.1.map<|wO q.2).map D.int);rw[zyA];rfl)
 refine zM rfl<|zx<|Qw this ?_;show some (R0.im<|.tup ((W1.zip W2).map λq:List Int×List Int=>Zb<|q.1.map<|wO q.2))=some (R0.im<|.tup<|((W1.zip W2).map λp=>p.1.map<|wO p.2).map Zb);rw[zyA];rfl
def Bu{W:TZ}{v k:Int}(m1:1<=m)(h1:Tab m n W)(hv:zJ n v):WU [(true,Vn n m J e Ds S),(true,wo W),(true,.int v),(true,.int k)]=sI (yT W (k%m) v):=by
 have wa:WD (f1 zh<|zP Vg "around") [sT<|Vn n m J e Ds S,sT<|wo W,sI v,sI k] true (.int m):=EV (c:="Ways") (ns:=G7) rfl (by decide +kernel) rfl;exact wQ rfl<|xt<|Ck h1 (Uo m1) hv (za (i:=1) rfl) (yc (za (i:=3) rfl) wa<|(q0e m1))<|za (i:=2) rfl
end
def Ta{a b c d e f:EF}{as:AS}{x y z u v w o:D}{g:List (Bool×D)->Option O}(ha:WE a as x)(hb:WE b as y)(hc:WE c as z)(hd:WE d as u)(he:WE e as v)(hf:WE f as w)(hg:RE (g [(true,x),(true,y),(true,z),(true,u),(true,v),(true,w)]) o):WE (ze (aC a<|aC b<|aC c<|aC d<|aC e<|aC f aN) g) as o:=by
 obtain⟨o,h1,h2⟩:=hg;exact⟨o,vR (xC ha<|xC hb<|xC hc<|xC hd<|xC he<|xC hf zj) (by show g [(zE x||true,x),(zE y||true,y),(zE z||true,z),(zE u||true,u),(zE v||true,v),(zE w||true,w)]=_;simp only[zyC];exact h1),h2⟩
abbrev k7(ns:List Str)(os:List O)(w b:Int)(a:D)(t:Bool)(x y:D):AS:=[some<|.nd (.ob "Knot" ns) os,sI w,sI b,sT a,sT<|.bl t,sT x,sT y]
def D9{w b:Int}{a x y:D}{t:Bool}{p s:Int}(hd:∀ns os,WE lS (k7 ns os w b a t x y)<|.int p)
 (hz:∀ns os,WE oe (k7 ns os w b a t x y)<|.int s):
 RE (yn "Knot" [(true,.int w),(true,.int b),(true,a),(true,.bl t),(true,x),(true,y)]) (kn w b a t x y p s):=by
 have v:∀(i:Nat) (d:D) ns os,(k7 ns os w b a t x y)[i]? = some (sT d)->WE (fV i) (k7 ns os w b a t x y) d:=λi d ns os h=>WD.e<|za h;have h:Zz (ZD 7 (n4 "Knot"::[(true,.int w),(true,.int b),(true,a),(true,.bl t),(true,x),(true,y)].map O7))=some (k7 rN [.lf true<|.int w,.lf true<|.int b,.lf true a,.lf true<|.bl t,.lf true x,.lf true y,.lf true<|.int p,.lf true<|.int s] w b a t x y):=
  yC (yU (c:="Knot") (i:=0) (ns:=[]) (os:=[]) (v 1 _ _ _ rfl) rfl (by decide +kernel) (by decide +kernel)<|by decide)
  (yC (yU (c:="Knot") (i:=0) (v 2 _ _ _ rfl) rfl (by decide +kernel) (by decide +kernel)<|by decide)
  (yC (yU (c:="Knot") (i:=0) (v 3 _ _ _ rfl) rfl (by decide +kernel) (by decide +kernel)<|by decide)
  (yC (yU (c:="Knot") (i:=0) (v 4 _ _ _ rfl) rfl (by decide +kernel) (by decide +kernel)<|by decide)
  (yC (yU (c:="Knot") (i:=0) (v 5 _ _ _ rfl) rfl (by decide +kernel) (by decide +kernel)<|by decide)
  (yC (yU (c:="Knot") (i:=0) (v 6 _ _ _ rfl) rfl (by decide +kernel) (by decide +kernel)<|by decide)
  (yC (yU (c:="Knot") (i:=0) (hd _ _) rfl (by decide +kernel) (by decide +kernel)<|by decide)
  (yU (c:="Knot") (i:=0) (hz _ _) rfl (by decide +kernel) (by decide +kernel)<|by decide)))))))
 refine⟨.nd (.ob "Knot" rN) [.lf true<|.int w,.lf true<|.int b,.lf true a,.lf true<|.bl t,.lf true x,.lf true y,.lf true<|.int p,.lf true<|.int s], ?_,rfl,rfl⟩;unfold yn rV;rw[if_pos (by rfl),h];rfl
def MF{w b:Int}{a:D}{t:Bool}:RE (yn "Knot" [(true,.int w),(true,.int b),(true,a),(true,.bl t),(true,.non),(true,.non)]) (kn w b a t .non .non 0 1):=
 D9 (λ_ _=>Pn (zN (zu (za (i:=5) rfl) zb rfl rfl) rfl)<|WD.e zb) λ_ _=>Pn (zN (zu (za (i:=5) rfl) zb rfl rfl) rfl)<|WD.e zb
section
variable{c:Cx}{x y d:D}{r s R:List Int}{p q:Nat}
def T5{w b:Int}{a:D}{t:Bool}(k:TK c x r p)(l:TK c y s q):RE (yn "Knot" [(true,.int w),(true,.int b),(true,a),(true,.bl t),(true,x),(true,y)]) (kn w b a t x y ((1+max p q:Nat):Int) ((r.length+s.length:Nat):Int)):=by
 have v5:∀ns os,WD ym (k7 ns os w b a t x y) true x:=λ_ _=>za (i:=5) rfl;have v6:∀ns os,WD xl (k7 ns os w b a t x y) true y:=λ_ _=>za (i:=6) rfl;refine D9 (λns os=>Tb (k.isN<|v5 _ _) ?_) λns os=>Tb (k.isN<|v5 _ _) ?_
 . have h:=zT (zb (x:=.int 1))<|yo (x:=.int<|if(q:Int) > p then(q:Int)else p) (g:=SW) (zc (k.deep<|v5 ns os)<|zc (l.deep<|v6 ns os) zj) rfl rfl;rw[show((1+max p q:Nat):Int)=1+(if(q:Int) > p then(q:Int)else p) by split<;>omega];exact WD.e h
 . have h:=zT (k.size<|v5 ns os)<|l.size<|v6 ns os;rw[show((r.length+s.length:Nat):Int)=(r.length:Int)+s.length by omega];exact WD.e h
def Sm{v:Int}:RE (W6 [(true,.int v)]) (kn v v .non false .non .non 0 1):=
 zM rfl (zx<|Ta (WD.e<|za (i:=0) rfl) (WD.e<|za (i:=0) rfl) (WD.e zb) (WD.e zb) (WD.e zb) (WD.e zb) MF)
def TK.mk(h:c.Ok)(w:Option TZ)(t:Bool)(hw:c.wok w)(k:TK c x r p)(l:TK c y s q)(h1:p<=q+1)(h2:q<=p+1){u v:Int}(hu:u=c.h (tn t<|c.ap w<|r++s))(hv:v=c.h (tn t<|c.ap w<|r++s).reverse):TK c (kn u v (XQ w) t x y ((1+max p q:Nat):Int) ((r.length+s.length:Nat):Int)) (tn t<|c.ap w<|r++s) (1+max p q):=by
 have:=TK.nd w t k l h1 h2 hw rfl;rw[Nl,Y5,zzJ]at this;rw[hu,hv];exact this
def wC(h:c.Ok)(k:TK c x r p)(l:TK c y s q)(h1:p<=q+1)(h2:q<=p+1):∃d,RE (yu [(true,c.w),(true,x),(true,y)]) d/\TK c d (r++s) (1+max p q):=by
 have v1:WD zk [sT c.w,sT x,sT y] true x:=za (i:=1) rfl;have v2:WD zG [sT c.w,sT x,sT y] true y:=za (i:=2) rfl;have wy:WD zh [sT c.w,sT x,sT y] true c.w:=za (i:=0) rfl;have w1:=Ey (tbl:=W_) (m:="join") wy (by decide +kernel) rfl (WD.e<|k.whole v1) (WD.e<|l.whole v2)<|FI (m:=c.m) (e:=c.e) (Ds:=c.Ds) (S:=c.S) h.A.j (Z7 h.L.lj<|k.in h)<|Z7 h.L.lj<|l.in h;have w2:=Ey (tbl:=W_) (m:="join") wy (by decide +kernel) rfl (WD.e<|l.back v2) (WD.e<|k.back v1)<|FI (m:=c.m) (e:=c.e) (Ds:=c.Ds) (S:=c.S) h.A.j (Z7 h.L.lj<|l.rev h)<|Z7 h.L.lj<|k.rev h;refine⟨_,zM rfl<|zx<|Ta w1 w2 (WD.e zb) (WD.e zb) (WD.e v1) (WD.e v2)<|T5 k l,TK.mk h none false trivial k l h1 h2 ?_ ?_⟩
 . exact(FP h.L.lj (k.in h)<|l.in h).symm
 . show _=c.h (r++s).reverse;rw[List.reverse_append];exact(FP h.L.lj (l.rev h)<|k.rev h).symm
def B_(h:c.Ok){w u:Option TZ}(hw:c.wok w)(hu:c.wok u):∃v,RE (Xl [(true,c.w),(true,XQ w),(true,XQ u)]) (XQ v)/\c.wok v/\∀r,c.In r->c.ap v r=c.ap u (c.ap w r):=by
 cases w with
 |none=>exact⟨u,zM rfl<|yd<|yr (zN (zu (za (i:=1) rfl) zb rfl rfl) rfl)<|zx<|WD.e<|za (i:=2) rfl,hu,λ_ _=>rfl⟩
 |some A=>
  have t1:∀z,WT (fT<|f2 zk (fC .non)<|zw .Is) [sT c.w,sT<|wo A,z] false:=λz=>zN (zu (z:=.bl false) (za (i:=1) rfl) zb rfl rfl) rfl;cases u with
  |none=>exact⟨some A,zM rfl<|zd (zm (t1 _) rfl)<|yd<|yr (zN (zu (za (i:=2) rfl) zb rfl rfl) rfl)<|zx<|WD.e<|za (i:=1) rfl,hw,λ_ _=>rfl⟩
  |some B=>
   have m1:=h.m1;have at':∀{i a:Int},zJ c.m i->zJ c.n a->yT (bh A B) i a=yT B i (yT A i a):=λhi ha=>pZ hw.t hu.t hi ha;refine⟨some<|bh A B,zM rfl<|zd (zm (t1 _) rfl)<|zd (zm (zN (zu (z:=.bl false) (za (i:=2) rfl) zb rfl rfl) rfl) rfl)<|zx<|Ey (za (i:=0) rfl) (by decide +kernel) rfl (WD.e<|za (i:=1) rfl) (WD.e<|za (i:=2) rfl)<|HG hw.t hu.t h.A.m6 h.A.n8,⟨qU hw.t hu.t, ?_⟩,λr hr=>?_⟩
   . have he:=h.L.lj.ce;have h0:zJ c.m 0:=⟨Int.le_refl _,Int.natCast_pos.mpr h.A.m1⟩;refine⟨λi a hi ha=>?_, ?_,λa i b k ha hi hb hk=>?_⟩
     . rw[at' hi ha];exact hu.l.cl _ _ hi<|hw.l.cl _ _ hi ha
     . rw[at' h0 he,hw.l.em,hu.l.em]
     . rw[at' (Uo h.A.m1)<|h.L.lj.cl _ _ ha hb,at' hi ha,at' hk hb,hw.l.dn a i b k ha hi hb hk,hu.l.dn _ i _ k (hw.l.cl _ _ hi ha) hi (hw.l.cl _ _ hk hb) hk]
   . show r.map _=(r.map _).map _;rw[zyA];exact List.map_congr_left λa ma=>at' m1<|hr a ma
def Na(h:c.Ok){T:TZ}(hT:c.W T)(k:TK c d R p):∃d',RE (Ze [(true,c.w),(true,d),(true,wo T)]) d'/\TK c d' (c.ap (some T) R) p:=by
 have v1:∀a b,WD zk [sT c.w,sT d,sT<|wo T,a,b] true d:=λ_ _=>za (i:=1) rfl;have mk:∀{v:Int}{j:EF}{a b:Option O},zJ c.n v->WE j [sT c.w,sT d,sT<|wo T,a,b] (.int v)->WE (y_ QP "made" zh<|aC zG<|aC j<|aC (f1 zk<|zP xF "size") aN) [sT c.w,sT d,sT<|wo T,a,b] (.int<|yT T ((R.length:Int)%c.m) v):=λhv hj=>
  MC (za (i:=0) rfl) (by decide +kernel) rfl (WD.e<|za (i:=2) rfl) hj (WD.e<|k.size<|v1 _ _) (RE.lf<|Bu h.A.m1 hT.t hv)
 have e1:=LY (T:=T) h.A.m1 h.L.lj hT.l R<|k.in h;have e2:=LY (T:=T) h.A.m1 h.L.lj hT.l R.reverse<|k.rev h;rw[List.length_reverse]at e2;have s3:=xp (p:=3) (mk (a:=none) (b:=none) (Z7 h.L.lj<|k.in h)<|WD.e<|k.whole<|v1 _ _)<|zi rfl;rw[<-e1]at s3;have s4:=xp (p:=4) (mk (a:=sI<|SE c.J c.e<|R.map<|yT T<|1%(c.m:Int)) (b:=none) (Z7 h.L.lj<|k.rev h)<|WD.e<|k.back<|v1 _ _)<|zi rfl;rw[<-e2]at s4;have t0:=k.zero<|v1 (sI<|SE c.J c.e<|R.map<|yT T<|1%(c.m:Int)) none;cases k with
 |lf v t hv=>
  exact⟨_,zM rfl<|zd (zm ((TK.lf v t hv).isN<|za (i:=1) rfl) rfl)<|zd s3<|yd<|yr t0<|zx<|wX (WD.e<|za (i:=3) rfl) Sm,TK.lf _ false<|hT.l.cl _ _ h.m1 hv⟩
 | @nd w t x y r s p q R k l h1 h2 hw e=>
  obtain⟨v,b1,b2,b3⟩:=B_ h hw (show c.wok (some T)from hT);have kk:=TK.nd w t k l h1 h2 hw e;rw[zyF<|(q0O h1 h2)]at t0;have f:∀{cs:List Str}{n:Str}{z:D}(a b:Option O),("Knot":Str) ∈ cs->EK rN [.int<|c.h R,.int<|c.h R.reverse,XQ w,.bl t,x,y,.int ((1+max p q:Nat):Int),.int (R.length:Int)] n=some z->WE (f1 zk<|zP cs n) [sT c.w,sT<|kn (c.h R) (c.h R.reverse) (XQ w) t x y ((1+max p q:Nat):Int) (R.length:Int),sT<|wo T,a,b] z:=λa b hc hl=>WD.e<|Xc (v1 a b) hc hl;have eR:c.ap (some T) R=tn t (c.ap v<|r++s):=by rw[e,uy,b3 _<|NI (k.in h)<|l.in h]
  refine⟨_,zM rfl<|zd (zm (kk.isN<|za (i:=1) rfl) rfl)<|zd s3<|zd (zm t0 rfl)<|zd s4<|zx<|Ta (WD.e<|za (i:=3) rfl) (WD.e<|za (i:=4) rfl) (z9 (WD.e<|za (i:=0) rfl) (f _ _ (by decide +kernel) rfl) (WD.e<|za (i:=2) rfl) b1) (f _ _ (by decide +kernel) rfl) (f _ _ (by decide +kernel) rfl) (f _ _ (by decide +kernel) rfl)<|T5 k l, ?_⟩;have:=TK.mk h v t b2 k l h1 h2 (u:=SE c.J c.e<|R.map<|yT T<|1%(c.m:Int)) (v:=SE c.J c.e<|R.reverse.map<|yT T<|1%(c.m:Int)) (by rw[<-eR];rfl) (by rw[<-eR,List.map_reverse];rfl);rw[<-eR]at this;exact this
def Q8(h:c.Ok)(k:TK c d R p):∃d',RE (xG [(true,c.w),(true,d)]) d'/\TK c d' R.reverse p:=by
 have v1:WD zk [sT c.w,sT d] true d:=za (i:=1) rfl;have w1:=WD.e<|k.back v1;have w2:=WD.e<|k.whole v1;have n0:=k.isN v1;cases k with
 |lf v t hv=>
  exact⟨_,zM rfl<|zd (zm n0 rfl)<|zx<|Ta w1 w2 (WD.e<|Xc v1 (by decide +kernel) rfl) (WD.e<|OX<|Xc v1 (by decide +kernel) rfl) (WD.e<|Xc v1 (by decide +kernel) rfl) (WD.e<|Xc v1 (by decide +kernel) rfl) MF,TK.lf _ _ hv⟩
 | @nd w t x y r s p q R k l h1 h2 hw e=>
  refine⟨_,zM rfl<|zd (zm n0 rfl)<|zx<|Ta w1 w2 (WD.e<|Xc v1 (by decide +kernel) rfl) (WD.e<|OX<|Xc v1 (by decide +kernel) rfl) (WD.e<|Xc v1 (by decide +kernel) rfl) (WD.e<|Xc v1 (by decide +kernel) rfl)<|T5 k l, ?_⟩;have eR:R.reverse=tn (!t) (c.ap w<|r++s):=by
   rw[e];cases t with
   |false=>rfl
   |true=>exact List.reverse_reverse _
  have:=TK.mk h w (!t) hw k l h1 h2 (u:=c.h R.reverse) (v:=c.h R) (by rw[<-eR]) (by rw[<-eR,List.reverse_reverse]);rw[<-eR]at this;exact this
def Zp(h:c.Ok)(k:TK c d R p)(hp:p≠0):∃x y r s u v,RE (we [(true,c.w),(true,d)]) (.tup [x,y])/\TK c x r u/\TK c y s v/\u<=v+1/\v<=u+1/\p=1+max u v/\R=r++s:=by
 cases k with
 |lf=>exact absurd rfl hp
 | @nd w t x y r s p q R k l h1 h2 hw e=>
  have v1:∀a b,WD zk [sT c.w,sT<|kn (c.h R) (c.h R.reverse) (XQ w) t x y ((1+max p q:Nat):Int) (R.length:Int),a,b] true (kn (c.h R) (c.h R.reverse) (XQ w) t x y ((1+max p q:Nat):Int) (R.length:Int)):=λ_ _=>za (i:=1) rfl;have s2:=zV (i:=2) (st:=true) (Xc (cs:=XY) (f:="one") (v1 none none) (by decide +kernel) rfl)<|zi rfl;have s3:=zV (i:=3) (st:=true) (Xc (cs:=Zq) (f:="other") (v1 (sT x) none) (by decide +kernel) rfl)<|zi rfl;obtain⟨x',y',q1,q2,q3⟩:∃x' y',xg (fT<|f2 (f1 zk<|zP Zk "wait") (fC .non)<|zw .IsNot) m8 xj [sT c.w,sT<|kn (c.h R) (c.h R.reverse) (XQ w) t x y ((1+max p q:Nat):Int) (R.length:Int),sT x,sT y]=some (.nx [sT c.w,sT<|kn (c.h R) (c.h R.reverse) (XQ w) t x y ((1+max p q:Nat):Int) (R.length:Int),sT x',sT y'])/\TK c x' (c.ap w r) p/\TK c y' (c.ap w s) q:=by
   cases w with
   |none=>exact⟨x,y,zm (zN (zu (x:=.non) (z:=.bl false) (Xc (v1 _ _) (by decide +kernel) rfl) zb rfl rfl) rfl) rfl,k,l⟩
   |some T=>
    obtain⟨x',a1,a2⟩:=Na h hw k;obtain⟨y',b1,b2⟩:=Na h hw l;have wt:∀a b,WE (f1 zk<|zP Zk "wait") [sT c.w,sT<|kn (c.h R) (c.h R.reverse) (XQ<|some T) t x y ((1+max p q:Nat):Int) (R.length:Int),a,b] (wo T):=λa b=>WD.e<|Xc (v1 a b) (by decide +kernel) rfl;exact⟨x',y',wR (zN (x:=.bl true) (Ba (wt _ _) (WD.e zb) rfl) rfl)<|zt (xp (p:=2) (z9 (WD.e<|za (i:=0) rfl) (WD.e<|za (i:=2) rfl) (wt _ _) a1)<|zi rfl)<|xp (p:=3) (z9 (WD.e<|za (i:=0) rfl) (WD.e<|za (i:=3) rfl) (wt _ _) b1)<|zi rfl,a2,b2⟩
  have tt:WT (fT<|f1 zk<|zP YA "turn") [sT c.w,sT<|kn (c.h R) (c.h R.reverse) (XQ w) t x y ((1+max p q:Nat):Int) (R.length:Int),sT x',sT y'] t:=zN (x:=.bl t) (Xc (v1 _ _) (by decide +kernel) rfl) rfl;cases t with
  |false=>exact⟨x',y',_,_,p,q,zM rfl<|zd s2<|zd s3<|zd q1<|zd (zm tt rfl)<|zx<|xD (WD.e<|za (i:=2) rfl)<|WD.e<|za (i:=3) rfl,q2,q3,h1,h2,rfl,by rw[e,F6];rfl⟩
  |true=>
   obtain⟨x'',a1,a2⟩:=Q8 h q2;obtain⟨y'',b1,b2⟩:=Q8 h q3;exact⟨y'',x'',_,_,q,p,zM rfl<|zd s2<|zd s3<|zd q1<|yd<|yr tt<|zx<|xD (yy (WD.e<|za (i:=0) rfl) (WD.e<|za (i:=3) rfl) b1)<|yy (WD.e<|za (i:=0) rfl) (WD.e<|za (i:=2) rfl) a1,b2,a2,h2,h1,by rw[Nat.max_comm],by rw[e,F6];exact List.reverse_append⟩
end
def ux{f:EF}{as:AS}{ds:List D}(h:WD f as true (.tup ds)):Yd f as=some (ds.map λd=>(true,d),as):=by
 unfold Yd;unfold WD at h;rw[h];show some (kids true ds,as)=_;rw[VS]
def K4{as:AS}{i:Nat}{fr:AF}{g:List wB->O->Option O}{rs:List RV}{xs:List wB}{o r:O}(h1:fr as=some (rs,as))(h2:MY i rs=some xs)(h3:as[i]? = some (some o))(h4:g xs o=some r):Yc i fr g as=some (.nx<|as.set i<|some r):=by
 unfold Yc;rw[h1];show(MY i rs).bind _=_;rw[h2];show(as[i]?).bind _=_;rw[h3];show(g xs o).bind _=_;rw[h4];rfl
def uf{f:EF}{as:AS}{d:D}(hd:zE d=true)(h:WE f as d):WD f as true d:=by
 obtain⟨o,h,h1,h2⟩:=h;cases o with
 |lf s x=>subst h2;rw[show s=true from h1]at h;exact h
 |nd k os=>subst h2;cases k<;>cases hd
def uR{f:EF}{as:AS}{k:Bool}(h:WE f as (.bl k)):WT (fT f) as k:=zN (uf rfl h) rfl
def JR{a b c:EF}{as:AS}{x y z:D}(ha:WE a as x)(hb:WE b as y)(hc:WE c as z):WE (yL<|dC a<|dC b<|dC c dN) as (.tup [x,y,z]):=by
 obtain⟨o1,a1,a2,a3⟩:=ha;obtain⟨o2,b1,b2,b3⟩:=hb;obtain⟨o3,c1,c2,c3⟩:=hc;have h:=FH (os:=[o1,o2,o3]) (X4 a1<|X4 b1<|X4 c1 ye)<|Wl rfl;have hs:O.strs [o1,o2,o3]=true:=by show(o1.str&&(o2.str&&(o3.str&&true)))=true;rw[a2,b2,c2];rfl
 refine⟨_,h, ?_, ?_⟩
 . unfold XC
   split
   . exact hs
   . exact hs
 . unfold XC
   split
   . show D.tup [o1.toD,o2.toD,o3.toD]=_;rw[a3,b3,c3]
   . show D.tup [o1.toD,o2.toD,o3.toD]=_;rw[a3,b3,c3]
section
variable{c:Cx}{x y d:D}{r s R:List Int}{p q:Nat}
abbrev g9(c:Cx)(d:D)(w:Option TZ)(t:Bool)(acc:List Int)(a b e f:Option O):AS:=[sT c.w,sT d,sT<|XQ w,sT<|.bl t,some<|xJ acc,a,b,e,f]
def oh(acc:List Int)(v:Int):acc.map xx++[xx v]=(acc++[v]).map xx:=by rw[zyL];rfl
theorem Kh(h:c.Ok):∀(k:Nat) {d:D}{R:List Int}{p:Nat}(w:Option TZ) (t:Bool) (acc:List Int),TK c d R p->c.wok w->p<k->acc.length+R.length<=1000->wZ k [(true,c.w),(true,d),(true,XQ w),(true,.bl t)] (xJ acc)=some (xJ<|acc++tn t (c.ap w R))
 |0,_,_,_,_,_,_,_,_,h,_=>absurd h (Nat.not_lt_zero _)
 |n+1,d,R,p,w,t,acc,k,hw,hp,hl=>by
  obtain⟨a',b',e',f',run⟩:∃a b e f,QR (wZ n) (g9 c d w t acc none none none none)=some (.nx<|g9 c d w t (acc++tn t (c.ap w R)) a b e f):=by
   have v1:∀a b e f,WD zk (g9 c d w t acc a b e f) true d:=λ_ _ _ _=>za (i:=1) rfl;have t0:=k.zero<|v1 none none none none;have wh:=k.whole<|v1 none none none none;have al:acc.length<1001:=by omega
   cases k with
   |lf v b hv=>
    have wv:∃u,[u]=tn t (c.ap w [v])/\WD mZ (g9 c (kn v v .non b .non .non 0 1) w t acc none none none none) true (.int u):=by
     cases w with
     |none=>exact⟨v,by cases t<;>rfl,rD (zN (zu (a:=fV 2) (b:=fC .non) (g:=zw .Is) (z:=.bl true) (za (i:=2) rfl) zb rfl rfl) rfl) wh⟩
     |some T=>exact⟨yT T (1%(c.m:Int)) v,by cases t<;>rfl,qz (zN (zu (a:=fV 2) (b:=fC .non) (g:=zw .Is) (z:=.bl false) (za (i:=2) rfl) zb rfl rfl) rfl)<|uf rfl<|MC (za (i:=0) rfl) (by decide +kernel) rfl (WD.e<|za (i:=2) rfl) (WD.e wh) (WD.e zb)<|RE.lf<|Bu (k:=1) h.A.m1 hw.t hv⟩
    obtain⟨u,e,wv⟩:=wv;refine⟨none,none,none,none,wR t0 ?_⟩;rw[sf (i:=4) (os:=acc.map xx) rfl (by rw[zzB];exact zzK al<|Bv<|by decide) wv,<-e];show some (Out.nx [_,_,_,_,some<|O.nd .ls<|acc.map xx++[xx u],_,_,_,_])=_;rw[oh]
   | @nd u b x y r s p q R k l h1 h2 hu e=>
    rw[zyF<|(q0O h1 h2)]at t0;obtain⟨v,b1,b2,b3⟩:=B_ h hu hw;have hR:R.length=r.length+s.length:=by rw[e,Nl,Y5,zzJ]
    have eR:tn t (c.ap w R)=tn (b != t) (c.ap v r++c.ap v s):=by rw[e,uy,mf,<-b3 _ (NI (k.in h)<|l.in h),F6]
    rw[eR];have f:∀{cs:List Str}{n:Str}{z:D}(a b' e f:Option O),("Knot":Str) ∈ cs->EK rN [.int<|c.h R,.int<|c.h R.reverse,XQ u,.bl b,x,y,.int ((1+max p q:Nat):Int),.int (R.length:Int)] n=some z->WD (f1 zk<|zP cs n) (g9 c (kn (c.h R) (c.h R.reverse) (XQ u) b x y ((1+max p q:Nat):Int) (R.length:Int)) w t acc a b' e f) true z:=λa b e f hc hl=>Xc (v1 a b e f) hc hl;have s5:=xp (p:=5) (z9 (WD.e<|za (i:=0) rfl) (WD.e<|f (cs:=Zk) (n:="wait") none none none none (by decide +kernel) rfl) (WD.e<|za (i:=2) rfl) b1)<|zi rfl;have s6:=zV (i:=6) (st:=true) (Kq (c:=b==t) (f (cs:=YA) (n:="turn") (sT<|XQ v) none none none (by decide +kernel) rfl) (za (i:=3) rfl)<|by cases b<;>cases t<;>rfl)<|zi rfl;rw[show(!(b==t))=(b != t)from rfl]at s6;have fx:=WD.e<|f (cs:=XY) (n:="one") (sT<|XQ v) (sT<|.bl<|b != t) none none (by decide +kernel) rfl;have fy:=WD.e<|f (cs:=Zq) (n:="other") (sT<|XQ v) (sT<|.bl<|b != t) none none (by decide +kernel) rfl;have w6:WT (fT xl) (g9 c (kn (c.h R) (c.h R.reverse) (XQ u) b x y ((1+max p q:Nat):Int) (R.length:Int)) w t acc (sT<|XQ v) (sT<|.bl<|b != t) none none) (b != t):=zN (za (i:=6) rfl) rfl;have cl:∀{z:D}{r':List Int}{p':Nat}(a:List Int) (o f:Option O),TK c z r' p'->p'<n->a.length+r'.length<=1000->Yc 4 uX (wZ n) [sT c.w,f,sT<|XQ w,sT<|.bl t,some<|xJ a,sT<|XQ v,sT<|.bl<|b != t,o,sT z]=some (.nx [sT c.w,f,sT<|XQ w,sT<|.bl t,some<|xJ<|a++tn (b != t) (c.ap v r'),sT<|XQ v,sT<|.bl<|b != t,o,sT z]):=λ{z r' p'} a o f k' hp' ha=>K4 (rs:=[.ow<|.lf true c.w,.ow<|.lf true z,.ow<|.lf true<|XQ v,.ow<|.lf true<|.bl<|b != t,.bo 4]) (xs:=[(true,c.w),(true,z),(true,XQ v),(true,.bl<|b != t)]) rfl rfl rfl<|Kh h n v (b != t) a k' b2 hp' ha;have lp:∀{z z':D}{r1 r2:List Int}{p1 p2:Nat}(o:Option O),TK c z r1 p1->TK c z' r2 p2->p1<n->p2<n->acc.length+r1.length+r2.length<=1000->forL (gN 8) (Yc 4 uX<|wZ n) [(true,z),(true,z')] (g9 c (kn (c.h R) (c.h R.reverse) (XQ u) b x y ((1+max p q:Nat):Int) (R.length:Int)) w t acc (sT<|XQ v) (sT<|.bl<|b != t) o none)=some (.nx<|g9 c (kn (c.h R) (c.h R.reverse) (XQ u) b x y ((1+max p q:Nat):Int) (R.length:Int)) w t (acc++tn (b != t) (c.ap v r1)++tn (b != t) (c.ap v r2)) (sT<|XQ v) (sT<|.bl<|b != t) o<|sT z'):=λ{z z' r1 r2 p1 p2} o k1 k2 l1 l2 hl=>vH (as1:=g9 c _ w t acc (sT<|XQ v) (sT<|.bl<|b != t) o<|sT z) rfl (cl acc o _ k1 l1<|by omega)<|vH (as1:=g9 c _ w t (acc++tn (b != t) (c.ap v r1)) (sT<|XQ v) (sT<|.bl<|b != t) o<|sT z') rfl (cl (acc++tn (b != t) (c.ap v r1)) o _ k2 l2<|by rw[zzJ,Nl,Y5];exact hl) rfl;cases hc:(b != t)with
    |false=>
     rw[hc]at w6 s6 lp fx fy;have:=lp (sT<|.tup [x,y]) k l (q0v hp h1 h2) (q0t hp h1 h2) (by omega);rw[zxB]at this;exact⟨_,_,_,_,zm t0<|zt s5<|zt s6<|zt (xp (p:=7) (Tb w6<|xD fx fy)<|zi rfl)<|xk (ux<|za (i:=7) rfl) this⟩
    |true=>
     rw[hc]at w6 s6 lp fx fy;have:=lp (sT<|.tup [y,x]) l k (q0t hp h1 h2) (q0v hp h1 h2) (by omega);rw[zxB,show tn true (c.ap v s)++tn true (c.ap v r)=tn true (c.ap v r++c.ap v s)from List.reverse_append.symm]at this;exact⟨_,_,_,_,zm t0<|zt s5<|zt s6<|zt (xp (p:=7) (Pn w6<|xD fy fx)<|zi rfl)<|xk (ux<|za (i:=7) rfl) this⟩
  show gL 9 5 (QR<|wZ n) [(true,c.w),(true,d),(true,XQ w),(true,.bl t)] (xJ acc)=_;unfold gL;rw[if_pos (by rfl),show VX 9 [(true,c.w),(true,d),(true,XQ w),(true,.bl t)] (xJ acc)=g9 c d w t acc none none none none from rfl,run];rfl
def qD(h:c.Ok)(k:TK c d R p)(hl:R.length<=1000):Y4 [(true,c.w),(true,d)]=some (xJ R):=by
 have g:=Kh h 20 none false [] k trivial (k.lt hl) (by show 0+_<=_;omega);have cl:Yc 2 (aC zh<|aC zk<|aC (fC .non)<|aC (fC<|.bl false) xN) (wZ 20) [sT c.w,sT d,some<|xJ []]=some (.nx [sT c.w,sT d,some<|xJ R]):=K4 (rs:=[.ow<|.lf true c.w,.ow<|.lf true d,.ow<|.lf true .non,.ow<|.lf true<|.bl false,.bo 2]) (xs:=[(true,c.w),(true,d),(true,.non),(true,.bl false)]) rfl rfl rfl g;exact wQ rfl<|zt (v_ (i:=2) (WY ye<|Wl rfl)<|zi rfl)<|zt (wR (k.isS<|za (i:=1) rfl) cl)<|Qx (i:=2) rfl (ZZ R).1
def A8:Y4 [(true,c.w),(true,.non)]=some (xJ []):=
 wQ rfl (zt (v_ (i:=2) (WY ye<|Wl rfl)<|zi rfl)<|zt (zm (zN (zu (z:=.bl false) (za (i:=1) rfl) zb rfl rfl) rfl) rfl)<|Qx (i:=2) rfl (ZZ []).1)
def OT(c:Cx)(d:D)(R:List Int):Prop:=(d = .non/\R=[])\/∃p,TK c d R p
def TK.o(k:TK c d R p):OT c d R:=.inr ⟨p,k⟩
def OT.n:OT c .non []:=.inl ⟨rfl,rfl⟩
theorem OT.in(h:c.Ok)(k:OT c d R):c.In R:=by
 rcases k with⟨_,rfl⟩|⟨p,k⟩
 . exact λ_ m=>nomatch m
 . exact k.in h
def Qg(k:OT c d R):RE (xb [(true,d)]) (.int R.length):=by
 rcases k with⟨rfl,rfl⟩|⟨p,k⟩
 . exact zM rfl<|zx<|Pn (zN (zu (z:=.bl true) (za (i:=0) rfl) zb rfl rfl) rfl)<|WD.e zb
 . exact zM rfl<|zx<|Tb (k.isN<|za (i:=0) rfl)<|WD.e<|k.size<|za (i:=0) rfl
def AC(k:OT c d R):RE (V1 [(true,c.w),(true,d)]) (.int<|c.h R):=by
 rcases k with⟨rfl,rfl⟩|⟨p,k⟩
 . exact zM rfl<|zx<|Pn (zN (zu (z:=.bl true) (za (i:=1) rfl) zb rfl rfl) rfl)<|uw (za (i:=0) rfl) (by decide +kernel) rfl KB
 . exact zM rfl<|zx<|Tb (k.isN<|za (i:=1) rfl)<|WD.e<|k.whole<|za (i:=1) rfl
def mj(h:c.Ok)(k:OT c d R)(hl:R.length<=1000):Y4 [(true,c.w),(true,d)]=some (xJ R):=by
 rcases k with⟨rfl,rfl⟩|⟨p,k⟩
 . exact A8
 . exact qD h k hl
inductive WK(c:Cx):D->List Int->Nat->Prop
 |lf (v:Int):zJ c.n v->WK c (.tup [.int v]) [v] 0
 |nd {x y:D}{r s:List Int}{p q:Nat}:WK c x r p->WK c y s q->p<=q+1->q<=p+1->WK c (.tup [.int (c.h (r++s)),x,y]) (r++s) (1+max p q)
def xf{as:AS}{j:Nat}{i:Int}{ds:List D}{z:D}(h:as[j]? = some (sT<|.tup ds))(hz:zD (.tup ds) (.int i)=some (.im z)):WD (f2 (fV j) (fC<|.int i) zD) as true z:=yP (za h) zb hz
theorem L1(h:c.Ok):∀(k:Nat) {d:D}{R:List Int}{p:Nat},TK c d R p->p<k->∃w,RE (ZU k [(true,c.w),(true,d)]) w/\WK c w R p
 |0,_,_,_,_,h=>absurd h (Nat.not_lt_zero _)
 |n+1,d,R,p,k,hp=>by
  have v1:∀a,WD zk [sT c.w,sT d,a] true d:=λ_=>za (i:=1) rfl;have t0:=k.zero<|v1 none
  by_cases h0:p=0
  . rw[zyN h0]at t0;have wv:=k.whole<|v1 none;have n0:=k.isN<|v1 none;cases k with
    |lf v t hv=>exact⟨_,zM rfl<|zd (zm n0 rfl)<|yd<|yr t0<|zx<|Ac<|WD.e wv,.lf v hv⟩
    |nd=>exact absurd h0 (by omega)
  . rw[zyF h0]at t0;obtain⟨x,y,r,s,u,v,q1,q2,q3,q4,q5,rfl,rfl⟩:=Zp h k h0;obtain⟨a,a1,a2⟩:=L1 h n q2 (by omega);obtain⟨b,b1,b2⟩:=L1 h n q3 (by omega);exact⟨_,zM rfl<|zd (zm (k.isN<|v1 _) rfl)<|zd (zm t0 rfl)<|zd (xp (p:=2) (yy (WD.e<|za (i:=0) rfl) (WD.e<|v1 _) q1)<|zi rfl)<|zx<|JR (WD.e<|k.whole<|v1 _) (yy (WD.e<|za (i:=0) rfl) (WD.e<|xf (j:=2) rfl rfl) a1)<|yy (WD.e<|za (i:=0) rfl) (WD.e<|xf (j:=2) rfl rfl) b1,.nd a2 b2 q4 q5⟩
end
section
def Uv{f:EF}{as:AS}{s:Bool}{y:D}{fl fh:OF}{lo hi:Option Int}{r:List Int}(ha:WD f as s y)(hl:fl as=some (lo,as))(hh:fh as=some (hi,as))(hg:XU y lo hi=some (.fl<|r.map D.int)):WE (ZY f fl fh XU) as (zg r):=by
 refine⟨xJ r, ?_,ZZ r⟩;unfold WD at ha;unfold ZY;rw[ha];show((fl as).bind _)=_;rw[hl];show((fh as).bind _)=_;rw[hh];show((XU y lo hi).bind _)=_;rw[hg];show(if((r.map D.int).all zE||(some s).isSome)=true then some (RV.ow<|.nd .ls<|(r.map D.int).map<|OH s)else none:Option RV).bind _=_;rw[if_pos (by simp),zyA];rfl
variable{c:Cx}
def Ae{r:List Int}(hJ:Tab c.n c.n c.J)(h:∀x ∈ r,zJ c.n x)(hr:r≠[]):RE (vC [(true,c.g),(true,zg r)]) (.int<|c.h r):=by
 match r,hr with
 |v::q,_=>
  have t0:WT (fT<|f2 zk (yJ dN)<|zw .Eq) [sT<|c.g,sT<|zg (v::q),none,none] false:=zN (Ba (g:=zw .Eq) (z:=.bl false) (WD.e<|za (i:=1) rfl) (yN ye (Wl rfl) rfl rfl) rfl) rfl;have s2:zr true 2 (f2 zk zW zD) [sT<|c.g,sT<|zg (v::q),none,none]=some (.nx [sT<|c.g,sT<|zg (v::q),sI v,none]):=zV (i:=2) (zu (z:=.int v) (za (i:=1) rfl) zb (Z6 (f:=D.int) (l:=v::q) (i:=0) rfl) rfl)<|zi rfl;have c1:=Te (xs:=[D.int v]) (ys:=q.map D.int);have w1:WE (ZY zk (oS zO) oN XU) [sT<|c.g,sT<|zg (v::q),sI v,none] (zg q):=Uv (za (i:=1) rfl) rfl rfl c1;have it:Yd (ZY zk (oS zO) oN XU) [sT<|c.g,sT<|zg (v::q),sI v,none]=some (q.map λx=>(true,D.int x),[sT<|c.g,sT<|zg (v::q),sI v,none]):=by
   obtain⟨o,a1,a2,a3⟩:=w1;unfold Yd;rw[a1];show(PZ (o.str,o.toD)).bind _=_;rw[a2,a3];show some (kids true<|q.map D.int,_)=_;rw[VS,zyA];rfl
  have lp:∀(q':List Int) (u:Int) (z:Option O),zJ c.n u->(∀x ∈ q',zJ c.n x)->∃z',forL (gN 3) (zr true 2<|f2 (f2 (f2 zh y8 zD) zG zD) zK zD) (q'.map λx=>(true,D.int x)) [sT<|c.g,sT<|zg (v::q),sI u,z]=some (.nx [sT<|c.g,sT<|zg (v::q),sI<|q'.foldl (yT c.J) u,z']):=λq'=>by
   induction q' with
   |nil=>exact λu z _ _=>⟨z,rfl⟩
   |cons x q' ih=>
    intro u z hu hq;have hx:=hq x zzF;obtain⟨z',hz⟩:=ih (yT c.J u x) (sI x) (Lq hJ hu hx) λy my=>hq y<|zzD _ my;exact⟨z',vH (as1:=[sT<|c.g,sT<|zg (v::q),sI u,sI x]) rfl (zV (i:=2) (Xh hJ hu hx (yP (z:=xI c.J) (za (i:=0) rfl) zb rfl) (za (i:=2) rfl)<|za (i:=3) rfl)<|zi rfl) hz⟩
  obtain⟨z',hz⟩:=lp q v none (h v zzF) λy my=>h y<|zzD _ my;exact zM rfl<|zd (zm t0 rfl)<|zd s2<|zd (xk it hz)<|zx<|WD.e<|za (i:=2) rfl
def Cp:RE (vC [(true,c.g),(true,zg [])]) (.int<|c.h []):=
 zM rfl (yd<|yr (zN (Ba (g:=zw .Eq) (z:=.bl true) (WD.e<|za (i:=1) rfl) (yN ye (Wl rfl) rfl rfl) rfl) rfl)<|zx<|WD.e<|zu (z:=.int c.e) (za (i:=0) rfl) zb rfl rfl)
theorem rH{f:D->D->Option Bool}:∀xs:List D,(∀x ∈ xs,f x x=some true)->JF f xs xs=some true
 | [],_=>rfl
 |x::r,h=>by
  show((f x x).bind λb=>(JF f r r).bind λc=>some<|b&&c)=_;rw[h x zzF,rH r λy my=>h y<|zzD _ my];rfl
def Nb{k:Nat}(r:List Int):YS (k+2) (zg r) (zg r)=some true:=rH _ λx mx=>by
 obtain⟨i,_,rfl⟩:=zxC.mp mx;show some (i==i)=_;rw[beq_self_eq_true]
def NW{r:List Int}(h:c.Ok)(k:c.In r):RE (vC [(true,c.g),(true,zg r)]) (.int<|c.h r):=by
 by_cases e:r=[]
 . subst e;exact Cp
 . exact Ae h.A.j k e
abbrev MJ(p:Nat)(r:List Int):D:=.tup [.int p,zg r]
def WK.in{w:D}{R:List Int}{p:Nat}(k:WK c w R p):c.In R:=by
 induction k with
 |lf v hv=>exact λx mx=>by rcases zzC.mp mx with rfl|mx;exact hv;exact nomatch mx
 |nd _ _ _ _ i j=>exact NI i j
def WK.ne{w:D}{R:List Int}{p:Nat}(k:WK c w R p):R≠[]:=by
 induction k with
 |lf v hv=>exact List.cons_ne_nil _ _
 |nd _ _ _ _ i j=>exact λz=>i (List.append_eq_nil_iff.mp z).1
theorem NH(h:c.Ok):∀(n:Nat) {w:D}{R:List Int}{p:Nat},WK c w R p->p<n->R.length<=1000->RE (Zc n [(true,c.g),(true,w)]) (MJ p R)
 |0,_,_,_,_,h,_=>absurd h (Nat.not_lt_zero _)
 |n+1,w,R,p,k,hp,hl=>by
  cases k with
  |lf v hv=>
   have t1:WT j6 [sT c.g,sT<|.tup [.int v],none,none,none] false:=
    Ge (k:=false) (YG (k:=true)<|zN (Og (q:=true) (za (i:=1) rfl) rfl) rfl) (λ_=>Ud (k:=false) (zN (Kq (c:=true) (yo (x:=.int 1) (g:=yA) (zc (za (i:=1) rfl) zj) rfl rfl) zb rfl) rfl) (λq=>nomatch q) λ_=>rfl) (λq=>nomatch q)
   exact zM rfl<|zd (zm t1 rfl)<|yd<|yr (zN (Yz (c:=true) (yo (x:=.int 1) (g:=yA) (zc (za (i:=1) rfl) zj) rfl rfl) zb rfl) rfl)<|zx<|xD (WD.e zb)<|yN (os:=[xx v]) (zL (zu (z:=.int v) (za (i:=1) rfl) zb rfl rfl) ye) (Wl rfl) rfl rfl
  | @nd x y r s p q k l b1 b2=>
   have hR:=WK.nd k l b1 b2;rw[zzJ]at hl;have i1:=NH h n k (q0v hp b1 b2) (q0s hl);have i2:=NH h n l (q0t hp b1 b2) (q1a hl);generalize hw:D.tup [.int<|c.h<|r++s,x,y]=w;have w0:∀a b e,WD (f2 zk zW zD) [sT c.g,sT w,a,b,e] true (.int<|c.h<|r++s):=λa b e=>by subst hw;exact zu (za (i:=1) rfl) zb rfl rfl
   have wl:WD (fP yI yA) [sT c.g,sT w,none,none,none] true (.int 3):=by subst hw;exact yo (x:=.int 3) (g:=yA) (zc (za (i:=1) rfl) zj) rfl rfl
   have t1:WT j6 [sT c.g,sT w,none,none,none] false:=
    Ge (k:=false) (YG (k:=true)<|zN (by subst hw;exact Og (q:=true) (za (i:=1) rfl) rfl) rfl) (λ_=>Ud (k:=true) (zN (Kq (c:=false) wl zb rfl) rfl) (λ_=>zN (Kq (c:=true) wl zb rfl) rfl) (λq=>nomatch q)) (λq=>nomatch q)
   have t2:WT (fT<|f2 (fP yI yA) zO<|zw .Eq) [sT c.g,sT w,none,none,none] false:=zN (Yz (c:=false) wl zb rfl) rfl;have s2:=xp (p:=2) (as:=[sT c.g,sT w,none,none,none]) (yy (WD.e<|za (i:=0) rfl) (by subst hw;exact WD.e<|xf (j:=1) (i:=1) rfl rfl) i1)<|zi rfl;have s3:=xp (p:=3) (as:=[sT c.g,sT w,sT<|MJ p r,none,none]) (yy (WD.e<|za (i:=0) rfl) (by subst hw;exact WD.e<|xf (j:=1) (i:=2) rfl rfl) i2)<|zi rfl;have w20:∀z,WD (f2 zG zW zD) [sT c.g,sT w,sT<|MJ p r,sT<|MJ q s,z] true (.int p):=λz=>xf (j:=2) rfl rfl;have w30:∀z,WD (f2 zK zW zD) [sT c.g,sT w,sT<|MJ p r,sT<|MJ q s,z] true (.int q):=λz=>xf (j:=3) rfl rfl;have t4:WT n6 [sT c.g,sT w,sT<|MJ p r,sT<|MJ q s,none] false:=
    Ge (k:=false) (zN (zu (z:=.bl false) (za (i:=2) rfl) zb rfl rfl) rfl) (λ_=>Ge (k:=false) (zN (zu (z:=.bl false) (za (i:=3) rfl) zb rfl rfl) rfl) (λ_=>by
     have:=uh (yo (x:=.int<|if(p:Int)-q<0 then -((p:Int)-q)else(p:Int)-q) (g:=An) (zc (vS (w20 none)<|w30 none) zj) rfl rfl)<|zb (x:=.int 1);rw[zyF<|by split<;>omega]at this;exact zN this rfl) (λq=>nomatch q)) (λq=>nomatch q)
   have w5:WE (f2 (f2 zG zO zD) (f2 zK zO zD) zp) [sT c.g,sT w,sT<|MJ p r,sT<|MJ q s,none] (zg<|r++s):=by
    have:=rS (as:=[sT c.g,sT w,sT<|MJ p r,sT<|MJ q s,none]) (WD.e<|xf (j:=2) (i:=1) (z:=zg r) rfl rfl) (WD.e<|xf (j:=3) (i:=1) (z:=zg s) rfl rfl) (add_lists (xs:=r.map D.int) (ys:=s.map D.int)<|by rw[zzB,zzB];exact Bv<|(q1p hl));rw[<-zyL]at this;exact this
   have s5:=xp (p:=4) w5<|zi rfl;have t6:WT nh [sT c.g,sT w,sT<|MJ p r,sT<|MJ q s,sT<|zg<|r++s] false:=
    zN (Kq (c:=true) (w0 _ _ _) (uf rfl<|yy (WD.e<|za (i:=0) rfl) (WD.e<|za (i:=4) rfl)<|NW h hR.in)<|congrArg some<|beq_self_eq_true<|c.h<|r++s) rfl
   have w7:=zT (as:=[sT c.g,sT w,sT<|MJ p r,sT<|MJ q s,sT<|zg<|r++s]) (zb (x:=.int 1))<|yo (x:=.int<|if(q:Int) > p then(q:Int)else p) (g:=SW) (zc (w20 _)<|zc (w30 _) zj) rfl rfl;rw[show 1+(if(q:Int) > p then(q:Int)else p)=((1+max p q:Nat):Int) by split<;>omega]at w7;exact zM rfl<|zd (zm t1 rfl)<|zd (zm t2 rfl)<|zd s2<|zd s3<|zd (zm t4 rfl)<|zd s5<|zd (zm t6 rfl)<|zx<|xD (WD.e w7)<|WD.e<|za (i:=4) rfl
end
def Lg(p n:Nat):Prop:=n<=2 ^ p/\(p=0\/2 ^ (p-1)<n)
def qI{p q a b:Nat}(ha:1<=a)(h1:a<=b)(h2:b<=a+1)(hp:Lg p a)(hq:Lg q b):p<=q/\q<=p+1/\Lg (1+max p q) (a+b):=by
 obtain⟨p1,p2⟩:=hp;obtain⟨q1,q2⟩:=hq;have e1:p<=q:=by
  rcases p2 with p2|p2
  . omega
  . refine Nat.le_of_not_lt λh=>?_;have:=Nat.pow_le_pow_right (n:=2) (by decide) (show q<=p-1 by omega);omega
 have e2:q<=p+1:=by
  rcases q2 with q2|q2
  . omega
  . refine Nat.le_of_not_lt λh=>?_;have:=Nat.pow_le_pow_right (n:=2) (by decide) (show p+1<=q-1 by omega);rw[Nat.pow_succ]at this;omega
 refine⟨e1,e2, ?_⟩;rw[Nat.max_eq_right e1];refine⟨?_,.inr ?_⟩
 . rw[Nat.add_comm 1 q,Nat.pow_succ];omega
 . rw[show 1+q-1=q by omega]
   rcases q2 with q2|q2
   . subst q2;show 1<a+b;omega
   . obtain⟨r,rfl⟩:∃r,q=r+1:=⟨q-1,by
      have:q≠0:=λz=>by subst z;have:(2:Nat) ^ (0-1)=1:=rfl;have z1:b<=1:=q1;omega
      omega⟩
     rw[Nat.add_sub_cancel]at q2;rw[Nat.pow_succ];omega
section
variable{c:Cx}{x y d:D}{r s R:List Int}{p q:Nat}
theorem L4(h:c.Ok):∀(k:Nat) (r:List Int),1<=r.length->r.length<=2 ^ k->r.length<=1000->c.In r->∀s:Bool,∃d p,RE (xR (k+1) [(true,c.w),(s,zg r)]) d/\TK c d r p/\Lg p r.length
 |k,r,h1,h2,hk,hv,s=>by
  have wl:∀z,WD (fP yI yA) [sT c.w,some<|.lf s<|zg r,z] true (.int r.length):=λz=>by
   have:=yo (as:=[sT c.w,some<|.lf s<|zg r,z]) (g:=yA) (x:=.int ((r.map D.int).length:Nat)) (zc (za (i:=1) (x:=zg r) (s:=s) rfl) zj) rfl rfl;rw[zzB]at this;exact this
  have t0:WT (fT<|f2 (fP yI yA) zW<|zw .Eq) [sT c.w,some<|.lf s<|zg r,none] false:=zN (Yz (c:=false) (wl _) zb (by show some ((r.length:Int)==0)=_;rw[beq_eq_false_iff_ne.mpr<|by omega])) rfl;have t1:WT (fT<|f2 (fP yI yA) zO<|zw .Eq) [sT c.w,some<|.lf s<|zg r,none] (decide (r.length=1)):=zN (Yz (c:=decide (r.length=1)) (wl _) zb (by
   show some ((r.length:Int)==1)=_
   by_cases h:r.length=1
   . rw[h];rfl
   . rw[beq_eq_false_iff_ne.mpr (by omega),zyF h])) rfl
  by_cases hr:r.length=1
  . rw[zyN hr]at t1
    match r,hr with
    | [v],_=>
     exact⟨_,0,zM rfl<|zd (zm t0 rfl)<|yd<|yr t1<|zx<|wX (WD.e<|zu (z:=.int v) (za (i:=1) rfl) zb rfl rfl) Sm,.lf v false<|hv v zzF,⟨zzN _,.inl rfl⟩⟩
  . rw[zyF hr]at t1;cases k with
    |zero=>exact absurd (show r.length<=1 from h2) (by omega)
    |succ k=>
     rw[Nat.pow_succ]at h2;have s3:zr true 2 (f2 (fP yI yA) y8 yh) [sT c.w,some<|.lf s<|zg r,none]=some (.nx [sT c.w,some<|.lf s<|zg r,sI ((r.length/2:Nat):Int)]):=zV (i:=2) (WZ (wl none) (zb (x:=.int 2)) (by decide)<|yF (by decide)<|by decide)<|zi rfl;have l1:(r.take<|r.length/2).length=r.length/2:=by rw[zzS];omega
     have l2:(r.drop<|r.length/2).length=r.length-r.length/2:=List.length_drop;obtain⟨x,p,a1,a2,a3⟩:=L4 h k (r.take<|r.length/2) (by omega) (by omega) (by omega) (λv mv=>hv v<|List.mem_of_mem_take mv) true;obtain⟨y,q,b1,b2,b3⟩:=L4 h k (r.drop<|r.length/2) (by omega) (by omega) (by omega) (λv mv=>hv v<|List.mem_of_mem_drop mv) true;rw[l1]at a3;rw[l2]at b3;obtain⟨q1,q2,q3⟩:=qI (by omega) (by omega) (by omega) a3 b3;obtain⟨d,d1,d2⟩:=wC h a2 b2 (by omega) (by omega);have sp:(r.map D.int)=(r.take<|r.length/2).map D.int++(r.drop<|r.length/2).map D.int:=by rw[<-zyL,List.take_append_drop]
     have c1:=Ot (xs:=(r.take<|r.length/2).map D.int) (ys:=(r.drop<|r.length/2).map D.int);have c2:=Te (xs:=(r.take<|r.length/2).map D.int) (ys:=(r.drop<|r.length/2).map D.int);rw[<-sp,zzB,l1]at c1 c2;have w1:WE (ZY zk oN (oS zG) XU) [sT c.w,some<|.lf s<|zg r,sI ((r.length/2:Nat):Int)] (zg<|r.take<|r.length/2):=Uv (za (i:=1) rfl) rfl rfl c1;have w2:WE (ZY zk (oS zG) oN XU) [sT c.w,some<|.lf s<|zg r,sI ((r.length/2:Nat):Int)] (zg<|r.drop<|r.length/2):=Uv (za (i:=1) rfl) rfl rfl c2;have wy:WE zh [sT c.w,some<|.lf s<|zg r,sI ((r.length/2:Nat):Int)] c.w:=WD.e<|za (i:=0) rfl;rw[List.take_append_drop]at d2;exact⟨d,_,zM rfl<|zd (zm t0 rfl)<|zd (zm t1 rfl)<|zd s3<|zx<|z9 wy (yy wy w1 a1) (yy wy w2 b1) d1,d2,by rw[show r.length/2+(r.length-r.length/2)=r.length by omega]at q3;exact q3⟩
def Ic(h:c.Ok)(hl:r.length<=1000)(hv:c.In r)(s:Bool):∃d,RE (xR 20 [(true,c.w),(s,zg r)]) d/\OT c d r:=by
 by_cases e:r=[]
 . subst e;exact⟨.non,zM rfl<|yd<|yr (zN (Yz (c:=true) (yo (x:=.int 0) (g:=yA) (zc (za (i:=1) rfl) zj) rfl rfl) zb rfl) rfl)<|zx<|WD.e zb,.n⟩
 . obtain⟨d,p,a,b,_⟩:=L4 h 19 r (List.length_pos_iff.mpr e) (zzO hl<|by decide) hl hv s;exact⟨d,a,b.o⟩
def ki{a b:EF}{as:AS}(k:TK c x r p)(l:TK c y s q)(ha:WD a as true x)(hb:WD b as true y):WT (fT<|f2 (f1 a<|zP yO "deep") (f2 (f1 b<|zP yO "deep") zO zp)<|zw .Gt) as (decide (q+1<p)):=by
 have:=zN (uh (k.deep ha)<|zT (l.deep hb)<|zb (x:=.int 1)) rfl;rw[show decide ((q:Int)+1<p)=decide (q+1<p)from decide_eq_decide.mpr<|by omega]at this;exact this
def iS{a b:EF}{as:AS}(k:TK c x r p)(l:TK c y s q)(ha:WD a as true x)(hb:WD b as true y):WT (fT<|f2 (f1 a<|zP yO "deep") (f1 b<|zP yO "deep")<|zw .GtE) as (decide (q<=p)):=by
 have:=zN (nS (k.deep ha)<|l.deep hb) rfl;rw[show decide ((q:Int)<=p)=decide (q<=p)from decide_eq_decide.mpr<|by omega]at this;exact this
def JK(h:c.Ok)(k:TK c x r p)(l:TK c y s q)(e:p=q+2):∃d u,RE (YE [(true,c.w),(true,x),(true,y)]) d/\TK c d (r++s) u/\p<=u/\u<=p+1:=by
 obtain⟨x1,x2,r1,r2,p1,p2,k0,k1,k2,k3,k4,k5,rfl⟩:=Zp h k (q1f e);have wy:∀a b,WE zh [sT c.w,sT x,sT y,a,b] c.w:=λ_ _=>WD.e<|za (i:=0) rfl;have v2:∀a b,WE zG [sT c.w,sT x,sT y,a,b] y:=λ_ _=>WD.e<|za (i:=2) rfl;have s3:=xp (p:=3) (yy (wy none none) (WD.e<|za (i:=1) rfl) k0)<|zi rfl;have u0:∀b,WD (f2 zK zW zD) [sT c.w,sT x,sT y,sT<|.tup [x1,x2],b] true x1:=λ_=>xf (j:=3) rfl rfl;have u1:∀b,WD (f2 zK zO zD) [sT c.w,sT x,sT y,sT<|.tup [x1,x2],b] true x2:=λ_=>xf (j:=3) rfl rfl;have t:=iS k1 k2 (u0 none)<|u1 none
 by_cases g:p2<=p1
 . rw[zyN g]at t;obtain⟨d1,a1,a2⟩:=wC h k2 l (by omega) (by omega);obtain⟨d2,b1,b2⟩:=wC h k1 a2 (by omega) (by omega);rw[<-zxB]at b2;exact⟨d2,_,zM rfl<|zd s3<|yd<|yr t<|zx<|z9 (wy _ _) (WD.e<|u0 _) (z9 (wy _ _) (WD.e<|u1 _) (v2 _ _) a1) b1,b2,by omega,by omega⟩
 . rw[zyF g]at t;obtain⟨z1,z2,s1,s2,q1,q2,l0,l1,l2,l3,l4,l5,rfl⟩:=Zp h k2 (q1z k4 k3 g);obtain⟨d1,a1,a2⟩:=wC h k1 l1 (by omega) (by omega);obtain⟨d2,b1,b2⟩:=wC h l2 l (by omega) (by omega);obtain⟨d3,c1,c2⟩:=wC h a2 b2 (by omega) (by omega);have s4:=xp (p:=4) (yy (wy _ _) (WD.e<|u1 none) l0)<|zi rfl;rw[show r1++s1++(s2++s)=r1++(s1++s2)++s by simp only[zxB]]at c2;exact⟨d3,_,zM rfl<|zd s3<|zd (zm t rfl)<|zd s4<|zx<|z9 (wy _ _) (z9 (wy _ _) (WD.e<|u0 _) (WD.e<|xf (j:=4) rfl rfl) a1) (z9 (wy _ _) (WD.e<|xf (j:=4) rfl rfl) (v2 _ _) b1) c1,c2,by omega,by omega⟩
def CM(h:c.Ok)(k:TK c x r p)(l:TK c y s q)(e:q=p+2):∃d u,RE (Yo [(true,c.w),(true,x),(true,y)]) d/\TK c d (r++s) u/\q<=u/\u<=q+1:=by
 obtain⟨x1,x2,r1,r2,p1,p2,k0,k1,k2,k3,k4,k5,rfl⟩:=Zp h l (q1f e);have wy:∀a b,WE zh [sT c.w,sT x,sT y,a,b] c.w:=λ_ _=>WD.e<|za (i:=0) rfl;have v1:∀a b,WE zk [sT c.w,sT x,sT y,a,b] x:=λ_ _=>WD.e<|za (i:=1) rfl;have s3:=xp (p:=3) (yy (wy none none) (WD.e<|za (i:=2) rfl) k0)<|zi rfl;have u0:∀b,WD (f2 zK zW zD) [sT c.w,sT x,sT y,sT<|.tup [x1,x2],b] true x1:=λ_=>xf (j:=3) rfl rfl;have u1:∀b,WD (f2 zK zO zD) [sT c.w,sT x,sT y,sT<|.tup [x1,x2],b] true x2:=λ_=>xf (j:=3) rfl rfl;have t:=iS k2 k1 (u1 none)<|u0 none
 by_cases g:p1<=p2
 . rw[zyN g]at t;obtain⟨d1,a1,a2⟩:=wC h k k1 (by omega) (by omega);obtain⟨d2,b1,b2⟩:=wC h a2 k2 (by omega) (by omega);rw[zxB]at b2;exact⟨d2,_,zM rfl<|zd s3<|yd<|yr t<|zx<|z9 (wy _ _) (z9 (wy _ _) (v1 _ _) (WD.e<|u0 _) a1) (WD.e<|u1 _) b1,b2,by omega,by omega⟩
 . rw[zyF g]at t;obtain⟨z1,z2,s1,s2,q1,q2,l0,l1,l2,l3,l4,l5,rfl⟩:=Zp h k1 (q1z k3 k4 g);obtain⟨d1,a1,a2⟩:=wC h k l1 (by omega) (by omega);obtain⟨d2,b1,b2⟩:=wC h l2 k2 (by omega) (by omega);obtain⟨d3,c1,c2⟩:=wC h a2 b2 (by omega) (by omega);have s4:=xp (p:=4) (yy (wy _ _) (WD.e<|u0 none) l0)<|zi rfl;rw[show r++s1++(s2++r2)=r++(s1++s2++r2) by simp only[zxB]]at c2;exact⟨d3,_,zM rfl<|zd s3<|zd (zm t rfl)<|zd s4<|zx<|z9 (wy _ _) (z9 (wy _ _) (v1 _ _) (WD.e<|xf (j:=4) rfl rfl) a1) (z9 (wy _ _) (WD.e<|xf (j:=4) rfl rfl) (WD.e<|u1 _) b1) c1,c2,by omega,by omega⟩
def B5(h:c.Ok)(k:TK c x r p)(l:TK c y s q)(h1:p<=q+2)(h2:q<=p+2):∃d u,RE (Qm [(true,c.w),(true,x),(true,y)]) d/\TK c d (r++s) u/\max p q<=u/\u<=1+max p q/\(p<=q+1->q<=p+1->u=1+max p q):=by
 have v1:WD zk [sT c.w,sT x,sT y] true x:=za (i:=1) rfl;have v2:WD zG [sT c.w,sT x,sT y] true y:=za (i:=2) rfl;have wy:WE zh [sT c.w,sT x,sT y] c.w:=WD.e<|za (i:=0) rfl;have t1:=ki k l v1 v2;have t2:=ki l k v2 v1
 by_cases g:q+1<p
 . rw[zyN g]at t1;obtain⟨d,u,a,b,b1,b2⟩:=JK h k l (by omega);exact⟨d,u,zM rfl<|yd<|yr t1<|zx<|z9 wy (WD.e v1) (WD.e v2) a,b,by omega,by omega,by omega⟩
 . rw[zyF g]at t1
   by_cases g2:p+1<q
   . rw[zyN g2]at t2;obtain⟨d,u,a,b,b1,b2⟩:=CM h k l (by omega);exact⟨d,u,zM rfl<|zd (zm t1 rfl)<|yd<|yr t2<|zx<|z9 wy (WD.e v1) (WD.e v2) a,b,by omega,by omega,by omega⟩
   . rw[zyF g2]at t2;obtain⟨d,a,b⟩:=wC h k l (q1B h1 h2 g2 g) (q1B h2 h1 g g2);exact⟨d,_,zM rfl<|zd (zm t1 rfl)<|zd (zm t2 rfl)<|zx<|z9 wy (WD.e v1) (WD.e v2) a,b,q1e,q1i,λ_ _=>rfl⟩
theorem Bb(h:c.Ok):∀(n:Nat) {x y:D}{r s:List Int}{p q:Nat},TK c x r p->TK c y s q->p<n->q<n->∃d u,RE (yg n [(true,c.w),(true,x),(true,y)]) d/\TK c d (r++s) u/\max p q<=u/\u<=1+max p q
 |0,_,_,_,_,_,_,_,_,h,_=>absurd h (Nat.not_lt_zero _)
 |n+1,x,y,r,s,p,q,k,l,hp,hq=>by
  have v1:∀a,WD zk [sT c.w,sT x,sT y,a] true x:=λ_=>za (i:=1) rfl;have v2:∀a,WD zG [sT c.w,sT x,sT y,a] true y:=λ_=>za (i:=2) rfl;have wy:∀a,WE zh [sT c.w,sT x,sT y,a] c.w:=λ_=>WD.e<|za (i:=0) rfl;have t1:=ki k l (v1 none)<|v2 none;have t2:=ki l k (v2 none)<|v1 none;have n1:=k.isN<|v1 none;have n2:=l.isN<|v2 none
  by_cases g:q+1<p
  . rw[zyN g]at t1;obtain⟨x1,x2,r1,r2,p1,p2,k0,k1,k2,k3,k4,k5,rfl⟩:=Zp h k (q0X g);obtain⟨d,u,a1,a2,a3,a4⟩:=Bb h n k2 l (by omega) (q1v g hq hp k5);obtain⟨d',u',b1,b2,b3,b4,b5⟩:=B5 h k1 a2 (by omega) (by omega);have s3:=xp (p:=3) (yy (wy none) (WD.e<|v1 _) k0)<|zi rfl;rw[<-zxB]at b2;exact⟨d',u',zM rfl<|zd (zm n1 rfl)<|zd (zm n2 rfl)<|yd<|yr t1<|zd s3<|zx<|z9 (wy _) (WD.e<|xf (j:=3) rfl rfl) (z9 (wy _) (WD.e<|xf (j:=3) rfl rfl) (WD.e<|v2 _) a1) b1,b2,by omega,by omega⟩
  . rw[zyF g]at t1
    by_cases g2:p+1<q
    . rw[zyN g2]at t2;obtain⟨x1,x2,r1,r2,p1,p2,k0,k1,k2,k3,k4,k5,rfl⟩:=Zp h l (q0X g2);obtain⟨d,u,a1,a2,a3,a4⟩:=Bb h n k k1 (q1v g2 hp hq k5) (by omega);obtain⟨d',u',b1,b2,b3,b4,b5⟩:=B5 h a2 k2 (by omega) (by omega);have s3:=xp (p:=3) (yy (wy none) (WD.e<|v2 _) k0)<|zi rfl;rw[zxB]at b2;exact⟨d',u',zM rfl<|zd (zm n1 rfl)<|zd (zm n2 rfl)<|zd (zm t1 rfl)<|yd<|yr t2<|zd s3<|zx<|z9 (wy _) (z9 (wy _) (WD.e<|v1 _) (WD.e<|xf (j:=3) rfl rfl) a1) (WD.e<|xf (j:=3) rfl rfl) b1,b2,by omega,by omega⟩
    . rw[zyF g2]at t2;obtain⟨d,a,b⟩:=wC h k l (q1s g2 g) (q1s g g2);exact⟨d,_,zM rfl<|zd (zm n1 rfl)<|zd (zm n2 rfl)<|zd (zm t1 rfl)<|zd (zm t2 rfl)<|zx<|z9 (wy _) (WD.e<|v1 _) (WD.e<|v2 _) a,b,q1e,q1i⟩
def ME(h:c.Ok)(k:OT c x r)(l:OT c y s)(h1:r.length<=1000)(h2:s.length<=1000):∃d,RE (yg 20 [(true,c.w),(true,x),(true,y)]) d/\OT c d (r++s):=by
 have wN:WT (fT<|f2 zk (fC .non)<|zw .Is) [sT c.w,sT .non,sT y,none] true:=zN (zu (za (i:=1) rfl) zb rfl rfl) rfl
 rcases k with⟨rfl,rfl⟩|⟨p,k⟩
 . exact⟨y,zM rfl<|yd<|yr wN<|zx<|WD.e<|za (i:=2) rfl,l⟩
 rcases l with⟨rfl,rfl⟩|⟨q,l⟩
 . refine⟨x,zM rfl<|zd (zm (k.isN<|za (i:=1) rfl) rfl)<|yd<|yr (zN (zu (za (i:=2) rfl) zb rfl rfl) rfl)<|zx<|WD.e<|za (i:=1) rfl, ?_⟩;rw[zyD];exact k.o
 . obtain⟨d,u,a,b,_⟩:=Bb h 20 k l (k.lt h1)<|l.lt h2;exact⟨d,a,b.o⟩
end
def Dv{k:Int}(k0:0<=k)(k1:k<=300):(0:Int)<2*2 ^ (8*k).toNat/\(2*2 ^ (8*k).toNat:Int).natAbs<big:=by
 have p:(0:Int)<2 ^ (8*k).toNat:=Int.pow_pos (by decide);refine⟨by omega, ?_⟩;have e:(2*2 ^ (8*k).toNat:Int).natAbs=2 ^ ((8*k).toNat+1):=by
  rw[Int.natAbs_mul,Int.natAbs_pow,Nat.pow_succ,Nat.mul_comm];rfl
 rw[e];unfold big;exact Nat.pow_lt_pow_right (by decide) (by omega)
def mx(c k:Int):Int:=if c%2=0 then c/(2*2 ^ (8*k).toNat)else
 let x:=(c%2147483647+69621*k+7919)*48271%2147483647;let y:=x*x%2147483629
 (y*y+16807*k)%2147483587
def Gq{c k:Int}{s t:Bool}(k0:0<=k)(k1:k<=300):zo [(s,.int c),(t,.int k)]=sI (mx c k):=by
 have b8:(8:Int).natAbs<big:=yF (by decide) (by decide);have bk:k.natAbs<big:=yF (by omega) (by omega);have t0:WT (fT<|f2 (f2 zh y8 zy) zW<|zw .Eq) [some<|.lf s<|.int c,some<|.lf t<|.int k,none] (c%2==0):=zN (Yz (c:=c%2==0) (yc (za (i:=0) rfl) zb<|by decide) zb rfl) rfl
 by_cases h:c%2=0
 . rw[show(c%2==0)=true by simp[h]]at t0;obtain⟨p0,p1⟩:=Dv k0 k1;have w:=zu (as:=[some<|.lf s<|.int c,some<|.lf t<|.int k,none]) (g:=tP) (z:=.int<|2*2 ^ (8*k).toNat) (zb (x:=.int 2)) (YJ (zb (x:=.int 8)) (za (i:=1) (x:=.int k) (s:=t) rfl) b8 bk) (by
    show(if(0:Int)<=8*k/\8*k<=1000000/\(2:Int).natAbs<2 ^ 64 then _ else _)=_;rw[if_pos ⟨by omega,by omega,by decide⟩]) rfl
   unfold mx;rw[if_pos h];exact wQ rfl<|ZS<|wR t0<|xt<|WZ (za (i:=0) rfl) w p0 p1
 . rw[show(c%2==0)=false by simp[h]]at t0;unfold mx;rw[if_neg h];have c0:=zyM c (show(2147483647:Int)≠0 by decide);have c1:=zyG c (show(0:Int)<2147483647 by decide);have w1:=yc (as:=[some<|.lf s<|.int c,some<|.lf t<|.int k,none]) (YJ (zT (zT (yc (za (i:=0) (x:=.int c) (s:=s) rfl) (zb (x:=.int 2147483647))<|by decide)<|YJ (zb (x:=.int 69621)) (za (i:=1) (x:=.int k) (s:=t) rfl) (yF (by decide)<|by decide) bk)<|zb (x:=.int 7919)) (zb (x:=.int 48271)) (yF (by omega)<|by omega)<|yF (by decide)<|by decide) (zb (x:=.int 2147483647)) (by decide);have u0:=zyM ((c%2147483647+69621*k+7919)*48271) (show(2147483647:Int)≠0 by decide);have u1:=zyG ((c%2147483647+69621*k+7919)*48271) (show(0:Int)<2147483647 by decide);generalize (c%2147483647+69621*k+7919)*48271%2147483647=x at w1 u0 u1;have w2:=yc (as:=[some<|.lf s<|.int c,some<|.lf t<|.int k,sI x]) (YJ (za (i:=2) (x:=.int x) (s:=true) rfl) (za (i:=2) (x:=.int x) (s:=true) rfl) (yF (q1E u0 u1)<|(q1G u0 u1))<|yF (q1E u0 u1)<|(q1G u0 u1)) (zb (x:=.int 2147483629)) (by decide);have v0:=zyM (x*x) (show(2147483629:Int)≠0 by decide);have v1:=zyG (x*x) (show(0:Int)<2147483629 by decide);show _=sI ((x*x%2147483629*(x*x%2147483629)+16807*k)%2147483587);generalize x*x%2147483629=y at w2 v0 v1;have w3:=yc (as:=[some<|.lf s<|.int c,some<|.lf t<|.int k,sI y]) (zT (YJ (za (i:=2) (x:=.int y) (s:=true) rfl) (za (i:=2) (x:=.int y) (s:=true) rfl) (yF (q1A v0 v1)<|(q1F v0 v1))<|yF (q1A v0 v1)<|(q1F v0 v1))<|YJ (zb (x:=.int 16807)) (za (i:=1) (x:=.int k) (s:=t) rfl) (yF (by decide)<|by decide) bk) (zb (x:=.int 2147483587)) (by decide);exact wQ rfl<|zt (zm t0 rfl)<|zt (zV (i:=2) w1<|zi rfl)<|zt (zV (i:=2) w2<|zi rfl)<|xt w3
def rA{n:Nat}(hn:1<=n)(x:Int):zJ n (x%n):=Uo hn
def DX{ns:List Int}{k:Int}{s t:Bool}(hk:0<=k):∃x,xo [(s,.lst<|ns.map .int),(t,.int k)]=sT (.int x):=by
 by_cases h:k<((ns.map D.int).length:Int)
 . obtain⟨x,hx⟩:=Ar (ns:=ns) hk (by rw[zzB]at h;exact h);exact⟨x,wQ rfl<|ZS<|wR (zN (Bp (za rfl)<|yo (zc (za rfl) zj) rfl rfl)<|congrArg some<|zyN h)<|xt<|zu (za rfl) (za rfl) hx rfl⟩
 . exact⟨0,wQ rfl<|zt (zm (zN (Bp (za rfl)<|yo (zc (za rfl) zj) rfl rfl)<|congrArg some<|zyF h) rfl)<|xt zb⟩
def Dd{α:Type}(f:α->D)(l:List α)(lo hi:Option Int):∃l':List α,l'.length<=l.length/\PF.cutD (l.map f) lo hi=l'.map f:=by
 unfold PF.cutD;rw[zzB,<-List.map_drop,<-List.map_take];exact⟨_,by rw[zzS,List.length_drop];exact q0k,rfl⟩
def OB{f:EF}{as:AS}{k:Int}(h:WD f as true (.int k)):oS f as=some (some k,as):=by
 unfold oS;unfold WD at h;rw[h];rfl
def kU{a b:EF}{as:AS}{s:Bool}{r:List Int}{k:Nat}(ha:WD a as s (zg r))(hb:WD b as true (.int k))(hk:k<=r.length):WE (ZY a oN (oS b) XU) as (zg<|r.take k):=by
 have c1:=Ot (xs:=(r.take k).map D.int) (ys:=(r.drop k).map D.int);rw[<-zyL,List.take_append_drop,zzB,zzS,Nat.min_eq_left hk]at c1;exact Uv ha rfl (OB hb) c1
def E9{a b:EF}{as:AS}{s:Bool}{r:List Int}{k:Nat}(ha:WD a as s (zg r))(hb:WD b as true (.int k))(hk:k<=r.length):WE (ZY a (oS b) oN XU) as (zg<|r.drop k):=by
 have c1:=Te (xs:=(r.take k).map D.int) (ys:=(r.drop k).map D.int);rw[<-zyL,List.take_append_drop,zzB,zzS,Nat.min_eq_left hk]at c1;exact Uv ha (OB hb) rfl c1
def YI{a b:EF}{as:AS}{r s:List Int}(ha:WE a as (zg r))(hb:WE b as (zg s))(hl:r.length+s.length<=1000):WE (f2 a b zp) as (zg<|r++s):=by
 have:=rS ha hb (add_lists (xs:=r.map D.int) (ys:=s.map D.int)<|by rw[zzB,zzB];exact Bv<|(q1p hl));rw[<-zyL]at this;exact this
def CZ{a:EF}{as:AS}{s:Bool}{r:List Int}(ha:WD a as s (zg r)):WD (fP (aC a aN) yA) as true (.int r.length):=by
 have:=yo (g:=yA) (x:=.int ((r.map D.int).length:Nat)) (zc ha zj) rfl rfl;rw[zzB]at this;exact this
def o5(ns:List Int){k:Int}(hk:0<=k):∃x,∀as:AS,as[0]? = some (sT<|.lst<|ns.map .int)->WD (ze (aC zh<|aC (fC<|.int k) aN) xo) as true (.int x):=by
 obtain⟨x,e⟩:=DX (ns:=ns) (s:=true) (t:=true) hk;exact⟨x,λas h=>vM (zc (za h)<|zc zb zj) e⟩
def eqT{a b:EF}{as:AS}{x y:Int}{s t q:Bool}(ha:WD a as s (.int x))(hb:WD b as t (.int y))(e:(x==y)=q):WT (fT<|f2 a b<|zw .Eq) as q:=zN (Yz (c:=q) ha hb<|congrArg some e) rfl
def KT(k:Int)(n:Nat):Prop:=(k=0/\2<=n)\/(k=1/\2<=n)\/(k=2/\2<=n)\/(k=3/\n=4)\/(k=4/\n=6)
def jT(k:Int)(n:Nat):Int->Int->Int:=if k=4 then jB 3 (jS 2) jL else jK k n
def eT(k:Int):Int:=if k=3 then 1 else 0
def f6{P:Int->Prop}(h:∀a ∈ ([0,1,2,3,4,5]:List Int),P a){a:Int}(ha:zJ 6 a):P a:=by
 obtain⟨h0,h1⟩:=ha;have:a=0\/a=1\/a=2\/a=3\/a=4\/a=5:=by omega
 rcases this with rfl|rfl|rfl|rfl|rfl|rfl
 . exact h 0 (by decide)
 . exact h 1 (by decide)
 . exact h 2 (by decide)
 . exact h 3 (by decide)
 . exact h 4 (by decide)
 . exact h 5 (by decide)
def Av{k:Int}{n:Nat}(h:KT k n):LJ n (jT k n) (eT k):=by
 rcases h with⟨rfl,h⟩|⟨rfl,h⟩|⟨rfl,h⟩|⟨rfl,rfl⟩|⟨rfl,rfl⟩
 . exact km (q0z h)
 . exact gB (q0z h)
 . exact j7 (q0z h)
 . exact jJ
 . have:=gM (n1:=2) (n2:=3) (km (n:=2)<|by decide) (j7 (n:=3)<|by decide) (by decide);exact this
def qA{k:Int}{n:Nat}{a b:Int}(h:KT k n)(ha:zJ n a)(hb:zJ n b):wJ [(true,.int k),(true,.int n),(true,.int a),(true,.int b)]=sI (jT k n a b):=by
 rcases h with⟨rfl,hn⟩|⟨rfl,hn⟩|⟨rfl,hn⟩|⟨rfl,rfl⟩|⟨rfl,rfl⟩
 . exact wQ rfl (ZS<|wR (eqT (za (i:=0) rfl) zb rfl)<|xt<|yc (zT (za (i:=2) rfl)<|za (i:=3) rfl) (za (i:=1) rfl)<|(q1C hn))
 . exact wQ rfl<|zt (zm (eqT (za (i:=0) rfl) zb rfl) rfl)<|ZS<|wR (eqT (za (i:=0) rfl) zb rfl)<|xt<|yo (zc (za (i:=2) rfl)<|zc (za (i:=3) rfl) zj) rfl rfl
 . exact wQ rfl<|zt (zm (eqT (za (i:=0) rfl) zb rfl) rfl)<|zt (zm (eqT (za (i:=0) rfl) zb rfl) rfl)<|ZS<|wR (eqT (za (i:=0) rfl) zb rfl)<|xt<|Ba (yN (os:=[xx b,xx a]) (zL (za (i:=3) rfl)<|zL (za (i:=2) rfl) ye) (Wl rfl) rfl rfl) (WD.e<|yo (zc (Yz (za (i:=3) rfl) zb rfl) zj) rfl rfl)<|Sb.trans (by show _=some (R0.im<|.int<|jL a b);unfold jL;by_cases h:b=0<;>simp[h])
 . have P:∀a ∈ ([0,1,2,3]:List Int),∀b ∈ ([0,1,2,3]:List Int),wJ [(true,.int 3),(true,.int (4:Nat)),(true,.int a),(true,.int b)]=sI (jT 3 4 a b):=by
    intro a ma b mb;simp only[zzC,zxA,or_false]at ma mb
    rcases ma with rfl|rfl|rfl|rfl<;>rcases mb with rfl|rfl|rfl|rfl<;>rfl
   exact f4 (P:=λa=>wJ [(true,.int 3),(true,.int (4:Nat)),(true,.int a),(true,.int b)]=sI (jT 3 4 a b)) (λa m=>f4 (P:=λb=>wJ [(true,.int 3),(true,.int (4:Nat)),(true,.int a),(true,.int b)]=sI (jT 3 4 a b)) (P a m) hb) ha
 . have P:∀a ∈ ([0,1,2,3,4,5]:List Int),∀b ∈ ([0,1,2,3,4,5]:List Int),wJ [(true,.int 4),(true,.int (6:Nat)),(true,.int a),(true,.int b)]=sI (jT 4 6 a b):=by
    intro a ma b mb;simp only[zzC,zxA,or_false]at ma mb
    rcases ma with rfl|rfl|rfl|rfl|rfl|rfl<;>rcases mb with rfl|rfl|rfl|rfl|rfl|rfl<;>rfl
   exact f6 (P:=λa=>wJ [(true,.int 4),(true,.int (6:Nat)),(true,.int a),(true,.int b)]=sI (jT 4 6 a b)) (λa m=>f6 (P:=λb=>wJ [(true,.int 4),(true,.int (6:Nat)),(true,.int a),(true,.int b)]=sI (jT 4 6 a b)) (P a m) hb) ha
def KM(k:Int)(n m:Nat):Prop:=1<=m/\m<=6/\(k=0->m=n)/\(k=4->m=2)
def Jy(cell:Int)(n:Nat)(a:Int):Int:=if a=0 then 0 else 1+mx cell (42+a)%((n:Int)-1)
def On{cell:Int}{n:Nat}(hn:2<=n)(a:Int):zJ n (Jy cell n a)/\(a≠0->Jy cell n a≠0):=by
 have h0:=zyM (mx cell<|42+a) (show((n:Int)-1)≠0 by omega);have h1:=zyG (mx cell<|42+a) (show(0:Int)<(n:Int)-1 by omega);unfold Jy
 by_cases h:a=0
 . rw[if_pos h];exact⟨⟨by omega,q1C hn⟩,λz=>absurd h z⟩
 . rw[if_neg h];exact⟨⟨by omega,by omega⟩,λ_=>by omega⟩
def iz{cell:Int}{n m:Nat}(hn:2<=n):LD n m jL 0 (λ_ a=>Jy cell n a):=gC (if_pos rfl) (λa _=>(On hn a).1) λa _ h=>(On hn a).2 h
def iD{n:Nat}{x y:Int}(hn:1<=n):LD n n (jS n) 0 (λc a=>(x*a+y*c)%n):=
 LD.congr (j:=jS n) (q0g hn) (km<|(q0g hn)) (gj (n:=n) (m:=n) (g:=(n:Int)) (x0:=x) (x1:=y) (q0g hn) (q0g hn) (q0e hn) (Int.dvd_refl _)<|Int.dvd_refl _) (λ_ _ _ _=>rfl) λc a _ _=>by
  rw[Int.ediv_self (by omega),Int.mul_one,Int.mul_comm x,Int.mul_comm y]
def FR{a:Int}{n:Nat}(h:zJ n a)(hn:n<=8):a.natAbs<2 ^ 64:=by
 obtain⟨h0,h1⟩:=h;have:a.natAbs<8:=by omega
 exact zzK this (by decide)
abbrev O8(k:Int)(n:Nat)(cell c a x y:Int)(z:Option O):AS:=[sI k,sI n,sI cell,sI c,sI a,sI x,sI y,z]
def Qs{k:Int}{n:Nat}{cell c a v:Int}(h:∀x y,x=mx cell 40->y=mx cell 41->Rt ((zl oE
 (zl (xg (fT<|f2 zh zO<|zw .Eq) (zl lL
 (zv<|f2 (f2 (yJ<|dC zW dN) Z_ zp) zX zD)) xj)
 (zl oK
 (zl lb
 (zv<|f2 (f2 wG qp yi) jj zp)))))<|O8 k n cell c a x y none) (.int v)):RE (Y3 [(true,.int k),(true,.int n),(true,.int cell),(true,.int c),(true,.int a)]) (.int v):=by
 have s5:zr true 5 (ze (aC zG<|aC (fC<|.int 40) aN) zo) [sI k,sI n,sI cell,sI c,sI a,none,none,none]=some (.nx [sI k,sI n,sI cell,sI c,sI a,sI<|mx cell 40,none,none]):=zV (i:=5) (vM (zc (za (i:=2) rfl)<|zc zb zj)<|Gq (by decide)<|by decide)<|zi rfl;have s6:zr true 6 (ze (aC zG<|aC (fC<|.int 41) aN) zo) [sI k,sI n,sI cell,sI c,sI a,sI<|mx cell 40,none,none]=some (.nx<|O8 k n cell c a (mx cell 40) (mx cell 41) none):=zV (i:=6) (vM (zc (za (i:=2) rfl)<|zc zb zj)<|Gq (by decide)<|by decide)<|zi rfl;exact zM rfl<|zd s5<|zd s6<|h _ _ rfl rfl
def XS{as:AS}{f g:EF}{c k:Int}{s t:Bool}(hf:WD f as s (.int c))(hg:WD g as t (.int k))(k0:0<=k)(k1:k<=300):WD (ze (aC f<|aC g aN) zo) as true (.int<|mx c k):=vM (zc hf<|zc hg zj)<|Gq k0 k1
def rk{k:Int}{n m:Nat}(cell:Int)(h:KT k n)(n8:n<=8)(hm:KM k n m):∃d:Int->Int->Int,LD n m (jT k n) (eT k) d/\∀c a,zJ m c->zJ n a->RE (Y3 [(true,.int k),(true,.int n),(true,.int cell),(true,.int c),(true,.int a)]) (.int<|d c a):=by
 obtain⟨m1,m6,hm0,hm4⟩:=hm
 rcases h with⟨rfl,hn⟩|⟨rfl,hn⟩|⟨rfl,hn⟩|⟨rfl,rfl⟩|⟨rfl,rfl⟩
 . have e:=hm0 rfl;subst e;refine⟨λc a=>(mx cell 40*a+mx cell 41*c)%m,iD (by omega),λc a hc ha=>Qs λx y hx hy=>?_⟩;subst hx hy;exact yd (yr (eqT (za (i:=0) rfl) zb rfl)<|zx<|WD.e<|yc (zT (Vc (za (i:=5) rfl) (za (i:=4) rfl)<|FR ha n8)<|Vc (za (i:=6) rfl) (za (i:=3) rfl)<|FR hc n8) (za (i:=1) rfl)<|by omega)
 . -- a rising row
   let ys:List Int:=(List.range<|n-1).map λi:Nat=>mx cell (42+(i:Int))%n;have ly:ys.length=n-1:=by rw[zzB,zyT]
   have iy:∀y ∈ ys,zJ n y:=λy my=>by
    obtain⟨i,_,rfl⟩:=zxC.mp my;exact Uo (by omega)
   have hp:=sortI_perm ys;have hlen:(sortI ys).length=n-1:=by rw[hp.length_eq,ly]
   have hr:Row n (0::sortI ys):=⟨by rw[zzT,hlen];omega,λy m=>by
    rcases zzC.mp m with rfl|m
    . omega
    . exact iy y<|hp.mem_iff.mp m⟩
   refine⟨λ_ a=>wO (0::sortI ys) a,hU (by omega) rfl (λa ha=>(rowAt hr ha).2) λa b ha hb hab=>?_,λc a hc ha=>Qs λx y hx hy=>?_⟩
   . by_cases he:a=b
     . rw[he];exact Int.le_refl _
     have a0:=ha.1;have b1:=hb.2;have hs:(0::sortI ys).Pairwise (· <= ·):=List.pairwise_cons.mpr ⟨λy m=>(iy y<|hp.mem_iff.mp m).1,Y_ ys⟩;rw[ZN (by rw[hr.1];omega),ZN<|by rw[hr.1];omega];exact He hs (by omega) (by rw[hr.1];omega)
   . have hrg:=xB (as:=O8 1 n cell c a x y none) (zc (vS (za (i:=1) (x:=.int n) (s:=true) rfl)<|zb (x:=.int 1)) zj) (by omega) (by omega);rw[show((n:Int)-1).toNat=n-1 by omega]at hrg;have wm:=Yg (as:=O8 1 n cell c a x y none) (h:=λi:Nat=>D.int<|mx cell (42+(i:Int))%n) (it:=λi:Nat=>(true,D.int<|0+(i:Int))) (fi:=yK (aC (f2 zk zO x_) aN) xa) (cap:=[none,some 1,some 2]) (gg:=gN 0) (fe:=f2 mW zk zy) (List.range<|n-1) hrg (by rw[zyT];omega) (λi mi=>by
      have hi:=List.mem_range.mp mi;rw[Int.zero_add];exact⟨[sI i,sI n,sI cell],rfl,WD.e<|yc (XS (za (i:=2) rfl) (zT (zb (x:=.int 42))<|za (i:=0) (x:=.int i) (s:=true) rfl) (by omega)<|by omega) (za (i:=1) (x:=.int n) (s:=true) rfl)<|by omega⟩)
     have e1:(List.range<|n-1).map (λi:Nat=>D.int<|mx cell (42+(i:Int))%n)=ys.map D.int:=by rw[zyA];rfl
     rw[e1]at wm;have wsr:=Jm (g:=Jo) (zs:=(sortI ys).map D.int) wm (by
      show(WW<|ys.map D.int).bind _=_;rw[MQ];show(if ys.length<64 then _ else _)=_;rw[if_pos<|by omega])
     have s7:=xp (p:=7) (⟨_,wsr,QO _,congrArg D.lst<|QL _⟩:WE _ _ (.lst<|(sortI ys).map D.int))<|zi rfl;have wl:=rS (as:=O8 1 n cell c a x y<|sT<|.lst<|(sortI ys).map D.int) (yN (os:=[xx 0]) (zL zb ye) (Wl rfl) rfl rfl) (WD.e<|za (i:=7) rfl) (add_lists (xs:=[.int 0]) (ys:=(sortI ys).map D.int)<|by rw[zzB,hlen];exact Bv (by show 1+_<=_;omega));exact zd (zm (eqT (za (i:=0) rfl) zb rfl) rfl)<|yd<|yr (eqT (za (i:=0) rfl) zb rfl)<|zd s7<|zx<|VO wl (WD.e<|za (i:=4) rfl) (rowAt hr ha).1
 . refine⟨λ_ a=>Jy cell n a,iz hn,λc a hc ha=>Qs λx y hx hy=>?_⟩;have a0:=ha.1;have a1:=ha.2;exact zd (zm (eqT (za (i:=0) rfl) zb rfl) rfl)<|zd (zm (eqT (za (i:=0) rfl) zb rfl) rfl)<|yd<|yr (eqT (za (i:=0) rfl) zb rfl)<|zx<|VO (yN (os:=[xx<|1+mx cell (42+a)%((n:Int)-1),xx 0]) (zL (zT zb<|yc (XS (za (i:=2) rfl) (zT (zb (x:=.int 42))<|za (i:=4) rfl) (by omega)<|by omega) (vS (za (i:=1) (x:=.int n) (s:=true) rfl) zb)<|by omega)<|zL zb ye) (Wl rfl) rfl rfl) (WD.e<|yo (zc (Yz (za (i:=4) rfl) zb rfl) zj) rfl rfl)<|Sb.trans (by show _=some (R0.im<|.int<|Jy cell n a);unfold Jy;by_cases h:a=0<;>simp[h])
 . let r:Int->Int:=λa=>if(mx cell 40%2==1)=true then sP a else a
   have hr:(∀a,zJ 4 a->r a=a)\/(∀a,zJ 4 a->r a=sP a):=by
    by_cases h:(mx cell 40%2==1)=true
    . exact .inr λa _=>if_pos h
    . exact .inl λa _=>if_neg h
   refine⟨λ_ a=>r a,gO hr,λc a hc ha=>Qs λx y hx hy=>?_⟩;subst hx;have a0:=zyM a (show(2:Int)≠0 by decide);have a1:=zyG a (show(0:Int)<2 by decide);have x0:=zyM (mx cell 40) (show(2:Int)≠0 by decide);have x1:=zyG (mx cell 40) (show(0:Int)<2 by decide);have wi:=yc (as:=O8 3 4 cell c a (mx cell 40) y none) (za (i:=5) (x:=.int<|mx cell 40) (s:=true) rfl) (zb (x:=.int 2)) (by decide);have ex:mx cell 40%2=if(mx cell 40%2==1)=true then 1 else 0:=by
    rcases(show mx cell 40%2=0\/mx cell 40%2=1 by omega)with h|h<;>rw[h]<;>rfl
   have pk:=Sb (x:=a) (y:=sP a) (c:=mx cell 40%2==1);rw[<-ex]at pk;have wsp:WD o7 (O8 3 4 cell c a (mx cell 40) y none) true (.int<|sP a):=vS (zT (Vc zb (vS (zb (x:=.int 1))<|yc (za (i:=4) (x:=.int a) (s:=true) rfl) zb<|by decide)<|zzK (show(1-a%2).natAbs<8 by omega)<|by decide) zb) (WZ (za (i:=4) rfl) zb (by decide)<|yF (by decide)<|by decide);exact zd (zm (eqT (za (i:=0) rfl) zb rfl) rfl)<|zd (zm (eqT (za (i:=0) rfl) zb rfl) rfl)<|zd (zm (eqT (za (i:=0) rfl) zb rfl) rfl)<|yd<|yr (eqT (za (i:=0) rfl) zb rfl)<|zx<|VO (yN (os:=[xx a,xx<|sP a]) (zL (za (i:=4) rfl)<|zL wsp ye) (Wl rfl) rfl rfl) (WD.e wi) pk
 . have e:=hm4 rfl;subst e;have ld:=gq (m:=2) (km (n:=2)<|by decide) (j7 (n:=3)<|by decide) (by decide) (iD (n:=2) (x:=mx cell 40) (y:=mx cell 41)<|by decide) (iz (cell:=cell) (n:=3) (m:=2)<|by decide);refine⟨_,ld,λc a hc ha=>Qs λx y hx hy=>?_⟩;subst hx hy;have a0:=zyM a (show(3:Int)≠0 by decide);have a1:=zyG a (show(0:Int)<3 by decide);have b0:=ha.1;have b1:=ha.2;have d0:0<=a/3/\a/3<2:=by omega
   have wa3:WD (f2 zX wG zy) (O8 4 6 cell c a (mx cell 40) (mx cell 41) none) true (.int<|a%3):=yc (za (i:=4) rfl) zb (by decide);have w1:WD qp (O8 4 6 cell c a (mx cell 40) (mx cell 41) none) true (.int<|(mx cell 40*(a/3)+mx cell 41*c)%2):=yc (zT (Vc (za (i:=5) rfl) (WZ (za (i:=4) rfl) zb (by decide)<|yF (by decide)<|by decide)<|zzK (show(a/3).natAbs<8 by omega)<|by decide)<|Vc (za (i:=6) rfl) (za (i:=3) rfl)<|FR hc<|by decide) zb (by decide);have u0:=zyM (mx cell 40*(a/3)+mx cell 41*c) (show(2:Int)≠0 by decide);have u1:=zyG (mx cell 40*(a/3)+mx cell 41*c) (show(0:Int)<2 by decide);have w2:WD jj (O8 4 6 cell c a (mx cell 40) (mx cell 41) none) true (.int<|Jy cell 3<|a%3):=
    Ba (yN (os:=[xx<|1+mx cell (42+a%3)%2,xx 0]) (zL (zT zb<|yc (XS (za (i:=2) rfl) (zT (zb (x:=.int 42)) wa3) (by omega)<|by omega) zb<|by decide)<|zL zb ye) (Wl rfl) rfl rfl) (WD.e<|yo (zc (Yz wa3 zb rfl) zj) rfl rfl) (Sb.trans (by show _=some (R0.im<|.int<|Jy cell 3<|a%3);unfold Jy;by_cases h:a%3=0<;>simp[h]))
   have w3:=zT (Vc (zb (x:=.int 3)) w1<|zzK (show((mx cell 40*(a/3)+mx cell 41*c)%2).natAbs<8 by omega)<|by decide) w2;rw[Int.mul_comm 3]at w3;exact zd (zm (eqT (za (i:=0) rfl) zb rfl) rfl)<|zd (zm (eqT (za (i:=0) rfl) zb rfl) rfl)<|zd (zm (eqT (za (i:=0) rfl) zb rfl) rfl)<|zd (zm (eqT (za (i:=0) rfl) zb rfl) rfl)<|zx<|WD.e w3
abbrev R5(cell:Int)(n:Nat)(l f k:Option O):AS:=[sI cell,sI n,l,f,k]
abbrev gk:SF:=yw<|Yu 3 m3 Yt
def OO{cell:Int}{n:Nat}(n8:n<=8):∃F,F.Perm (Ru n)/\RE (Yv [(true,.int cell),(true,.int n)]) (zg F):=by
 obtain⟨as',hf,L,F,e13,rfl,hp,hlen⟩:=xr (g:=gN 4) (f:=gk)
  (λi as=>∃(L F:List Int) (e13:Option O),as=R5 cell n (sN<|L.map xx) (sN<|F.map xx) e13/\(L++F).Perm (Ru n)/\L.length+i=n)
  (yY 0 n) 0 (R5 cell n (sN<|(Ru n).map xx) (sN []) none) (λi x as hx' hI=>by
   obtain⟨L,F,e13,rfl,hp,hlen⟩:=hI;obtain⟨rfl,hi⟩:=Yh hx';have hL0:0<L.length:=by omega
   have hL8:L.length<=8:=by omega
   have l0:(0:Int)<((L.map xx).length:Int):=by rw[zzB];omega
   have wy:=XS (as:=R5 cell n (sN<|L.map xx) (sN<|F.map xx)<|sI<|0+i) (za (i:=0) (x:=.int cell) (s:=true) rfl) (zT (zb (x:=.int 30))<|za (i:=4) (x:=.int<|0+i) (s:=true) rfl) (by omega) (by omega);generalize mx cell (30+(0+(i:Int)))=y at wy;have z0:=zyM y (show((L.map xx).length:Int)≠0 by omega);have z1:=zyG y l0;have hk:(y%((L.map xx).length:Int)).toNat<L.length:=by rw[zzB]at z0 z1 ⊢;omega
   generalize hkk:(y%((L.map xx).length:Int)).toNat=k at hk;have pop:=Cq (as:=R5 cell n (sN<|L.map xx) (sN<|F.map xx)<|sI<|0+i) (i:=2) (os:=L.map xx) (o:=xx L[k]) rfl (yc wy (kJ (i:=2) rfl) l0) z0 z1 (by rw[zzB];exact Nat.lt_of_le_of_lt hL8<|by decide) (by rw[hkk,zzI,zzE hk];rfl);rw[hkk,show(L.map xx).eraseIdx k=(L.eraseIdx k).map xx by rw[List.eraseIdx_eq_take_drop_succ,List.eraseIdx_eq_take_drop_succ,zyL,List.map_take,List.map_drop]]at pop;have hF:F.length<=8:=by
    have e:=hp.length_eq;rw[zzJ,zzB,zyT]at e;omega
   have ap:=BZ (i:=3) (os:=F.map xx) (as:=R5 cell n (sN<|L.map xx) (sN<|F.map xx)<|sI<|0+i) rfl pop rfl (by rw[zzB];exact zzK (show F.length<1000 by omega)<|Bv<|by decide);rw[<-CB]at ap;refine⟨R5 cell n (sN<|L.map xx) (sN<|F.map xx)<|sI<|0+i,rfl,_,ap,L.eraseIdx k,F++[L[k]],_,rfl, ?_,by rw[List.length_eraseIdx_of_lt hk];omega⟩;rw[<-zxB];refine(List.perm_append_singleton _ _).trans ?_;rw[<-List.cons_append];exact((T9 L k hk).append_right F).trans hp)
  ⟨Ru n,[],none,rfl,by rw[zyD],by rw[zzB,zyT];rfl⟩
 rw[Zn]at hlen;have hL:L=[]:=List.eq_nil_of_length_eq_zero (by omega);subst hL;have s2:=v_ (i:=2) (as:=R5 cell n none none none) (Jm (a:=fV 1) (x:=.int n) (g:=ic) (zs:=(Ru n).map D.int) (WD.e<|za (i:=1) rfl)<|by
  show(if(0:Int)<=n/\(n:Int)<=100000 then _ else _)=_;rw[if_pos ⟨q1w n8,by omega⟩,zyA];rfl)<|zi rfl
 rw[SG]at s2;refine⟨F,hp,zM rfl<|zd s2<|zd (v_ (i:=3) (WY ye<|Wl rfl)<|zi rfl)<|zd (xk (xB (zc (za (i:=1) rfl) zj) (q1w n8)<|by omega)<|by rw[zyH];exact hf) ⟨_,Qx (i:=3) rfl (ZZ F).1,ZZ F⟩⟩
def Jq{r:List Int}{p v:Int}(h:p.toNat<r.length):wO (r.set p.toNat v) p=v:=by
 unfold wO;rw[zyJ h];rfl
def Ox{r:List Int}{p q v:Int}(hp:0<=p)(hq:0<=q)(h:p≠q):wO (r.set p.toNat v) q=wO r q:=by
 unfold wO;rw[zzX<|by omega]
def Ji{n:Nat}{r:List Int}{p v:Int}(hr:Row n r)(hv:zJ n v):Row n (r.set p.toNat v):=⟨by rw[zzU];exact hr.1,λx mx=>by
 rcases List.mem_or_eq_of_mem_set mx with m|rfl
 . exact hr.2 x m
 . exact hv⟩
def Ip{as:AS}{i n:Nat}{f:EJ}{fv:EF}{p c:Int}{r:List Int}(hr:Row n r)(hp:zJ n p)(hv:WD fv as true (.int c))(h1:f as=some p)(hi:as[i]? = some (some<|xJ r)):Ko i f fv as=some (.nx<|as.set i<|some<|xJ<|r.set p.toNat c):=by
 unfold Ko;unfold WD at hv;rw[hv];show((f as).bind _)=_;rw[h1];show(if 0<=p then _ else _)=_;have hl:p.toNat<r.length:=by rw[hr.1];exact iT hp
 rw[if_pos hp.1,L3 hi (show TN (xJ r)=some (r.map xx)from rfl)];show(S5 QI (r.map xx) p.toNat).bind _=_;rw[(NT (f:=QI) (a:=.int r[p.toNat]) (show(r.map xx)[p.toNat]? = some (xx r[p.toNat]) by rw[zzI,zzE hl];rfl) rfl)];show some (Out.nx<|as.set i<|sN<|(r.map xx).set p.toNat<|xx c)=_;rw[<-List.map_set]
def CK{v n i:Nat}{f:EJ}{fv:EF}{S:List Int->Option O->AS}{g w:Int->Int}(hg:∀b,zJ n b->zJ n (g b))(gi:∀b b',zJ n b->zJ n b'->g b=g b'->b=b')(hw:∀b,zJ n b->zJ n (w b))
 (hs:∀r z b,gN v (true,.int b) (S r z)=some (S r<|sI b)) (hx:∀r z,(S r z)[i]? = some (some<|xJ r)) (hset:∀r z r',(S r z).set i (some<|xJ r')=S r' z)
 (hf:∀r b,zJ n b->f (S r<|sI b)=some (g b)) (hv:∀r b,zJ n b->WD fv (S r<|sI b) true (.int<|w b)) {r:List Int}{z:Option O}(hr:Row n r):
 ∃r' z',Row n r'/\(∀b,zJ n b->wO r' (g b)=w b)/\forL (gN v) (Ko i f fv) (yY 0 n) (S r z)=some (.nx<|S r' z'):=by
 obtain⟨as',h1,r',z',rfl,h2,h3⟩:=xr (g:=gN v) (f:=Ko i f fv) (λk as=>∃r z,as=S r z/\Row n r/\∀b:Int,0<=b->b<(k:Int)->b<(n:Int)->wO r (g b)=w b) (yY 0 n) 0 (S r z) (λk x as hx' hI=>by
  obtain⟨r,z,rfl,h1,h2⟩:=hI;obtain⟨rfl,hk⟩:=Yh hx';rw[zyW]at h2 ⊢;rw[Int.zero_add];have hb:zJ n ((k:Nat):Int):=⟨q0b,q0h hk⟩;refine⟨S r<|sI k,hs _ _ _,_,Ip h1 (hg _ hb) (hv r _ hb) (hf r _ hb)<|hx _ _,r.set (g k).toNat<|w k,sI k,hset _ _ _,Ji h1<|hw _ hb,λb b0 b1 b2=>?_⟩
  by_cases e:b=(k:Int)
  . subst e;exact Jq (by rw[h1.1];exact iT<|hg _ hb)
  . have hb':zJ n b:=⟨b0,b2⟩;rw[Ox (hg _ hb).1 (hg _ hb').1 λz=>e<|gi _ _ hb' hb z.symm];exact h2 b b0 (by omega) b2) ⟨r,z,rfl,hr,λb b0 b1 _=>by omega⟩
 rw[Zn,zyW]at h3;exact⟨r',z',h2,λb hb=>h3 b hb.1 hb.2 hb.2,h1⟩
def Dl{xs:List D}{k:Int}(h : -(2 ^ 63)<=k/\k<2 ^ 63/\xs.length*k.toNat<=sizeLine):YV .Mult (.lst xs) (.int k)=some (.fl (List.replicate k.toNat xs).flatten):=if_pos h
def zA{n:Nat}(n8:n<=8) : -(2 ^ 63)<=(n:Int)/\(n:Int)<2 ^ 63:=⟨by omega,by omega⟩
def zB{n:Nat}(n8:n<=8) : [D.int 0].length*(n:Int).toNat<=sizeLine:=Bv (by rw[List.length_singleton];omega)
def zC{n:Nat}:(List.replicate (n:Int).toNat [D.int 0]).flatten=(List.replicate n (0:Int)).map D.int:=by rw[zyH,List.flatten_replicate_singleton,List.map_replicate]
def zeros{n:Nat}(n8:n<=8){as:AS}{g:EF}(hg:WE g as (.int n)):f2 (yJ<|dC zW dN) g yi as=some (.ow<|xJ<|List.replicate n 0,as):=by
 have:=iO (g:=YV .Mult) (zs:=(List.replicate n (0:Int)).map D.int) (yN (as:=as) (os:=[xx 0]) (zL (zb (x:=.int 0)) ye) (Wl rfl) rfl rfl) hg (by show YV .Mult (.lst [D.int 0]) (.int n)=_;rw[Dl (xs:=[D.int 0]) ⟨(zA n8).1,(zA n8).2,zB n8⟩,zC]);rw[SG]at this;exact this
def jV{as:AS}{i j:Nat}{os ps:List O}(h:as[i]? = some (sN os))(hj:as[j]? = some (sN ps))(hij:j≠i)(hl:os.length<1000):yw (Yu i (dC (fV j) dN) Yt) as=some (.nx<|(as.set j<|some (O.nd .ls ps).frz).set i<|sN<|os++[(O.nd .ls ps).frz]):=by
 unfold yw Yu;rw[h];have e:dC (fV j) dN as=some ([(O.nd .ls ps).frz],as.set j<|some (O.nd .ls ps).frz):=EO hj rfl;have h1:(as.set j<|some (O.nd .ls ps).frz)[i]? = some (sN os):=by rw[zzX hij];exact h
 show((dC (fV j) dN as).bind _).bind _=_;rw[e];show(Option.bind (match(as.set j<|some (O.nd .ls ps).frz)[i]? with|some (some<|.nd .ls os)=>_|_=>none) _)=_;rw[h1];show((Yt os [(O.nd .ls ps).frz]).bind _).bind _=_;have e2:Yt os [(O.nd .ls ps).frz]=some (os++[(O.nd .ls ps).frz],.lf true .non):=by unfold Yt;exact if_pos (zzK hl<|Bv<|by decide)
 rw[e2];rfl
abbrev W9(k:Int)(n m:Nat)(cell:Int)(F:List Int)(os:List O)(c r a:Option O):AS:=[sI k,sI n,sI m,sI cell,sT<|zg F,sN os,c,r,a]
def Lr{F:List Int}{n:Nat}(hF:F.Perm (Ru n)):Row n F:=(TM hF).1
def Af{k cell:Int}{n m:Nat}{F:List Int}{d:Int->Int->Int}(hF:F.Perm (Ru n))(n1:1<=n)(n8:n<=8)(m6:m<=6)(dc:∀c a,zJ m c->zJ n a->zJ n (d c a))
 (hd:∀c a,zJ m c->zJ n a->RE (Y3 [(true,.int k),(true,.int n),(true,.int cell),(true,.int c),(true,.int a)]) (.int<|d c a)):∃T,Tab m n T/\(∀c a,zJ m c->zJ n a->yT T c (wO F a)=wO F (d c a))/\RE (Z2 [(true,.int k),(true,.int n),(true,.int m),(true,.int cell),(true,zg F)]) (xI T):=by
 have hR:=Lr hF;have pN:∀a,zJ n a->zJ n (wO F a):=λa ha=>(rowAt hR ha).2;have pi:∀a a',zJ n a->zJ n a'->wO F a=wO F a'->a=a':=λa a' ha ha' e=>Eu hF ha ha' e;obtain⟨as',hf,T,c',r',a',rfl,h1,h2,h3⟩:=xr (g:=gN 6) (f:=(zl (zr false 7<|f2 (yJ<|dC zW dN) zk yi)
  (zl oi
  (yw<|Yu 5 (dC Z_ dN) Yt))))
  (λi as=>∃(T:TZ) (c r a:Option O),as=W9 k n m cell F (T.map λr=>O.lf true<|zg r) c r a/\T.length=i/\(∀r ∈ T,Row n r)/\∀j:Nat,j<i->∀a,zJ n a->wO ((T[j]?).getD []) (wO F a)=wO F (d j a))
  (yY 0 m) 0 (W9 k n m cell F [] none none none) (λi x as hx hI=>by
   obtain⟨T,c,r,a,rfl,h1,h2,h3⟩:=hI;obtain⟨rfl,hi⟩:=Yh hx;rw[zyW]at h1 h3 ⊢;rw[Int.zero_add];have hc:zJ m ((i:Nat):Int):=⟨by omega,q0h hi⟩;have s7:zr false 7 (f2 (yJ<|dC zW dN) zk yi) (W9 k n m cell F (T.map λr=>O.lf true<|zg r) (sI i) r a)=some (.nx<|W9 k n m cell F (T.map λr=>O.lf true<|zg r) (sI i) (some<|xJ<|List.replicate n 0) a):=v_ (i:=7) (zeros n8<|WD.e<|za (i:=1) rfl)<|zi rfl;obtain⟨q,z,q1,q2,q3⟩:=CK (v:=8) (n:=n) (i:=7) (f:=CD 4<|xV 8) (fv:=f2 zX oH zD) (S:=λr z=>W9 k n m cell F (T.map λr=>O.lf true<|zg r) (sI i) (some<|xJ r) z) (g:=wO F) (w:=λa=>wO F<|d i a) pN pi (λb hb=>pN _<|dc _ _ hc hb) (λ_ _ _=>rfl) (λ_ _=>rfl) (λ_ _ _=>rfl) (λr b hb=>sd (i:=4) rfl (Fk (i:=8) rfl) hR hb) (λr b hb=>by
    obtain⟨o,g1,g2,g3⟩:=hd i b hc hb;exact zu (za (i:=4) (x:=zg F) (s:=true) rfl) (uf rfl ⟨o,vR (zc (za (i:=0) rfl)<|zc (za (i:=1) rfl)<|zc (za (i:=3) rfl)<|zc (za (i:=6) rfl)<|zc (za (i:=8) rfl) zj) g1,g2,g3⟩) (rowAt hR<|dc _ _ hc hb).1 rfl) (r:=List.replicate n 0) (z:=a) ⟨List.length_replicate ..,λx mx=>by rw[List.eq_of_mem_replicate mx];omega⟩
   have hfz:(O.nd .ls<|q.map xx).frz = .lf true (zg q):=by
    show O.lf (O.nd .ls<|q.map xx).str (O.nd .ls<|q.map xx).toD=_;rw[(ZZ q).1,(ZZ q).2]
   have ap:=jV (as:=W9 k n m cell F (T.map λr=>O.lf true<|zg r) (sI i) (some<|xJ q) z) (i:=5) (j:=7) (os:=T.map λr=>O.lf true<|zg r) (ps:=q.map xx) rfl rfl (by decide) (by rw[zzB];omega);rw[hfz]at ap;have ap:yw (Yu 5 (dC Z_ dN) Yt) (W9 k n m cell F (T.map λr=>O.lf true<|zg r) (sI i) (some<|xJ q) z)=some (.nx<|W9 k n m cell F ((T++[q]).map λr=>O.lf true<|zg r) (sI i) (sT<|zg q) z):=by
    rw[zyL];exact ap
   refine⟨W9 k n m cell F (T.map λr=>O.lf true<|zg r) (sI i) r a,rfl,_,zt s7<|zt (xk (xB (zc (za (i:=1) (x:=.int n) (s:=true) rfl) zj) (q0N n1 n8)<|(q0Y n1 n8))<|by rw[zyH];exact q3) ap,T++[q],_,_,_,rfl,by rw[zzJ,h1];rfl,λx mx=>?_,λj hj a ha=>?_⟩
   . rcases zzM.mp mx with mm|mm
     . exact h2 x mm
     . rw[zzR.mp mm];exact q1
   . by_cases e:j=i
     . subst e;rw[zyQ (by omega),h1,Nat.sub_self];exact q2 a ha
     . rw[zyO<|by omega];exact h3 j (by omega) a ha) ⟨[],none,none,none,rfl,rfl,(λ_ z=>nomatch z),λ_ h=>absurd h<|Nat.not_lt_zero _⟩
 rw[Zn,zyW]at h1 h3;have ts:O.strs (T.map λr=>O.lf true<|zg r)=true/\O.toDs (T.map λr=>O.lf true<|zg r)=T.map zg:=by
  rw[show(T.map λr=>O.lf true<|zg r)=(T.map zg).map (O.lf true) by rw[zyA];rfl];exact⟨QO _,QL _⟩
 refine⟨T,⟨h1,h2⟩,λc a hc ha=>?_,zM rfl<|zd (v_ (i:=5) (WY ye<|Wl rfl)<|zi rfl)<|zd (xk (xB (zc (za (i:=2) (x:=.int m) (s:=true) rfl) zj) (by omega)<|by omega)<|by rw[zyH];exact hf) ⟨.nd .ls<|T.map λr=>O.lf true<|zg r,Qx (i:=5) rfl<|show(O.nd .ls<|T.map λr=>O.lf true<|zg r).str=true from ts.1,ts.1,congrArg D.lst ts.2⟩⟩;have:=h3 c.toNat (iT hc) a ha;rw[iC hc]at this;exact this
def uz{a0 a1 a2 a3 a4 k:Int}(h:k=0\/k=1\/k=2\/k=3\/k=4):zD (.lst [.int a0,.int a1,.int a2,.int a3,.int a4]) (.int k)=some (.im<|.int (if k=0 then a0 else if k=1 then a1 else if k=2 then a2 else if k=3 then a3 else a4)):=by
 rcases h with rfl|rfl|rfl|rfl|rfl<;>rfl
abbrev Z3(c:Int)(x y z:Option O):AS:=[sI c,x,y,z,none,none,none,none,none,none,none,none,none]
def A1(c:Int):∃(k:Int) (n m:Nat),KT k n/\n<=8/\KM k n m/\
 zr true 1 tF (Z3 c none none none)=some (.nx<|Z3 c (sI k) none none)/\
 zr true 2 iN (Z3 c (sI k) none none)=some (.nx<|Z3 c (sI k) (sI n) none)/\
 zr true 3 ix (Z3 c (sI k) (sI n) none)=some (.nx<|Z3 c (sI k) (sI n)<|sI m):=by
 have k0:=zyM (mx c 0) (show(5:Int)≠0 by decide);have k1:=zyG (mx c 0) (show(0:Int)<5 by decide);have hk:mx c 0%5=0\/mx c 0%5=1\/mx c 0%5=2\/mx c 0%5=3\/mx c 0%5=4:=by omega
 have s1:zr true 1 tF (Z3 c none none none)=some (.nx<|Z3 c (sI<|mx c 0%5) none none):=zV (i:=1) (yc (XS (za (i:=0) rfl) zb (by decide)<|by decide) zb<|by decide)<|zi rfl;generalize mx c 0%5=k at hk s1;have mv:∀(y z:Option O) (j q:Int),0<=j->j<=300->0<q->WD (f2 (ze (aC zh<|aC (fC<|.int j) aN) zo) (fC<|.int q) zy) (Z3 c (sI k) y z) true (.int<|mx c j%q):=λy z j q h1 h2 h3=>yc (XS (za (i:=0) rfl) zb h1 h2) zb h3;have a5:=zyM (mx c 1) (show(5:Int)≠0 by decide);have b5:=zyG (mx c 1) (show(0:Int)<5 by decide);have a7:=zyM (mx c 1) (show(7:Int)≠0 by decide);have b7:=zyG (mx c 1) (show(0:Int)<7 by decide);have a4:=zyM (mx c 1) (show(4:Int)≠0 by decide);have b4:=zyG (mx c 1) (show(0:Int)<4 by decide);have c6:=zyM (mx c 2) (show(6:Int)≠0 by decide);have d6:=zyG (mx c 2) (show(0:Int)<6 by decide);have c4:=zyM (mx c 2) (show(4:Int)≠0 by decide);have d4:=zyG (mx c 2) (show(0:Int)<4 by decide);have c3:=zyM (mx c 2) (show(3:Int)≠0 by decide);have d3:=zyG (mx c 2) (show(0:Int)<3 by decide);have wn:=Ba (as:=Z3 c (sI k) none none) (yN (os:=[xx<|2+mx c 1%5,xx<|2+mx c 1%7,xx<|2+mx c 1%4,xx 4,xx 6]) (zL (zT zb<|mv none none 1 5 (by decide) (by decide)<|by decide)<|zL (zT zb<|mv none none 1 7 (by decide) (by decide)<|by decide)<|zL (zT zb<|mv none none 1 4 (by decide) (by decide)<|by decide)<|zL zb<|zL zb ye) (Wl rfl) rfl rfl) (WD.e<|za (i:=1) (x:=.int k) rfl)<|uz hk;obtain⟨n,en⟩:∃n:Nat,(n:Int)=(if k=0 then 2+mx c 1%5 else if k=1 then 2+mx c 1%7 else if k=2 then 2+mx c 1%4 else if k=3 then 4 else 6):=⟨(if k=0 then 2+mx c 1%5 else if k=1 then 2+mx c 1%7 else if k=2 then 2+mx c 1%4 else if k=3 then 4 else 6:Int).toNat,by
  rcases hk with rfl|rfl|rfl|rfl|rfl<;>simp<;>omega⟩
 rw[<-en]at wn;have wm:=Ba (as:=Z3 c (sI k) (sI n) none) (yN (os:=[xx n,xx<|1+mx c 2%6,xx<|1+mx c 2%4,xx<|1+mx c 2%3,xx 2]) (zL (za (i:=2) rfl)<|zL (zT zb<|mv (sI n) none 2 6 (by decide) (by decide)<|by decide)<|zL (zT zb<|mv (sI n) none 2 4 (by decide) (by decide)<|by decide)<|zL (zT zb<|mv (sI n) none 2 3 (by decide) (by decide)<|by decide)<|zL zb ye) (Wl rfl) rfl rfl) (WD.e<|za (i:=1) (x:=.int k) rfl)<|uz hk;obtain⟨m,em⟩:∃m:Nat,(m:Int)=(if k=0 then(n:Int)else if k=1 then 1+mx c 2%6 else if k=2 then 1+mx c 2%4 else if k=3 then 1+mx c 2%3 else 2):=⟨(if k=0 then(n:Int)else if k=1 then 1+mx c 2%6 else if k=2 then 1+mx c 2%4 else if k=3 then 1+mx c 2%3 else 2:Int).toNat,by
  rcases hk with rfl|rfl|rfl|rfl|rfl<;>simp<;>omega⟩
 rw[<-em]at wm;refine⟨k,n,m, ?_, ?_, ?_,s1,zV (i:=2) wn<|zi rfl,zV (i:=3) wm<|zi rfl⟩
 . rcases hk with rfl|rfl|rfl|rfl|rfl<;>simp at en
   . exact .inl ⟨rfl,by omega⟩
   . exact .inr<|.inl ⟨rfl,by omega⟩
   . exact .inr<|.inr<|.inl ⟨rfl,by omega⟩
   . exact .inr<|.inr<|.inr<|.inl ⟨rfl,by omega⟩
   . exact .inr<|.inr<|.inr<|.inr ⟨rfl,by omega⟩
 . rcases hk with rfl|rfl|rfl|rfl|rfl<;>simp at en<;>omega
 . rcases hk with rfl|rfl|rfl|rfl|rfl<;>simp at en em
   . exact⟨by omega,by omega,λ_=>q0w em,λh=>by omega⟩
   . exact⟨by omega,by omega,λh=>by omega,λh=>by omega⟩
   . exact⟨by omega,by omega,λh=>by omega,λh=>by omega⟩
   . exact⟨q1n c3 em,q1r c3 em,λh=>by omega,λh=>by omega⟩
   . exact⟨by omega,by omega,λh=>by omega,λ_=>by omega⟩
def IR{as:AS}{i k n:Nat}{f1 f2:EJ}{fv:EF}{p q c:Int}{T:TZ}(hT:Tab k n T)(hp:zJ k p)(hq:zJ n q)(h1:f1 as=some p)(h2:f2 as=some q)(hv:WD fv as true (.int c))(hi:as[i]? = some (some<|ZM T)):Uk i f1 f2 fv as=some (.nx<|as.set i<|some<|ZM<|put T p q c):=by
 have e:=JN (fv:=λ_=>some c) hT hp hq h1 h2 rfl hi;unfold Uk;unfold WD at hv;rw[hv];unfold Sg at e;rw[h1,h2]at e;show((f1 as).bind _)=_;rw[h1];show((f2 as).bind _)=_;rw[h2];exact e
abbrev K6(c k:Int)(n m:Nat)(F:List Int)(j a b w s d g x:Option O):AS:=[sI c,sI k,sI n,sI m,sT<|zg F,j,a,b,w,s,d,g,x]
def DU{c k:Int}{n m:Nat}{F:List Int}(h:KT k n)(n1:1<=n)(n8:n<=8)(hF:F.Perm (Ru n)):∃J a b,Tab n n J/\(∀a b,zJ n a->zJ n b->yT J (wO F a) (wO F b)=wO F (jT k n a b))/\
 zr false 5 o6 (K6 c k n m F none none none none none none none none)=some (.nx<|K6 c k n m F (some<|ZM<|List.replicate n<|List.replicate n 0) none none none none none none none)/\
 y9 (yK xN xa) (gN 6) nv (K6 c k n m F (some<|ZM<|List.replicate n<|List.replicate n 0) none none none none none none none)=some (.nx<|K6 c k n m F (some<|ZM J) a b none none none none none):=by
 have hR:=Lr hF;have lj:=Av h;have pN:∀a,zJ n a->zJ n (wO F a):=λa ha=>(rowAt hR ha).2;have pi:∀a a',zJ n a->zJ n a'->wO F a=wO F a'->a=a':=λa a' ha ha' e=>Eu hF ha ha' e;have hz:xM (yK xN xa) [none,some 2] VU Y2 (f2 (yJ<|dC zW dN) zk yi) (K6 c k n m F none none none none none none none none)=some (.ow<|ZM<|List.replicate n<|List.replicate n (0:Int),K6 c k n m F none none none none none none none none):=by
  have hr:=xB (as:=K6 c k n m F none none none none none none none none) (zc (za (i:=2) (x:=.int n) (s:=true) rfl) zj) (q0N n1 n8) (q0Y n1 n8);rw[zyH]at hr;have ow:=Mo (g:=gN 0) (fe:=f2 (yJ<|dC zW dN) zk yi) (as0:=Rr [none,some 2]<|K6 c k n m F none none none none none none none none) (r:=List.replicate n 0) (yY 0 n) (λy my=>by
   obtain⟨b,rfl,_,_⟩:=R_ my;exact⟨[sI b,sI n],rfl,zeros n8<|WD.e<|za (i:=1) rfl⟩)
  rw[show(yY 0 n).length=n by unfold yY;rw[zzB,zyT]]at ow;exact DV hr (by unfold yY;rw[zzB,zyT];exact Bv<|by omega) ow
 obtain⟨J,e15,e16,e17,hf,t1,t2⟩:=AN (v:=6) (K:=n) (n:=n) (L:=n) (M:=n) (S:=λT x y _=>K6 c k n m F (some<|ZM T) x y none none none none none) (f:=wO F) (g:=wO F) (w:=λa b=>wO F<|jT k n a b) (F:=y9 (yK xN xa) (gN 7)<|Uk 5 (CD 4<|xV 6) (CD 4<|xV 7)<|f2 zX DB zD) (x0:=none) (y0:=none) (z0:=none) pN pi pN (λ_ _ _ _ _=>rfl) (λT a y z hT ha=>by
  obtain⟨T',y',z',k1,k2,k3,k4⟩:=tj (v:=7) (K:=n) (n:=n) (L:=n) (S:=λT y _=>K6 c k n m F (some<|ZM T) (sI a) y none none none none none) (p:=wO F a) (g:=wO F) (w:=λb=>wO F<|jT k n a b) (f:=Uk 5 (CD 4<|xV 6) (CD 4<|xV 7)<|f2 zX DB zD) (x0:=y) (y0:=z) (pN a ha) pN pi (λb hb=>pN _<|lj.cl a b ha hb) (λ_ _ _ _=>rfl) (λT b z hT hb=>by
   have w2:WD DB (K6 c k n m F (some<|ZM T) (sI a) (sI b) none none none none none) true (.int<|jT k n a b):=vM (zc (za (i:=1) rfl)<|zc (za (i:=2) rfl)<|zc (za (i:=6) rfl)<|zc (za (i:=7) rfl) zj)<|qA h ha hb;exact⟨z,IR (i:=5) (T:=T) hT (pN a ha) (pN b hb) (sd (i:=4) rfl (Fk (i:=6) rfl) hR ha) (sd (i:=4) rfl (Fk (i:=7) rfl) hR hb) (zu (za (i:=4) (x:=zg F) (s:=true) rfl) w2 (rowAt hR<|lj.cl a b ha hb).1 rfl) rfl⟩) hT
  refine⟨T',y',z', ?_,k2,k3,k4⟩;rw[Yw (v:=2) (n:=n) rfl<|by omega];exact k1)<|Cu n1
 exact⟨J,e15,e16,t1,t2,v_ (i:=5) hz<|zi rfl,xk (xB (zc (za (i:=2) (x:=.int n) (s:=true) rfl) zj) (q0N n1 n8)<|(q0Y n1 n8))<|by rw[zyH];exact hf⟩
def perm_back{F:List Int}{n:Nat}(h:F.Perm (Ru n)):∃B:Int->Int,(∀a,zJ n a->zJ n (B a))/\∀a,zJ n a->wO F (B a)=a:=by
 obtain⟨hR,hm⟩:=TM h;refine⟨λa=>(F.idxOf a:Nat),λa ha=>?_,λa ha=>?_⟩
 . have:=List.idxOf_lt_length_of_mem<|hm a ha.1 ha.2;rw[hR.1]at this;exact⟨Int.natCast_nonneg _,Int.ofNat_lt.mpr this⟩
 . have hl:=List.idxOf_lt_length_of_mem<|hm a ha.1 ha.2;rw[ZN<|by rw[zyH];exact hl];simp only[zyH];exact List.getElem_idxOf hl
def OE{ss:List Str}(nd:ss.Nodup){i j:Nat}(hi:i<ss.length)(hj:j<ss.length)(e:ss[i]=ss[j]):i=j:=by
 have p:=List.pairwise_iff_getElem.mp nd
 rcases Nat.lt_trichotomy i j with h|h|h
 . exact absurd e<|p i j hi hj h
 . exact h
 . exact absurd e.symm<|p j i hj hi h
def Iz{c k:Int}{n m:Nat}{F:List Int}{J:TZ}(h:KT k n)(n1:1<=n)(n8:n<=8)(hm:KM k n m)(hF:F.Perm (Ru n))(hJ:∀a b,zJ n a->zJ n b->yT J (wO F a) (wO F b)=wO F (jT k n a b)):∃f:Nat->TZ,∀i:Nat,Tab m n (f i)/\LD n m (yT J) (wO F<|eT k) (yT<|f i)/\RE (Z2 [(true,.int k),(true,.int n),(true,.int m),(true,.int<|c+7*i),(true,zg F)]) (xI<|f i):=by
 have hR:=Lr hF;obtain⟨B,b1,b2⟩:=perm_back hF;refine Classical.axiomOfChoice (r:=λ(i:Nat) (T:TZ)=>Tab m n T/\LD n m (yT J) (wO F<|eT k) (yT T)/\RE (Z2 [(true,.int k),(true,.int n),(true,.int m),(true,.int<|c+7*i),(true,zg F)]) (xI T)) λi=>?_;obtain⟨d,d1,d2⟩:=rk (c+7*i) h n8 hm;obtain⟨T,t1,t2,t3⟩:=Af (k:=k) (cell:=c+7*i) (m:=m) hF n1 n8 hm.2.1 (λc a hc ha=>d1.cl c a hc ha) d2;exact⟨T,t1,gc (by have:=hm.1;exact q0g this) (Av h) d1 (λa ha=>(rowAt hR ha).2) b1 b2 hJ t2,t3⟩
def F_(hnm:∀c:Int,0<=c->∃ss:List Str,ss.length=3/\ss.Nodup/\RE (Yy [(true,.int c),(true,.int (3:Nat))]) (.lst<|ss.map D.str))(c:Int):∃n m J e Ds,∃S:SS,Alg n m J e Ds/\LawA n m J e Ds/\1<=Ds.length/\1<=S.length/\S.length<=3/\(S.map (·.1)).Nodup/\RE (Zj [(true,.int c)]) (yZ n m J e Ds S):=by
 obtain⟨k,n,m,hk,n8,hm,s1,s2,s3⟩:=A1 c;have n1:1<=n:=by rcases hk with⟨_,h⟩|⟨_,h⟩|⟨_,h⟩|⟨_,h⟩|⟨_,h⟩<;>omega
 have n2:2<=n:=by rcases hk with⟨_,h⟩|⟨_,h⟩|⟨_,h⟩|⟨_,h⟩|⟨_,h⟩<;>omega
 have m1:=hm.1;have m6:=hm.2.1;obtain⟨F,hF,hor⟩:=OO (cell:=c) (n:=n) n8;have hR:=Lr hF;have s4:zr true 4 (ze (aC zh xN) Yv) (Z3 c (sI k) (sI n)<|sI m)=some (.nx<|K6 c k n m F none none none none none none none none):=xp (p:=4) (yy (WD.e<|za (i:=0) rfl) (WD.e<|za (i:=2) rfl) hor)<|zi rfl;obtain⟨J,a6,b7,tJ,hJ,s5,s6⟩:=DU (c:=c) (m:=m) hk n1 n8 hF;obtain⟨f,hf⟩:=Iz (c:=c) hk n1 n8 hm hF hJ;have w0:=zyM (mx c 3) (show(3:Int)≠0 by decide);have w1:=zyG (mx c 3) (show(0:Int)<3 by decide);obtain⟨w,ew⟩:∃w:Nat,(w:Int)=1+mx c 3%3:=⟨(1+mx c 3%3).toNat,by omega⟩;have s8:zr true 8 nQ (K6 c k n m F (some<|ZM J) a6 b7 none none none none none)=some (.nx<|K6 c k n m F (some<|ZM J) a6 b7 (sI w) none none none none):=by
  rw[ew];exact zV (i:=8) (zT zb<|yc (XS (za (i:=0) rfl) zb (by decide)<|by decide) zb<|by decide)<|zi rfl
 obtain⟨ss,l3,nd,hs⟩:=hnm (c%2147483647) (zyM _<|by decide);have s9:zr true 9 pJ (K6 c k n m F (some<|ZM J) a6 b7 (sI w) none none none none)=some (.nx<|K6 c k n m F (some<|ZM J) a6 b7 (sI w) (sT<|.lst<|ss.map D.str) none none none):=xp (p:=9) (yy (WD.e<|yc (za (i:=0) rfl) zb<|by decide) (WD.e zb) hs)<|zi rfl;have hw:w<=3:=by omega
 have wl:=xB (as:=K6 c k n m F (some<|ZM J) a6 b7 (sI w) (sT<|.lst<|ss.map D.str) none none none) (zc (za (i:=8) (x:=.int w) (s:=true) rfl) zj) (by omega) (by omega);rw[zyH]at wl;have sg:∀i:Nat,i<3->ss[i]? = some ((ss[i]?).getD ("":Str)):=λi hi=>by rw[zzE<|by omega];rfl
 have wd:=Yg (as:=K6 c k n m F (some<|ZM J) a6 b7 (sI w) (sT<|.lst<|ss.map D.str) none none none) (h:=λi:Nat=>XI ((ss[i]?).getD ("":Str),f i)) (it:=λi:Nat=>(true,D.int<|0+(i:Int))) (fi:=yK (aC (fV 8) aN) xa) (cap:=[none,some 9,some 1,some 2,some 3,some 4,some 0]) (gg:=gN 0) (fe:=yL pw) (List.range w) wl (by rw[zyT];omega) (λi mi=>by
  have hi:=List.mem_range.mp mi;rw[Int.zero_add];obtain⟨o,g1,g2,g3⟩:=(hf i).2.2;have wc:WD (f2 xl (f2 (fC<|.int 7) zh yi) zp) [sI i,sT<|.lst<|ss.map D.str,sI k,sI n,sI m,sT<|zg F,sI c] true (.int<|c+7*i):=zT (za (i:=6) rfl) (YJ (zb (x:=.int 7)) (za (i:=0) (x:=.int i) (s:=true) rfl) (yF (by decide)<|by decide)<|yF (by omega)<|by omega);exact⟨[sI i,sT<|.lst<|ss.map D.str,sI k,sI n,sI m,sT<|zg F,sI c],rfl,xD (WD.e<|zu (za (i:=1) rfl) (za (i:=0) rfl) (Z6<|sg i<|by omega) rfl) ⟨o,vR (zc (za (i:=2) rfl)<|zc (za (i:=3) rfl)<|zc (za (i:=4) rfl)<|zc wc<|zc (za (i:=5) rfl) zj) g1,g2,g3⟩⟩)
 have s10:=xp (p:=10) wd<|zi rfl;have g0:=zyM (mx c 4) (show(2:Int)≠0 by decide);have g1:=zyG (mx c 4) (show(0:Int)<2 by decide);obtain⟨g,eg⟩:∃g:Nat,(g:Int)=1+mx c 4%2:=⟨(1+mx c 4%2).toNat,by omega⟩;let DL:D:=.lst ((List.range w).map λi:Nat=>XI ((ss[i]?).getD ("":Str),f i));let Zs:List O->Option O->AS:=λos x=>K6 c k n m F (some<|ZM J) a6 b7 (sI w) (sT<|.lst<|ss.map D.str) (sT DL) (sN os) x;have s11:zr false 11 (yJ dN) (K6 c k n m F (some<|ZM J) a6 b7 (sI w) (sT<|.lst<|ss.map D.str) (sT DL) none none)=some (.nx<|Zs [] none):=v_ (i:=11) (WY ye<|Wl rfl)<|zi rfl;obtain⟨as',hl,os,S,x,rfl,hO,hN⟩:=xr (g:=gN 12) (f:=yw<|Yu 11 mF Yt)
  (λi as=>∃(os:List O) (S:SS) (x:Option O),as=Zs os x/\Ows WN (λ_=>True) os S/\S.map (·.1)=(List.range i).map λj=>(ss[2-j]?).getD ("":Str)) (yY 0 g) 0 (Zs [] none) (λi y as hy hI=>by
   obtain⟨os,S,x,rfl,hO,hN⟩:=hI;obtain⟨rfl,hi⟩:=Yh hy;rw[zyW]at hN ⊢;rw[Int.zero_add];have hi2:i<2:=by omega
   have hrg:=xB (as:=Zs os<|sI i) (zc (za (i:=2) (x:=.int n) (s:=true) rfl) zj) (by omega) (by omega);rw[zyH]at hrg;have wf:=tZ (as:=Zs os<|sI i) (h:=λ(q:Nat)=>D.int q) (p:=λq:Nat=>mx c (80+9*i+q)%3==1) (it:=λ(q:Nat)=>(true,D.int<|0+(q:Int))) (fi:=yK xN xa) (cap:=[none,some 0,some 12]) (gg:=gN 0) (tt:=fT ip) (fe:=fV 0) (List.range n) hrg (by rw[zyT];omega) (λq mq=>by
    have hq:=List.mem_range.mp mq;rw[Int.zero_add];exact⟨[sI q,sI c,sI i],rfl,eqT (yc (XS (za (i:=1) rfl) (zT (zT (zb (x:=.int 80))<|YJ (zb (x:=.int 9)) (za (i:=2) (x:=.int i) (s:=true) rfl) (yF (by decide)<|by decide)<|yF (by omega)<|by omega)<|za (i:=0) (x:=.int q) (s:=true) rfl) (by omega)<|by omega) zb<|by decide) zb rfl,λ_=>WD.e<|za (i:=0) rfl⟩)
   rw[show D.lst (((List.range n).filter λq:Nat=>mx c (80+9*i+q)%3==1).map λ(q:Nat)=>D.int q)=zg (((List.range n).filter λq:Nat=>mx c (80+9*i+q)%3==1).map λ(q:Nat)=>(q:Int)) by show _=D.lst _;rw[zyA];rfl]at wf;have wn:WD (f2 (fV 9) (f2 y8 (fV 12) x_) zD) (Zs os<|sI i) true (.str<|(ss[2-i]?).getD ("":Str)):=by
    have w:=vS (as:=Zs os<|sI i) (zb (x:=.int 2))<|za (i:=12) (x:=.int i) (s:=true) rfl;rw[show(2:Int)-i=((2-i:Nat):Int) by omega]at w;exact zu (za (i:=9) (x:=.lst<|ss.map D.str) (s:=true) rfl) w (Z6<|sg (2-i)<|by omega) rfl
   have hS:S.length<=2:=by
    have:=congrArg List.length hN;rw[zzB,zzB,zyT]at this;omega
   obtain⟨os',o1,o2⟩:=mT (as:=Zs os<|sI i) (i:=11) (os:=os) (l:=S) (x:=((ss[2-i]?).getD ("":Str),((List.range n).filter λq:Nat=>mx c (80+9*i+q)%3==1).map λ(q:Nat)=>(q:Int))) rfl hO (by omega) (xD (WD.e wn) wf) True.intro;exact⟨Zs os<|sI i,rfl,_,o2,os',_,_,rfl,o1,by rw[zyL,hN,List.range_succ,zyL];rfl⟩)
  ⟨[],[],none,rfl,Ows.nil,rfl⟩
 rw[Zn,zyW]at hN;have hr12:=xB (as:=Zs [] none) (zc (zT (zb (x:=.int 1))<|yc (XS (za (i:=0) (x:=.int c) (s:=true) rfl) (zb (x:=.int 4)) (by decide)<|by decide) (zb (x:=.int 2))<|by decide) zj) (by omega) (by omega);rw[<-eg,zyH]at hr12;have sl:S.length=g:=by
  have:=congrArg List.length hN;rw[zzB,zzB,zyT]at this;exact this
 have e0:zJ n (eT k):=(Av hk).ce;have wE:WD (f2 zX (fP (aC (f2 zk wG<|zw .Eq) aN) U1) zD) ((Zs os x).set 5<|some (ZM J).frz) true (.int<|wO F<|eT k):=by
  have w:=yo (as:=(Zs os x).set 5<|some (ZM J).frz) (x:=.int<|if(k==3)=true then 1 else 0) (g:=U1) (zc (Yz (c:=k==3) (za (i:=1) (x:=.int k) (s:=true) rfl) (zb (x:=.int 3)) rfl) zj) rfl rfl;rw[show(if(k==3)=true then(1:Int)else 0)=eT k by unfold eT;by_cases h:k=3<;>simp[h]]at w;exact zu (za (i:=4) (x:=zg F) (s:=true) rfl) w (rowAt hR e0).1 rfl
 have hfJ:(ZM J).frz = .lf true (xI J):=by
  show O.lf (O.strs<|J.map xJ) (.lst<|O.toDs<|J.map xJ)=_;rw[(RZ J).1,(RZ J).2]
 have hfS:=hO.frz;have wr:pD (Zs os x)=some (_,_):=
  Zr (za (i:=2) rfl) (Zr (za (i:=3) rfl)<|EO (j:=5) (ps:=J.map xJ) rfl<|Zr wE<|Zr (za (i:=10) rfl)<|EO (j:=11) (ps:=os) rfl rfl)
 have hfin:=Sz wr<|Wl rfl;rw[hfJ,hfS]at hfin;have rt:=ND hfin rfl;have nd2:(S.map (·.1)).Nodup:=by
  rw[hN];have g2:g=1\/g=2:=by omega
  have ne:(ss[2]?).getD ("":Str)≠(ss[1]?).getD ("":Str):=λz=>by
   rw[zzE (show 2<ss.length from q0R l3),zzE (show 1<ss.length from q0Q l3)]at z;exact absurd (OE nd (show 2<ss.length from q0R l3) (show 1<ss.length from q0Q l3) z) (by decide)
  rcases g2 with rfl|rfl
  . exact zzV.mpr ⟨zxA,zyI⟩
  . exact zzV.mpr ⟨λz=>ne<|zzR.mp z,zzV.mpr ⟨zxA,zyI⟩⟩
 have Bk:=perm_back hF;obtain⟨B,b1,b2⟩:=Bk;refine⟨n,m,J,wO F<|eT k,(List.range w).map λi:Nat=>((ss[i]?).getD ("":Str),f i),S,⟨n1,n8,m1,m6,tJ,(rowAt hR e0).2.1,(rowAt hR e0).2.2,by rw[zzB,zyT];exact q1r w0 ew,λp mp=>?_, ?_⟩,⟨gI (Av hk) (λa ha=>(rowAt hR ha).2) b1 b2 hJ,λp mp=>?_⟩,by rw[zzB,zyT];exact q1n w0 ew,by omega,by omega,nd2,zM rfl<|zd s1<|zd s2<|zd s3<|zd s4<|zd s5<|zd s6<|zd s8<|zd s9<|zd s10<|zd s11<|zd (xk hr12 hl) ⟨_,rt,rfl, ?_⟩⟩
 . obtain⟨i,_,rfl⟩:=zxC.mp mp;exact(hf i).1
 . rw[zyA];refine List.pairwise_map.mpr<|(List.nodup_range (n:=w)).imp_of_mem λ{a b} ma mb hne he=>hne ?_;have ha:=List.mem_range.mp ma;have hb:=List.mem_range.mp mb;have he:(ss[a]?).getD ("":Str)=(ss[b]?).getD ("":Str):=he;rw[zzE (show a<ss.length from q1t w0 ew ha l3),zzE (show b<ss.length from q1t w0 ew hb l3)]at he;exact OE nd _ _ he
 . obtain⟨i,_,rfl⟩:=zxC.mp mp;exact(hf i).2.1
 . show D.tup [.int n,.int m,xI J,.int<|wO F<|eT k,DL,.lst<|S.map WN]=_;show D.tup [.int n,.int m,xI J,.int<|wO F<|eT k,.lst ((List.range w).map λi:Nat=>XI ((ss[i]?).getD ("":Str),f i)),.lst<|S.map WN]=D.tup [.int n,.int m,xI J,.int<|wO F<|eT k,.lst<|((List.range w).map λi:Nat=>((ss[i]?).getD ("":Str),f i)).map XI,.lst<|S.map WN];rw[zyA];rfl
abbrev ch(c:Nat):Str:=⟨#[c]⟩
theorem Bm:∀cs:List Nat,(Str.join "" (cs.map ch)).cps.toList=cs
 | []=>rfl
 | [x]=>rfl
 |x::y::r=>by
  show(ch x++""++Str.join "" ((y::r).map ch)).cps.toList=_;rw[Str.cps_append,Str.cps_append,Array.toList_append,Array.toList_append,Bm (y::r)];rfl
abbrev pW(A B:Str)(x st:Int)(k:Nat):Str:=A++⟨#[97+((x+st*(k:Int))%26).toNat]⟩++B
def Dw{A B:Str}{x st:Int}{k j:Nat}(s1:1<=st)(s5:st<=5)(hk:k<3)(hj:j<3)(h:pW A B x st k=pW A B x st j):k=j:=by
 have h:=congrArg (λs:Str=>s.cps.toList) h;simp only[Str.cps_append,Array.toList_append,zxB,List.append_cancel_left_eq]at h;have h:=(List.append_cancel_right h);injection h with h
 have e:st=1\/st=2\/st=3\/st=4\/st=5:=by omega
 rcases e with rfl|rfl|rfl|rfl|rfl<;>omega
def l8(c:Int)(i:Nat):Nat:=97+(mx c (200+(i:Int))%26).toNat
@[irreducible] def G2(c:Int):Str:=Str.join "" (((List.range 8).map<|l8 c).map ch)
def Ay(c:Int):(G2 c).length=8:=by
 have e:=Bm<|(List.range 8).map<|l8 c;show(G2 c).cps.size=8;rw[<-zyS];unfold G2;rw[e];rfl
def A2{c:Int}{as:AS}(h0:as[0]? = some (sI c))(h2:∀d:D,gN 0 (true,d) (Rr [none,some 2,some 0] as)=some [sT d,sT<|.str Jw,sI c]):WD n5 as true (.str<|G2 c):=by
 have hr:=xB (as:=as) (zc (zb (x:=.int 8)) zj) (by decide) (by decide);have wm:=Yg (as:=as) (h:=λi:Nat=>D.str<|ch<|l8 c i) (it:=λi:Nat=>(true,D.int<|0+(i:Int))) (fi:=yK (aC Hf aN) xa) (cap:=[none,some 2,some 0]) (gg:=gN 0) (fe:=f2 zk pF zD) (List.range 8) hr (by rw[zyT];decide) (λi mi=>by
  have hi:=List.mem_range.mp mi;rw[Int.zero_add];have q0:=zyM (mx c<|200+(i:Int)) (show(26:Int)≠0 by decide);have q1:=zyG (mx c<|200+(i:Int)) (show(0:Int)<26 by decide);exact⟨[sI i,sT<|.str Jw,sI c],h2 _,WD.e<|zu (za (i:=1) rfl) (yc (XS (za (i:=2) rfl) (zT (zb (x:=.int 200))<|za (i:=0) (x:=.int i) (s:=true) rfl) (by omega)<|by omega) zb<|by decide) (Cr q0 q1) rfl⟩)
 have e1:(List.range 8).map (λi:Nat=>D.str<|ch<|l8 c i)=(((List.range 8).map<|l8 c).map ch).map D.str:=by rw[zyA,zyA];rfl
 rw[e1]at wm;have e2:=nP (((List.range 8).map<|l8 c).map ch) λs m=>by
  obtain⟨a,_,rfl⟩:=zxC.mp m;rfl
 have e3:(((List.range 8).map<|l8 c).map ch).length=8:=by rw[zzB,zzB,zyT]
 unfold G2;generalize ((List.range 8).map<|l8 c).map ch=L at wm e2 e3;refine JU zb rfl (xC wm zj) ?_ rfl;show(Pz<|L.map D.str).bind _=_;rw[Eo];show(if(L.map (·.length)).sum+L.length*0<=16777216 then some (R0.im<|.str<|Txt.join "" L)else none)=_;rw[if_pos (by rw[e2,e3];decide),IZ]
def Jg{x:Str}(hx:x.length=8){j:Int}(h1:1<=j)(h8:j<=8):((PySem.Txt.slice x none<|some j).length:Int)=j:=by
 obtain⟨⟨l⟩⟩:=x;have hl:l.length=8:=hx
 match l,hl with
 | [a0,a1,a2,a3,a4,a5,a6,a7],_=>
  have e:j=1\/j=2\/j=3\/j=4\/j=5\/j=6\/j=7\/j=8:=by omega
  rcases e with rfl|rfl|rfl|rfl|rfl|rfl|rfl|rfl<;>rfl
abbrev B1(c:Int)(x4 x5 x6 x7 x8 x9:Option O):AS:=[sI c,sI (3:Nat),sT<|.str Jw,sT<|.str<|G2 c,x4,x5,x6,x7,x8,x9]
def C0{x y:Str}(h:x.length+y.length<=sizeLine):YV .Add (.str x) (.str y)=some (.im<|.str<|x++y):=if_pos h
def O5(c:Int)(hc:0<=c):∃ss:List Str,ss.length=3/\ss.Nodup/\RE (Yy [(true,.int c),(true,.int (3:Nat))]) (.lst<|ss.map D.str):=by
 have wl:=Ay c;have lz:(G2 c).length<=sizeLine:=Bv (by omega);have s2:zr true 2 (fC<|.str "abcdefghijklmnopqrstuvwxyz") [sI c,sI (3:Nat),none,none,none,none,none,none,none,none]=some (.nx [sI c,sI (3:Nat),sT<|.str Jw,none,none,none,none,none,none,none]):=zV (i:=2) zb<|zi rfl;have s3:=zV (st:=true) (i:=3) (as:=[sI c,sI (3:Nat),sT<|.str Jw,none,none,none,none,none,none,none]) (A2 (c:=c) rfl λ_=>rfl)<|zi rfl;have t0:WT (fT<|f2 (f2 zh wG zy) zW<|zw .Eq) (B1 c none none none none none none) (c%3==0):=eqT (yc (za (i:=0) rfl) zb<|by decide) zb rfl;cases hq:(c%3==0)with
 |true=>
  rw[hq]at t0;have hr:=xB (as:=B1 c none none none none none none) (zc (za (i:=1) (x:=.int (3:Nat)) (s:=true) rfl) zj) (by decide) (by decide);have wm:=Yg (as:=B1 c none none none none none none) (h:=λi:Nat=>D.str<|PySem.Txt.slice (G2 c) none<|some<|1+((i:Int)+c/3)%8) (it:=λi:Nat=>(true,D.int<|0+(i:Int))) (fi:=yK yI xa) (cap:=[none,some 3,some 0]) (gg:=gN 0) (fe:=ZY zk oN (oS lJ) HY) (List.range 3) hr (by rw[zyT];decide) (λi mi=>by
   rw[Int.zero_add];exact⟨[sI i,sT<|.str<|G2 c,sI c],rfl,WD.e<|Q6 (za (i:=1) rfl) rfl (OB<|zT (zb (x:=.int 1))<|yc (zT (za (i:=0) rfl)<|WZ (za (i:=2) rfl) zb (by decide)<|yF (by decide)<|by decide) zb<|by decide) (show HY (.str<|G2 c) none (some<|1+((i:Int)+c/3)%8)=_ from if_pos lz)⟩)
  refine⟨(List.range 3).map λi:Nat=>PySem.Txt.slice (G2 c) none<|some<|1+((i:Int)+c/3)%8,by rw[zzB,zyT], ?_,zM rfl<|zd s2<|zd s3<|yd<|yr t0<|zx ?_⟩
  . refine List.pairwise_map.mpr<|(List.nodup_range (n:=3)).imp_of_mem λ{a b} ma mb hne he=>hne ?_;have ha:=List.mem_range.mp ma;have hb:=List.mem_range.mp mb;have e1:=Jg wl (j:=1+((a:Int)+c/3)%8) (q1k) (q1b);have e2:=Jg wl (j:=1+((b:Int)+c/3)%8) (q1k) (q1b);have he:PySem.Txt.slice (G2 c) none (some<|1+((a:Int)+c/3)%8)=PySem.Txt.slice (G2 c) none (some<|1+((b:Int)+c/3)%8):=he;rw[he,e2]at e1;omega
  . rw[zyA];exact wm
 |false=>
  rw[hq]at t0;have g0:=zyM (c/3) (show(8:Int)≠0 by decide);have g1:=zyG (c/3) (show(0:Int)<8 by decide);have s4:zr true 4 (f2 zO (f2 (f2 zh wG yh) Hf zy) zp) (B1 c none none none none none none)=some (.nx<|B1 c (sI<|1+c/3%8) none none none none none):=zV (i:=4) (zT zb<|yc (WZ (za (i:=0) rfl) zb (by decide)<|yF (by decide)<|by decide) zb<|by decide)<|zi rfl;generalize hlg:1+c/3%8=lg at s4;have a0:=zyM (c/24) (show lg≠0 by omega);have a1:=zyG (c/24) (show(0:Int)<lg from q1D hlg g0);have s5:zr true 5 (f2 (f2 zh (fC<|.int 24) yh) zX zy) (B1 c (sI lg) none none none none none)=some (.nx<|B1 c (sI lg) (sI<|c/24%lg) none none none none):=zV (i:=5) (yc (WZ (za (i:=0) rfl) zb (by decide)<|yF (by decide)<|by decide) (za (i:=4) (x:=.int lg) (s:=true) rfl)<|(q1D hlg g0))<|zi rfl;generalize c/24%lg=at_ at s5 a0 a1
  have e0:=zyM (c/192) (show(5:Int)≠0 by decide);have e1:=zyG (c/192) (show(0:Int)<5 by decide);have s6:zr true 6 oT (B1 c (sI lg) (sI at_) none none none none)=some (.nx<|B1 c (sI lg) (sI at_) (sI<|1+c/192%5) none none none):=zV (i:=6) (zT zb<|yc (WZ (za (i:=0) rfl) zb (by decide)<|yF (by decide)<|by decide) zb<|by decide)<|zi rfl;generalize hst:1+c/192%5=st at s6;have lA:=Txt.slice_le (G2 c) none<|some at_;have lB:=Txt.slice_le (G2 c) (some<|at_+1)<|some lg;have eA:HY (.str<|G2 c) none (some at_)=some (.im<|.str<|Txt.slice (G2 c) none<|some at_):=if_pos lz;have eB:HY (.str<|G2 c) (some<|at_+1) (some lg)=some (.im<|.str<|Txt.slice (G2 c) (some<|at_+1)<|some lg):=if_pos lz;generalize Txt.slice (G2 c) none (some at_)=A at lA eA;generalize Txt.slice (G2 c) (some<|at_+1) (some lg)=B at lB eB;rw[wl]at lA lB;obtain⟨as',hf,os,x8,x9,rfl,ho⟩:=xr (g:=gN 8) (f:=(zl mB
  lh))
   (λi as=>∃(os:List O) (x8 x9:Option O),as=B1 c (sI lg) (sI at_) (sI st) (sN os) x8 x9/\Ows D.str (λ_=>True) os ((List.range i).map<|pW A B (mx c<|200+at_) st))
   (yY 0 3) 0 (B1 c (sI lg) (sI at_) (sI st) (sN []) none none) (λi x as hx hI=>by
    obtain⟨os,x8,x9,rfl,ho⟩:=hI;obtain⟨rfl,hi⟩:=Yh hx;rw[zyW]at ho ⊢;rw[Int.zero_add];have q0:=zyM (mx c (200+at_)+st*(i:Int)) (show(26:Int)≠0 by decide);have q1:=zyG (mx c (200+at_)+st*(i:Int)) (show(0:Int)<26 by decide);have s9:=zV (st:=true) (i:=9) (as:=B1 c (sI lg) (sI at_) (sI st) (sN os) (sI i) x9) (zu (za (i:=2) (x:=.str Jw) (s:=true) rfl) (yc (zT (XS (za (i:=0) rfl) (zT (zb (x:=.int 200))<|za (i:=5) (x:=.int at_) (s:=true) rfl) (by omega)<|by omega)<|YJ (za (i:=6) (x:=.int st) (s:=true) rfl) (za (i:=8) (x:=.int i) (s:=true) rfl) (yF (by omega)<|by omega)<|yF (by omega)<|by omega) (zb (x:=.int 26))<|by decide) (Cr q0 q1) rfl)<|zi rfl;obtain⟨os',o1,o2⟩:=mT (as:=B1 c (sI lg) (sI at_) (sI st) (sN os) (sI i)<|sT<|.str ⟨#[97+((mx c (200+at_)+st*(i:Int))%26).toNat]⟩) (x:=pW A B (mx c<|200+at_) st i) (i:=7) (toD:=D.str) (Q:=λ_=>True) (a:=f2 (f2 (ZY zK oN (oS ym) HY) (fV 9) zp) (ZY zK (oS<|f2 ym zO zp) (oS zX) HY) zp) rfl ho (by rw[zzB,zyT];omega)
     (WD.e<|zu (zu (Q6 (za (i:=3) rfl) rfl (OB<|za (i:=5) rfl) eA) (za (i:=9) rfl) (C0<|Bv (by show A.length+1<=_;omega)) rfl) (Q6 (za (i:=3) rfl) (OB<|zT (za (i:=5) rfl) zb) (OB<|za (i:=4) rfl) eB) (C0<|Bv (by rw[Ih];show A.length+1+B.length<=_;omega)) rfl) True.intro
    exact⟨B1 c (sI lg) (sI at_) (sI st) (sN os) (sI i) x9,rfl,_,zt s9 o2,os',_,_,rfl,by rw[List.range_succ,zyL];exact o1⟩)
   ⟨[],none,none,rfl,Ows.nil⟩
  rw[Zn,zyW]at ho;refine⟨(List.range 3).map<|pW A B (mx c<|200+at_) st,by rw[zzB,zyT], ?_,zM rfl<|zd s2<|zd s3<|zd (zm t0 rfl)<|zd s4<|zd s5<|zd s6<|zd (v_ (i:=7) (WY ye<|Wl rfl)<|zi rfl)<|zd (xk (xB (zc (za (i:=1) (x:=.int (3:Nat)) (s:=true) rfl) zj) (by decide)<|by decide) hf)<|Ows.retB (i:=7) rfl ho⟩;exact List.pairwise_map.mpr<|(List.nodup_range (n:=3)).imp_of_mem λha hb hne he=>hne<|Dw (by omega) (by omega) (List.mem_range.mp ha) (List.mem_range.mp hb) he
structure Cx.Gd(c:Cx):Prop where
 ok:c.Ok
 dd:1<=c.Ds.length
 s1:1<=c.S.length
 s4:c.S.length<=3
 sn:(c.S.map (·.1)).Nodup
def su(x:Int):∃c:Cx,c.Gd/\RE (Zj [(true,.int x)]) c.g:=by
 obtain⟨n,m,J,e,Ds,S,A,L,dl,s1,sl,sn,h⟩:=F_ O5 x;exact⟨⟨n,m,J,e,Ds,S⟩,⟨⟨A,L⟩,dl,s1,sl,sn⟩,h⟩
def JH(x:Int)(k:Nat)(hk:0<k):∃w:Nat,x%(k:Int)=w/\w<k:=by
 have h0:=zyM x (show(k:Int)≠0 by omega);have h1:=zyG x (show(0:Int)<k by omega);exact⟨(x%(k:Int)).toNat,by omega,by omega⟩
def CN{a b d:EF}{as:AS}{s:Bool}{r:List Int}{i k:Nat}(ha:WD a as s (zg r))(hb:WD b as true (.int i))(hd:WD d as true (.int k))(h1:i<=k)(h2:k<=r.length):WE (ZY a (oS b) (oS d) XU) as (zg<|(r.take k).drop i):=by
 refine Uv ha (OB hb) (OB hd) ?_;show some (R0.fl<|PF.cutD (r.map D.int) (some (i:Int))<|some (k:Int))=_;unfold PF.cutD;rw[HT.Pa,HT.Pa,zzB,Nat.min_eq_left h2,Nat.min_eq_left<|zzO h1 h2,List.drop_take,<-List.map_drop,<-List.map_take]
section
variable{c:Cx}{x y d:D}{r s R:List Int}{p q:Nat}
def TK.one(k:TK c d R 0):R.length=1:=by
 generalize e:(0:Nat)=p at k;cases k with
 |lf=>rfl
 |nd=>omega
theorem LQ(h:c.Ok):∀(n:Nat) {d:D}{R:List Int}{p:Nat}(i:Nat),TK c d R p->p<n->R.length<=1000->i<=R.length->∃a b,RE (xy n [(true,c.w),(true,d),(true,.int i)]) (.tup [a,b])/\OT c a (R.take i)/\OT c b (R.drop i)
 |0,_,_,_,_,_,h,_,_=>absurd h (Nat.not_lt_zero _)
 |n+1,d,R,p,i,k,hp,hl,hi=>by
  have v1:∀a b e,WD zk [sT c.w,sT d,sI i,a,b,e] true d:=λ_ _ _=>za (i:=1) rfl;have v2:∀a b e,WD zG [sT c.w,sT d,sI i,a,b,e] true (.int i):=λ_ _ _=>za (i:=2) rfl;have wy:∀a b e,WE zh [sT c.w,sT d,sI i,a,b,e] c.w:=λ_ _ _=>WD.e<|za (i:=0) rfl;have eqN:∀{f g:EF}{as:AS}{a b:Nat},WD f as true (.int a)->WD g as true (.int b)->WT (fT<|f2 f g<|zw .Eq) as (decide (a=b)):=λ{f g as a b} h1 h2=>zN (Yz (c:=decide (a=b)) h1 h2 (by
   show some ((a:Int)==b)=_
   by_cases z:a=b
   . subst z;rw[zyN rfl,beq_self_eq_true]
   . rw[zyF z,beq_eq_false_iff_ne.mpr<|by omega])) rfl
  have t1:=eqN (v2 none none none)<|zb (x:=.int (0:Nat));have t2:=eqN (v2 none none none)<|k.size<|v1 none none none
  by_cases e0:i=0
  . rw[zyN e0]at t1;subst e0;exact⟨.non,d,zM rfl<|yd<|yr t1<|zx<|xD (WD.e zb)<|WD.e<|v1 _ _ _,.n,k.o⟩
  rw[zyF e0]at t1
  by_cases e1:i=R.length
  . rw[zyN e1]at t2;refine⟨d,.non,zM rfl<|zd (zm t1 rfl)<|yd<|yr t2<|zx<|xD (WD.e<|v1 _ _ _)<|WD.e zb, ?_, ?_⟩
    . rw[e1,List.take_length];exact k.o
    . rw[e1,List.drop_length];exact .n
  rw[zyF e1]at t2;have p0:p≠0:=λz=>by subst z;have:=k.one;omega
  obtain⟨x,y,r,s,u,v,k0,k1,k2,_,_,rfl,rfl⟩:=Zp h k p0;rw[zzJ]at hl hi e1;have s3:=xp (p:=3) (yy (wy none none none) (WD.e<|v1 _ _ _) k0)<|zi rfl;have u0:∀b e,WD (f2 zK zW zD) [sT c.w,sT d,sI i,sT<|.tup [x,y],b,e] true x:=λ_ _=>xf (j:=3) rfl rfl;have u1:∀b e,WD (f2 zK zO zD) [sT c.w,sT d,sI i,sT<|.tup [x,y],b,e] true y:=λ_ _=>xf (j:=3) rfl rfl;have s4:=zV (i:=4) (st:=true) (k1.size<|u0 none none)<|zi rfl;have v4:∀e,WD zX [sT c.w,sT d,sI i,sT<|.tup [x,y],sI r.length,e] true (.int r.length):=λ_=>za (i:=4) rfl;have t5:=zN (Bp (v2 (sT<|.tup [x,y]) (sI r.length) none)<|v4 none) rfl
  by_cases g:i<r.length
  . rw[zyN<|(q0h g)]at t5;obtain⟨a,b,a1,a2,a3⟩:=LQ h n i k1 (by omega) (q0s hl) (q0o g);obtain⟨f,f1,f2⟩:=ME h a3 k2.o (by rw[List.length_drop];omega) (by omega);have s5:=xp (p:=5) (z9 (wy _ _ _) (WD.e<|u0 (sI r.length) none) (WD.e<|v2 _ _ _) a1)<|zi rfl;refine⟨a,f,zM rfl<|zd (zm t1 rfl)<|zd (zm t2 rfl)<|zd s3<|zd s4<|yd<|yr t5<|zd s5<|zx<|xD (WD.e<|xf (j:=5) rfl rfl)<|z9 (wy _ _ _) (WD.e<|xf (j:=5) rfl rfl) (WD.e<|u1 _ _) f1, ?_, ?_⟩
    . rw[List.take_append_of_le_length<|(q0o g)];exact a2
    . rw[List.drop_append_of_le_length<|(q0o g)];exact f2
  . rw[zyF<|by omega]at t5;obtain⟨a,b,a1,a2,a3⟩:=LQ h n (i-r.length) k2 (by omega) (q1a hl) (by omega);obtain⟨f,f1,f2⟩:=ME h k1.o a2 (q0s hl) (by rw[zzS];omega);have ws:=vS (v2 (sT<|.tup [x,y]) (sI r.length) none)<|v4 none;rw[show(i:Int)-r.length=((i-r.length:Nat):Int) by omega]at ws;have s5:=xp (p:=5) (z9 (wy _ _ _) (WD.e<|u1 _ _) (WD.e ws) a1)<|zi rfl;refine⟨f,b,zM rfl<|zd (zm t1 rfl)<|zd (zm t2 rfl)<|zd s3<|zd s4<|zd (zm t5 rfl)<|zd s5<|zx<|xD (z9 (wy _ _ _) (WD.e<|u0 _ _) (WD.e<|xf (j:=5) rfl rfl) f1)<|WD.e<|xf (j:=5) rfl rfl, ?_, ?_⟩
    . rw[List.take_append,List.take_of_length_le<|(q0r g)];exact f2
    . rw[List.drop_append,List.drop_of_length_le (q0r g),List.nil_append];exact a3
def E_(h:c.Ok)(k:OT c d R)(i:Nat)(hl:R.length<=1000)(hi:i<=R.length):∃a b,RE (xy 20 [(true,c.w),(true,d),(true,.int i)]) (.tup [a,b])/\OT c a (R.take i)/\OT c b (R.drop i):=by
 rcases k with⟨rfl,rfl⟩|⟨p,k⟩
 . cases Nat.le_zero.mp hi;exact⟨.non,.non,zM rfl<|yd<|yr (zN (Yz (c:=true) (za (i:=2) rfl) zb rfl) rfl)<|zx<|xD (WD.e zb)<|WD.e<|za (i:=1) rfl,.n,.n⟩
 . exact LQ h 20 i k (k.lt hl) hl hi
end
section
variable{n m:Nat}{J:TZ}{e:Int}{Ds:DD}{S:SS}
def FJ{p:Str×TZ}(nd:(Ds.map (·.1)).Nodup)(hp:p ∈ Ds):RE (Ye [(true,Vn n m J e Ds S),(true,.str p.1)]) (wo p.2):=by
 have ww:WD (f1 zh<|zP YT "waits") [sT<|Vn n m J e Ds S,sT<|.str p.1] true (.dct<|Ds.map D6):=EV (c:="Ways") (ns:=G7) rfl (by decide +kernel) rfl;refine zM rfl<|zx<|VO (WD.e ww) (WD.e<|za (i:=1) rfl) ?_;show Jb (Xq (Ds.map D6)<|.inr p.1)=_;rw[QH (kf:=λp:Str×TZ=>p.1) (vf:=λp=>wo p.2) hp nd];rfl
end
section
variable{c:Cx}{x y d:D}{r s R:List Int}{p q:Nat}
def Cx.Ok.deed(h:c.Ok){k:Nat}{p:Str×TZ}(hp:c.Ds[k]? = some p):c.W p.2:=⟨h.A.ds p<|zzZ hp,h.L.ld p<|zzZ hp⟩
def qd(h:c.Ok){T:TZ}(hT:c.W T)(k:OT c d R):∃d',RE (Ze [(true,c.w),(true,d),(true,wo T)]) d'/\OT c d' (c.ap (some T) R):=by
 rcases k with⟨rfl,rfl⟩|⟨p,k⟩
 . exact⟨.non,zM rfl<|yd<|yr (zN (zu (za (i:=1) rfl) zb rfl rfl) rfl)<|zx<|WD.e zb,.n⟩
 . obtain⟨d',a,b⟩:=Na h hT k;exact⟨d',a,b.o⟩
def C1(h:c.Ok)(k:OT c d R):∃d',RE (xG [(true,c.w),(true,d)]) d'/\OT c d' R.reverse:=by
 rcases k with⟨rfl,rfl⟩|⟨p,k⟩
 . exact⟨.non,zM rfl<|yd<|yr (zN (zu (za (i:=1) rfl) zb rfl rfl) rfl)<|zx<|WD.e zb,.n⟩
 . obtain⟨d',a,b⟩:=Q8 h k;exact⟨d',a,b.o⟩
def uu{a b:EF}{as:AS}{k:Nat}{p:Str×TZ}(ha:WD a as true c.g)(hb:WD b as true (.int k))(hp:c.Ds[k]? = some p):WD (f2 (f2 a RD zD) b zD) as true (XI p):=yP (yP (z:=.lst<|c.Ds.map XI) ha zb rfl) hb<|Z6 hp
def pV{a:EF}{as:AS}(ha:WD a as true c.g):WD (fP (aC (f2 a RD zD) aN) yA) as true (.int (c.Ds.length:Nat)):=by
 have:=yo (g:=yA) (x:=.int ((c.Ds.map XI).length:Nat)) (zc (yP (g:=zD) (z:=.lst<|c.Ds.map XI) ha (zb (x:=.int 4)) rfl) zj) rfl rfl;rw[zzB]at this;exact this
def Ci(h:c.Ok){k:Nat}{p:Str×TZ}(hp:c.Ds[k]? = some p)(hr:c.In r)(hl:r.length<=1000):RE (VY [(true,c.g),(true,.int k),(true,zg r)]) (zg<|c.ap (some p.2) r):=by
 have W:=h.deed hp;have m1:=h.A.m1;have wm:=yc (zb (x:=.int 1)) (zu (g:=zD) (z:=.int c.m) (as:=[sT c.g,sI k,sT<|zg r,none]) (za (i:=0) rfl) (zb (x:=.int 1)) rfl rfl) (q0e m1);have w3:=yP (g:=zD) (yP (g:=zD) (z:=xI p.2) (uu (za (i:=0) rfl) (za (i:=1) rfl) hp) (zb (x:=.int 1)) rfl) wm (Zg W.t h.m1).1;have s3:=zV (st:=true) (i:=3) w3<|zi rfl;have ib:=BP (g:=D.int) (l:=r) (as:=[sT c.g,sI k,sT<|zg r,sT<|zg<|VZ p.2<|1%(c.m:Int)])<|WD.e<|za (i:=2) rfl;have wm:=Yg (h:=λv:Int=>D.int<|yT p.2 (1%(c.m:Int)) v) (it:=λv=>(true,D.int v)) (cap:=[none,some 3]) (gg:=gN 0) (fe:=f2 zk zh zD) r ib (q1y hl) λv mv=>⟨[sI v,sT<|zg<|VZ p.2<|1%(c.m:Int)],rfl,WD.e<|zu (za (i:=1) rfl) (za (i:=0) rfl) (rowAt (Zg W.t h.m1).2<|hr v mv).1 rfl⟩;refine zM rfl<|zd s3<|zx ?_;show WE _ _ (.lst<|(r.map<|yT p.2<|1%(c.m:Int)).map D.int);rw[zyA];exact wm
def HJ{a:EF}{as:AS}{x:Int}{k:Nat}(ha:WD a as true (.int x))(hk:1<=k){b:EF}(hb:WD b as true (.int k)):∃w:Nat,w<k/\x%(k:Int)=w/\WD (f2 a b zy) as true (.int w):=by
 obtain⟨w,e,l⟩:=JH x k hk;have:=yc ha hb (q0e hk);rw[e]at this;exact⟨w,l,e,this⟩
def lF{k:Nat}(hk:k<c.Ds.length):∃p,c.Ds[k]? = some p:=⟨_,zzE hk⟩
end
def slt{n:Nat}(h:n<1000):n<sizeLine:=zzK h (Bv<|by decide)
def B2{a b c:EF}{as:AS}{i j k:Int}{s t u:Bool}(ha:WD a as s (.int i))(hb:WD b as t (.int j))(hc:WD c as u (.int k))(h1:i<=j)(h2:j<=k):WD (LN a b c (zw .LtE)<|zw .LtE) as true (.bl true):=by
 unfold WD at *;unfold LN;rw[ha];simp only[zyK];rw[hb];simp only[zyK];simp only[RV.frz,O.frz,RV.view,O.toD,O.str,zyK,zw,HF,A6,N0,Jx,h1,h2,decide_true,hc];rfl
def Pm{s:Bool}{x:Int}:V6 [(s,.int x)]=sT (.bl true):=rfl
def Ui{x k:Int}(h0:0<=x)(h1:x<=k):vK [(true,.int x),(true,.int 0),(true,.int k)]=sT (.bl true):=
 wQ rfl (xt<|LH (k:=true) (vM (zc (za (i:=0) rfl) zj) Pm) (λ_=>B2 (za (i:=1) rfl) (za (i:=0) rfl) (za (i:=2) rfl) h0 h1) (λz=>nomatch z))
abbrev Wo:List Str:=["way","trees"]
abbrev yp(c:Cx)(ts:List D):O:=.nd (.ob "Makes" Wo) [.lf true c.w,.nd .ls<|ts.map<|O.lf true]
abbrev Yn(c:Cx)(ts:List D):D:=.ob "Makes" Wo [c.w,.lst ts]
section
variable{c:Cx}{ts:List D}{as:AS}{i:Nat}
theorem uk:∀ts:List D,(ts.map<|O.lf true).all O.isLf=true
 | []=>rfl
 |_::r=>uk r
def Pb:PK (some<|some<|yp c ts)=some (Yn c ts):=by
 show(if true=true/\(ts.map<|O.lf true).all O.isLf=true/\O.strs (ts.map<|O.lf true)=true then some (D.ob "Makes" Wo [c.w,.lst<|O.toDs<|ts.map<|O.lf true])else none)=_;rw[if_pos ⟨rfl,uk ts,QO ts⟩,QL]
def UD:(yp c ts).str=true:=by
 show(true&&(O.strs (ts.map<|O.lf true)&&true))=true;rw[QO];rfl
def Q4{m:Str}{tbl:List (Str×Fn)}{g:Fn}{a:EF}{x:D}{o:O}(h:as[i]? = some (some<|yp c ts))(hm:m ∉ Wo)(ht:Fw tbl "Makes"=some g)(ha:WE a as x)(hg:g [(true,Yn c ts),(true,x)]=some o)(ho:uE Wo o=true):xW i tbl m (aC a aN) as=some (.ow o,as):=by
 have hr:=xC ha zj;unfold WA at hr;unfold xW;rw[h,Pb];show(if m ∈ Wo then none else some "Makes":Option Str).bind _=_;rw[if_neg hm];show(Fw tbl "Makes").bind _=_;rw[ht];show(aC a aN as).bind _=_;rw[hr];show(PK as[i]?).bind _=_;rw[h,Pb,zyK];show(ZE as<|List.map (λx:Bool×D=>RV.ow<|O.lf x.1 x.2) [(true,x)]).bind _=_;rw[ZX];show(g [(true,Yn c ts),(zE x||true,x)]).bind _=_;rw[zyC,hg];show(if uE Wo o=true then some (RV.ow o,as)else none)=_;rw[if_pos ho]
def Z4{m:Str}{g:List wB->O->Option (D×O)}{fr:AF}{rs:List RV}{xs:List wB}{v:D}{ts':List D}(h:as[i]? = some (some<|yp c ts))(hm:m ∉ Wo)(hr:fr as=some (rs,as))(ha:VE i as rs=some xs)(hg:g xs (yp c ts)=some (v,yp c ts')):wq i "Makes" m g fr as=some (.ow<|.lf true v,as.set i<|some<|yp c ts'):=by
 unfold wq;rw[h];show(if m ∈ Wo then none else some "Makes":Option Str).bind _=_;rw[if_neg hm,zyK,if_pos rfl,hr];show(VE i as rs).bind _=_;rw[ha];show(as[i]?).bind _=_;rw[h];show(g xs<|yp c ts).bind _=_;rw[hg];show(if(yp c ts').str=true then _ else _)=_;rw[if_pos UD]
def Yr{f:SF}{g:VF}{as1:AS}{x:Option (D×AS)}(h:f as=some (.nx as1))(k:g as1=x):Zd f g as=x:=by
 unfold Zd;rw[h];exact k
def JP:xu "Makes" [(true,c.w)]=some (yp c []):=by
 have h:Zh (ZD 2 (n4 "Makes"::[(true,c.w)].map O7))=some [some<|yp c [],sT c.w]:=yC (yU (c:="Makes") (i:=0) (ns:=[]) (os:=[]) (WD.e<|za (i:=1) rfl) rfl (by decide +kernel) (by decide +kernel)<|by decide) (by
  unfold C6;rw[WY ye<|Wl rfl];exact if_pos (e:=none) (c:=("Makes":Str) ∈ xv/\("trees":Str) ∉ ([("way":Str)]:List Str)/\1<1000) ⟨by decide +kernel,by decide +kernel,by decide⟩)
 unfold xu rV;rw[if_pos (by rfl),h];rfl
def LG{d:D}(hl:ts.length<900):zU [(true,d)] (yp c ts)=some (.int ts.length,yp c<|ts++[d]):=by
 have s1:ng 0 1 xv "trees" [some<|yp c ts,sT d]=some (.nx [some<|yp c<|ts++[d],sT d]):=by
  show(if("Makes":Str) ∈ xv/\("trees":Str)="trees"/\("way":Str)≠"trees"/\(ts.map<|O.lf true).length<sizeLine then some (Out.nx [some<|.nd (.ob "Makes" Wo) [.lf true c.w,.nd .ls<|ts.map (O.lf true)++[.lf true d]],sT d])else none)=_;rw[if_pos ⟨by decide +kernel,rfl,by decide +kernel,by rw[zzB];exact slt<|(q1c hl)⟩];show some (Out.nx [some<|.nd (.ob "Makes" Wo) [.lf true c.w,.nd .ls<|ts.map (O.lf true)++[.lf true d]],sT d])=some (Out.nx [some<|.nd (.ob "Makes" Wo) [.lf true c.w,.nd .ls<|(ts++[d]).map<|O.lf true],sT d]);rw[zyL];rfl
 have w:WD (p_ 0 xv "trees") [some<|yp c<|ts++[d],sT d] true (.int ((ts.length+1:Nat):Int)):=by
  show(if("Makes":Str) ∈ xv/\("trees":Str)="trees"/\("way":Str)≠"trees" then some (RV.ow<|.lf true<|.int ((ts++[d]).map<|O.lf true).length,_)else none)=_;rw[if_pos ⟨by decide +kernel,rfl,by decide +kernel⟩,zzB,zzJ];rfl
 have w2:=vS w<|zb (x:=.int 1);rw[show((ts.length+1:Nat):Int)-1=ts.length by omega]at w2;have hv:ZP [some<|yp c ts,sT d]=some (.int ts.length,[some<|yp c<|ts++[d],sT d]):=Yr s1 (by
  unfold YQ;unfold WD at w2;rw[w2];rfl)
 unfold zU Hy;rw[if_pos<|by rfl];show(ZP [some<|yp c ts,sT d]).bind _=_;rw[hv];show(if(yp c<|ts++[d]).str=true then _ else _)=_;rw[if_pos UD]
def L5(h:WD (fV i) as true (Yn c ts)):WD (f1 (fV i)<|zP z_ "way") as true c.w:=by
 have:=Ql (n:="way") h (by decide +kernel:("Makes":Str) ∈ z_) (d:=c.w) rfl;rw[zyC]at this;exact this
def LX(h:WD (fV i) as true (Yn c ts)):WD (f1 (fV i)<|zP xv "trees") as true (.lst ts):=by
 have:=Ql (n:="trees") h (by decide +kernel:("Makes":Str) ∈ xv) (d:=.lst ts) rfl;rw[zyC]at this;exact this
def Ia{v:Int}(hv:zJ c.n v):RE (Zy [(true,c.w),(true,.int v)]) (.bl true):=by
 have w:WD (f1 zh<|zP xF "size") [sT c.w,sI v] true (.int c.n):=by
  have:=Ql (n:="size") (za (as:=[sT c.w,sI v]) (i:=0) (x:=c.w) (s:=true) rfl) (by decide +kernel:("Ways":Str) ∈ xF) (d:=.int c.n) rfl;rw[zyC]at this;exact this
 exact zM rfl (zx<|z9 (WD.e<|za (i:=1) rfl) (WD.e zb) (WD.e<|vS w<|zb (x:=.int 1))<|RE.of<|Ui hv.1<|by have:=hv.2;omega)
def La{v:Int}(hv:zJ c.n v):yt [(true,Yn c ts),(true,.int v)]=sT .non:=by
 have h:wW (vX 2 [(true,Yn c ts),(true,.int v)])=some (.nx [sT<|Yn c ts,sI v]):=zm (YG (k:=true)<|uR<|XF (L5<|za (i:=0) rfl) (by decide +kernel) rfl (WD.e<|za (i:=1) rfl)<|Ia hv) rfl;unfold yt xZ;rw[if_pos (by rfl),h];rfl
def Xa{k:Nat}{d:D}(hk:ts[k]? = some d):RE (yE [(true,Yn c ts),(true,.int k)]) d:=by
 have kl:=(zzG.mp hk).1;have wl:WD qf [sT<|Yn c ts,sI k] true (.int ts.length):=Fu (WD.e<|LX<|za (i:=0) rfl) rfl;have w:=uR (z9 (WD.e<|za (as:=[sT<|Yn c ts,sI k]) (i:=1) rfl) (WD.e<|zb (x:=.int 0)) (WD.e<|vS wl<|zb (x:=.int 1))<|RE.of<|Ui (x:=k) (q0b)<|(q0F kl));refine zM rfl<|zd (zm (YG w) rfl)<|zx<|WD.e<|Ba (WD.e<|LX<|za (i:=0) rfl) (WD.e<|za (i:=1) rfl) ?_;have:=Z6 (f:=λd:D=>d) hk
 rwa [List.map_id']at this
end
section
variable{c:Cx}{ts:List D}{as:AS}{i:Nat}{r:List Int}
def nH{s:Bool}(h:as[i]? = some (some<|.lf s<|zg r)):Yd (fV i) as=some (r.map λx=>(true,D.int x),as):=by
 rw[Jf h];unfold kids;rw[zyA];rfl
def Ss{k:Int}(h:k<=300):wK [(true,.int k)]=sT .non:=by
 have h:Xr (vX 1 [(true,.int k)])=some (.nx [sI k]):=zm (zN (zu (z:=.bl<|decide ((300:Int)<k)) (za (i:=0) (x:=.int k) (s:=true) rfl) zb rfl rfl) (by show some (decide ((300:Int)<k))=_;rw[zyF<|by omega])) rfl;unfold wK xZ;rw[if_pos (by rfl),h];rfl
def P7{s:Bool}(h:c.Ok)(hl:r.length<=300)(hv:c.In r)(tl:ts.length<900):∃d,OT c d r/\yx [(s,zg r)] (yp c ts)=some (.int ts.length,yp c<|ts++[d]):=by
 obtain⟨d,⟨o,t1,t2,t3⟩,hd⟩:=Ic h (by omega) hv s;have s1:xg (YC<|fT<|Um zk "list") Ik xj [some<|yp c ts,some<|.lf s<|zg r,none]=some (.nx [some<|yp c ts,some<|.lf s<|zg r,none]):=zm (YG (k:=true) rfl) rfl;obtain⟨as',h2,e,rfl⟩:=xr (g:=gN 2) (f:=yw<|xW 0 yW "check_value" xN) (λ_ as=>∃e,as=[some<|yp c ts,some<|.lf s<|zg r,e]) (r.map λx=>(true,D.int x)) 0 [some<|yp c ts,some<|.lf s<|zg r,none] (λj x as hx hI=>by
  obtain⟨e,rfl⟩:=hI;rw[zzI]at hx;obtain⟨v,hv',rfl⟩:=zzW.mp hx;refine⟨[some<|yp c ts,some<|.lf s<|zg r,sI v],rfl,[some<|yp c ts,some<|.lf s<|zg r,sI v], ?_,_,rfl⟩;unfold yw;rw[Q4 (i:=0) (c:=c) (ts:=ts) (tbl:=yW) (g:=yt) (o:=.lf true .non) rfl (by decide +kernel) rfl (WD.e<|za (i:=2) rfl) (La<|hv v<|zzZ hv') rfl];rfl) ⟨_,rfl⟩
 have s2:=xk (nH (as:=[some<|yp c ts,some<|.lf s<|zg r,none]) (i:=1) (r:=r) rfl) h2;have wl:WD (fP yI yA) [some<|yp c ts,some<|.lf s<|zg r,e] true (.int r.length):=by
  have:=yo (as:=[some<|yp c ts,some<|.lf s<|zg r,e]) (g:=yA) (x:=.int ((r.map D.int).length:Nat)) (zc (za (i:=1) (x:=zg r) (s:=s) rfl) zj) rfl rfl
  rwa [zzB]at this
 have s3:yw (ze (aC (fP yI yA) aN) wK) [some<|yp c ts,some<|.lf s<|zg r,e]=some (.nx [some<|yp c ts,some<|.lf s<|zg r,e]):=by
  unfold yw;have:=CA (WD.e wl) (Ss (k:=r.length)<|by omega);unfold WD at this;rw[this];rfl
 have wy:WD (GD 0 z_ "way") [some<|yp c ts,some<|.lf s<|zg r,e] true c.w:=if_pos (c:=("Makes":Str) ∈ z_/\("way":Str)="way") (e:=none) ⟨by decide +kernel,rfl⟩;have wt:ze (aC (GD 0 z_ "way") yI) (xR 20) [some<|yp c ts,some<|.lf s<|zg r,e]=some (.ow o,[some<|yp c ts,some<|.lf s<|zg r,e]):=vR (zc wy<|zc (za (i:=1) (x:=zg r) (s:=s) rfl) zj) t1;have hk:=Z4 (as:=[some<|yp c ts,some<|.lf s<|zg r,e]) (i:=0) (c:=c) (ts:=ts) (m:="keep") (g:=zU) (fr:=aC (ze (aC (GD 0 z_ "way") yI)<|xR 20) aN) (rs:=[.ow<|.lf true d]) (xs:=[(true,d)]) rfl (by decide +kernel) (xC ⟨o,wt,t2,t3⟩ zj) (by
  show some [(zE d||true,d)]=_;rw[zyC])<|LG tl
 refine⟨d,hd, ?_⟩;have hc:ZL [some<|yp c ts,some<|.lf s<|zg r,none]=some (.int ts.length,[some<|yp c<|ts++[d],some<|.lf s<|zg r,e]):=Yr s1 (Yr s2<|Yr s3<|by
  unfold YQ;rw[hk];rfl)
 unfold yx Hy;rw[if_pos<|by rfl];show(ZL [some<|yp c ts,some<|.lf s<|zg r,none]).bind _=_;rw[hc];show(if(yp c<|ts++[d]).str=true then _ else _)=_;rw[if_pos UD]
def W3{k:Nat}{d:D}(h:c.Ok)(hk:ts[k]? = some d)(hd:OT c d r)(hl:r.length<=900):wA [(true,Yn c ts),(true,.int k)]=some (xJ r):=by
 obtain⟨o,t1,t2,t3⟩:=Xa (c:=c) hk;have wt:WE (y_ yH "tree_at" zh yI) [sT<|Yn c ts,sI k] d:=XF (za (i:=0) rfl) (by decide +kernel) rfl (WD.e<|za (i:=1) rfl) ⟨o,t1,t2,t3⟩;refine wQ rfl<|ND (as1:=[sT<|Yn c ts,sI k]) (vR (zc (L5<|za (i:=0) rfl)<|xC wt zj) ?_) (ZZ r).1;show Y4 [(true,c.w),(zE d||true,d)]=_;rw[zyC];exact mj h hd (q0a hl)
def DR{k:Nat}{d:D}(hk:ts[k]? = some d)(hd:OT c d r):RE (Xs [(true,Yn c ts),(true,.int k)]) (.int r.length):=
 zM rfl (zx<|wX (XF (za (i:=0) rfl) (by decide +kernel) rfl (WD.e<|za (i:=1) rfl)<|Xa hk)<|Qg hd)
end
section
variable{n m:Nat}{J:TZ}{e:Int}{Ds:DD}{S:SS}
section
variable{p:Str×List Int}(nd:(S.map (·.1)).Nodup)(hp:p ∈ S)
include nd hp
def sign_is:RE (Z1 [(true,Vn n m J e Ds S),(true,.str p.1)]) (.bl true):=by
 have ww:WD (f1 zh<|zP Za "holders") [sT<|Vn n m J e Ds S,sT<|.str p.1] true (.dct<|S.map uS):=EV (c:="Ways") (ns:=G7) rfl (by decide +kernel) rfl;have i1:WD (Um zk "str") [sT<|Vn n m J e Ds S,sT<|.str p.1] true (.bl true):=rfl;refine zM rfl<|zx<|WD.e<|LH (k:=true) i1 (λ_=>zu (za (i:=1) rfl) ww ?_ rfl) (λz=>nomatch z);show((some (Xq (S.map uS)<|.inr p.1).isSome).bind λb=>some<|Jx b)=_;rw[QH (kf:=λp:Str×List Int=>p.1) (vf:=λp=>Zb p.2) hp nd];rfl
def tq{v:Int}{t:Bool}(ht:anyF (λy=>YS 50 y<|.int v) (p.2.map D.int)=some t):RE (Zw [(true,Vn n m J e Ds S),(true,.str p.1),(true,.int v)]) (.bl t):=by
 have ww:WD (f1 zh<|zP Za "holders") [sT<|Vn n m J e Ds S,sT<|.str p.1,sI v] true (.dct<|S.map uS):=EV (c:="Ways") (ns:=G7) rfl (by decide +kernel) rfl;have wv:=yP (g:=zD) (z:=Zb p.2) ww (za (i:=1) (x:=.str p.1) rfl) (by
  show Jb (Xq (S.map uS)<|.inr p.1)=_;rw[QH (kf:=λp:Str×List Int=>p.1) (vf:=λp=>Zb p.2) hp nd];rfl)
 refine zM rfl<|zx<|WD.e<|zu (za (i:=2) rfl) wv ?_ rfl;show(anyF (λy=>YS 50 y<|.int v)<|p.2.map D.int).bind _=_;rw[ht];rfl
end
def AM{p:Str×TZ}(nd:(Ds.map (·.1)).Nodup)(hp:p ∈ Ds):RE (Z5 [(true,Vn n m J e Ds S),(true,.str p.1)]) (.bl true):=by
 have ww:WD (f1 zh<|zP YT "waits") [sT<|Vn n m J e Ds S,sT<|.str p.1] true (.dct<|Ds.map D6):=EV (c:="Ways") (ns:=G7) rfl (by decide +kernel) rfl;have i1:WD (Um zk "str") [sT<|Vn n m J e Ds S,sT<|.str p.1] true (.bl true):=rfl;refine zM rfl<|zx<|WD.e<|LH (k:=true) i1 (λ_=>zu (za (i:=1) rfl) ww ?_ rfl) (λz=>nomatch z);show((some (Xq (Ds.map D6)<|.inr p.1).isSome).bind λb=>some<|Jx b)=_;rw[QH (kf:=λp:Str×TZ=>p.1) (vf:=λp=>wo p.2) hp nd];rfl
end
section
variable{c:Cx}{x y d:D}{r s R:List Int}{p q:Nat}{ts:List D}{as:AS}
theorem Jr(k:Nat):∀r:List Int,(r.map D.int).all (nc Wo<|k+1)=true
 | []=>rfl
 |_::r=>Jr k r
theorem O6(k:Nat):∀T:TZ,(T.map Zb).all (nc Wo<|k+2)=true
 | []=>rfl
 |r::T=>by
  show(((r.map D.int).all<|nc Wo<|k+1)&&(T.map Zb).all (nc Wo<|k+2))=true;rw[Jr,O6 k T];rfl
theorem TK.nc(k:TK c d R p):∀j,p+4<=j->nc Wo j d=true:=by
 induction k with
 |lf v t _=>
  intro j hj;obtain⟨j,rfl⟩:∃i,j=i+2:=⟨j-2,by omega⟩;rfl
 | @nd w t x y r s p q R a b _ _ hw e i1 i2=>
  intro j hj;obtain⟨j,rfl⟩:∃i,j=i+4:=⟨j-4,by omega⟩;have h1:=i1 (j+3) (by omega);have h2:=i2 (j+3) (by omega);have h3:PF.nc Wo (j+3) (XQ w)=true:=by
   cases w with
   |none=>rfl
   |some T=>exact O6 j T
  show(decide (rN≠Wo)&&(true&&(true&&(PF.nc Wo (j+3) (XQ w)&&(true&&(PF.nc Wo (j+3) x&&(PF.nc Wo (j+3) y&&(true&&(true&&true)))))))))=true;rw[h1,h2,h3];rfl
theorem OT.nc(k:OT c d R)(hl:R.length<=1000){j:Nat}(hj:24<=j):nc Wo j d=true:=by
 rcases k with⟨rfl,_⟩|⟨p,k⟩
 . obtain⟨j,rfl⟩:∃i,j=i+1:=⟨j-1,by omega⟩;rfl
 . exact k.nc j (by have:=k.lt hl;omega)
def DH{x a b:Int}(h0:a<=x)(h1:x<=b):vK [(true,.int x),(true,.int a),(true,.int b)]=sT (.bl true):=
 wQ rfl (xt<|LH (k:=true) (vM (zc (za (i:=0) rfl) zj) Pm) (λ_=>B2 (za (i:=1) rfl) (za (i:=0) rfl) (za (i:=2) rfl) h0 h1) (λz=>nomatch z))
def CS{x a b:Int}(h0:a<=x)(h1:x<=b):yR [(true,.int x),(true,.int a),(true,.int b)]=sT .non:=by
 have h:YL (vX 3 [(true,.int x),(true,.int a),(true,.int b)])=some (.nx [sI x,sI a,sI b]):=zm (YG (k:=true)<|uR<|WD.e<|Il (WD.e<|za (i:=0) rfl) (WD.e<|za (i:=1) rfl) (WD.e<|za (i:=2) rfl)<|DH h0 h1) rfl;unfold yR xZ;rw[if_pos (by rfl),h];rfl
def Tr{f g h:EF}{x a b:Int}(wf:WE f as (.int x))(wg:WE g as (.int a))(wh:WE h as (.int b))(h0:a<=x)(h1:x<=b):yw (ze (aC f<|aC g<|aC h aN) yR) as=some (.nx as):=by
 have:=Il wf wg wh<|CS h0 h1;unfold WD at this;unfold yw;rw[this];rfl
def X7(h:c.Ok){k:Nat}(hk:ts[k]? = some d)(hd:OT c d R)(hl:R.length<=900){i j:Nat}(h1:i<=j)(h2:j<=R.length):∃x y z,yj [(true,Yn c ts),(true,.int k),(true,.int i),(true,.int j)]=sT (.tup [x,y,z])/\OT c x (R.take i)/\OT c y ((R.take j).drop i)/\OT c z (R.drop j):=by
 obtain⟨a,z,a1,a2,a3⟩:=E_ h hd j (q0a hl) h2;obtain⟨x,y,b1,b2,b3⟩:=E_ h a2 i (by rw[zzS];omega) (by rw[zzS];omega);have wt:WE (y_ yH "tree_at" zh yI) [sT<|Yn c ts,sI k,sI i,sI j,none,none,none] d:=XF (za (i:=0) rfl) (by decide +kernel) rfl (WD.e<|za (i:=1) rfl)<|Xa hk;have s4:=xp (p:=4) wt<|zi rfl;have ws:WE (ze (aC zX aN) xb) [sT<|Yn c ts,sI k,sI i,sI j,sT d,none,none] (.int R.length):=wX (WD.e<|za (i:=4) rfl)<|Qg hd;have s5:=Tr (WD.e<|za (i:=2) (s:=true) (x:=.int i) rfl) (WD.e<|zb (x:=.int 0)) ws (q0b) (by omega);have s6:=Tr (WD.e<|za (i:=3) (s:=true) (x:=.int j) rfl) (WD.e<|za (i:=2) (s:=true) (x:=.int i) rfl) ws (q0q h1) (q0q h2);have s7:=xp (p:=5) (as:=[sT<|Yn c ts,sI k,sI i,sI j,sT d,none,none]) (z9 (WD.e<|L5<|za (i:=0) rfl) (WD.e<|za (i:=4) rfl) (WD.e<|za (i:=3) rfl) a1)<|zi rfl;have s8:=xp (p:=6) (as:=[sT<|Yn c ts,sI k,sI i,sI j,sT d,sT<|.tup [a,z],none]) (z9 (WD.e<|L5<|za (i:=0) rfl) (WD.e<|xf (j:=5) (i:=0) rfl rfl) (WD.e<|za (i:=2) rfl) b1)<|zi rfl;rw[List.take_take,Nat.min_eq_left h1]at b2;exact⟨x,y,z,wQ rfl<|zt s4<|zt s5<|zt s6<|zt s7<|zt s8<|xt<|FM (os:=[.lf true x,.lf true y,.lf true z]) (zL (xf (j:=6) rfl rfl)<|zL (xf (j:=6) rfl rfl)<|zL (xf (j:=5) rfl rfl) ye) (Wl rfl) rfl,b2,b3,a3⟩
def Fd{f:EF}{x:D}(h:WE f as x):WD (N4 f) as true x:=by
 obtain⟨o,h1,h2,h3⟩:=h;unfold WD N4;rw[h1];show some (RV.ow<|.lf o.str o.toD,as)=_;rw[h2,h3]
def NF(h:c.Ok){u v w:D}{a b e:List Int}(ha:OT c u a)(hb:OT c v b)(he:OT c w e)(hl:a.length+b.length+e.length<=900):∃d,zH [(true,Yn c ts),(true,u),(true,v),(true,w)]=sT d/\OT c d (a++b++e):=by
 obtain⟨d1,p1,p2⟩:=ME h ha hb (by omega) (by omega);obtain⟨d,q1,q2⟩:=ME h p2 he (by rw[zzJ];omega) (by omega);exact⟨d,wQ rfl<|xt<|Fd<|z9 (WD.e<|L5<|za (i:=0) rfl) (z9 (WD.e<|L5<|za (i:=0) rfl) (WD.e<|za (i:=1) rfl) (WD.e<|za (i:=2) rfl) p1) (WD.e<|za (i:=3) rfl) q1,q2⟩
end
section
variable{c:Cx}{ts:List D}{as:AS}{i:Nat}{d:D}{R:List Int}{k:Nat}
def X5{m:Str}{tbl:List (Str×Fn)}{g:Fn}{fr:AF}{xs:List (Bool×D)}{o:O}(h:as[i]? = some (some<|yp c ts))(hm:m ∉ Wo)(ht:Fw tbl "Makes"=some g)(b:WA fr as xs)(hg:g ((true,Yn c ts)::xs.map λx=>(zE x.2||x.1,x.2))=some o)(ho:uE Wo o=true):xW i tbl m fr as=some (.ow o,as):=by
 unfold WA at b;unfold xW;rw[h,Pb];show(if m ∈ Wo then none else some "Makes":Option Str).bind _=_;rw[if_neg hm];show(Fw tbl "Makes").bind _=_;rw[ht];show(fr as).bind _=_;rw[b];show(PK as[i]?).bind _=_;rw[h,Pb,zyK];show(ZE as<|List.map (λx:Bool×D=>RV.ow<|O.lf x.1 x.2) xs).bind _=_;rw[ZX];show(g ((true,Yn c ts)::_)).bind _=_;rw[hg];show(if uE Wo o=true then some (RV.ow o,as)else none)=_;rw[if_pos ho]
def IB(h:as[0]? = some (some<|yp c ts)):WD (GD 0 z_ "way") as true c.w:=by
 unfold WD GD;rw[h];exact if_pos (c:=("Makes":Str) ∈ z_/\("way":Str)="way") (e:=none) ⟨by decide +kernel,rfl⟩
def By{fr:AF}{d:D}(h:as[0]? = some (some<|yp c ts))(hr:WA fr as [(true,d)])(tl:ts.length<900):YQ (wq 0 "Makes" "keep" zU fr) as=some (.int ts.length,as.set 0<|some<|yp c<|ts++[d]):=by
 have hk:=Z4 (as:=as) (i:=0) (c:=c) (ts:=ts) (m:="keep") (g:=zU) (fr:=fr) (rs:=[.ow<|.lf true d]) (xs:=[(true,d)]) h (by decide +kernel) hr (by
  show some [(zE d||true,d)]=_;rw[zyC])<|LG tl
 unfold YQ;rw[hk];rfl
def h_{as1:AS}{a b:EF}{x y:D}(ha:WD a as true x)(hb:b as=some (.ow<|.lf true y,as1)):dC a (dC b dN) as=some ([.lf true x,.lf true y],as1):=by
 unfold WD at ha;show(a as).bind _=_;rw[ha];show((b as).bind _).bind _=_;rw[hb];rfl
def uI{fr:AF}{d:D}(h:as[0]? = some (some<|yp c ts))(hr:WA fr as [(true,d)])(tl:ts.length<900):wq 0 "Makes" "keep" zU fr as=some (.ow<|.lf true<|.int ts.length,as.set 0<|some<|yp c<|ts++[d]):=
 Z4 (as:=as) (i:=0) (c:=c) (ts:=ts) (m:="keep") (g:=zU) (fr:=fr) (rs:=[.ow<|.lf true d]) (xs:=[(true,d)]) h (by decide +kernel) hr (by
  show some [(zE d||true,d)]=_;rw[zyC]) (LG tl)
def ph{n m:Nat}{f:VF}{xs:List wB}{ts':List D}{v:D}{l:AS}(hn:xs.length+1=m)(hc:f (ZD n (yp c ts::xs.map O7))=some (v,some (yp c ts')::l)):Hy n m f xs (yp c ts)=some (v,yp c ts'):=by
 unfold Hy;rw[if_pos hn];show(f<|ZD n (yp c ts::xs.map O7)).bind _=_;rw[hc];show(if(yp c ts').str=true then _ else _)=_;rw[if_pos UD]
def VT{k:Nat}{d:D}(hk:ts[k]? = some d):yE [(true,Yn c ts),(true,.int k)]=sT d:=by
 have kl:=(zzG.mp hk).1;have wl:WD qf [sT<|Yn c ts,sI k] true (.int ts.length):=Fu (WD.e<|LX<|za (i:=0) rfl) rfl;have w:=uR (z9 (WD.e<|za (as:=[sT<|Yn c ts,sI k]) (i:=1) rfl) (WD.e<|zb (x:=.int 0)) (WD.e<|vS wl<|zb (x:=.int 1))<|RE.of<|Ui (x:=k) (q0b)<|(q0F kl));refine wQ rfl<|zt (zm (YG w) rfl)<|xt<|Ba (WD.e<|LX<|za (i:=0) rfl) (WD.e<|za (i:=1) rfl) ?_;have:=Z6 (f:=λd:D=>d) hk
 rwa [List.map_id']at this
def Qc{x y z:D}{a b e:List Int}(ha:OT c x a)(hb:OT c y b)(he:OT c z e)(l1:a.length<=1000)(l2:b.length<=1000)(l3:e.length<=1000):uE Wo (.lf true<|.tup [x,y,z])=true:=by
 show(PF.nc Wo 59 x&&(PF.nc Wo 59 y&&(PF.nc Wo 59 z&&true)))=true;rw[ha.nc l1 (by omega),hb.nc l2 (by omega),he.nc l3<|by omega];rfl
section
variable(h:c.Ok)(hk:ts[k]? = some d)(hd:OT c d R)(hl:R.length<=900){i j:Nat}(h1:i<=j)(h2:j<=R.length)(tl:ts.length<900)
include h hk hd hl h1 h2 tl
def Jn{p:Str×TZ}(hp:p ∈ c.Ds):∃d',OT c d' (R.take i++c.ap (some p.2) ((R.take j).drop i)++R.drop j)/\ZJ [(true,.int k),(true,.int i),(true,.int j),(true,.str p.1)] (yp c ts)=some (.int ts.length,yp c<|ts++[d']):=by
 obtain⟨x,y,z,t1,ox,oy,oz⟩:=X7 h hk hd hl h1 h2;obtain⟨y',r1,oy'⟩:=qd h ⟨h.A.ds p hp,h.L.ld p hp⟩ oy;have lx:(R.take i).length<=900:=by rw[zzS];exact q0n hl
 have ly:((R.take j).drop i).length<=900:=by rw[List.length_drop,zzS];exact q0l hl h2
 have lz:(R.drop j).length<=900:=by rw[List.length_drop];exact q0p hl h2
 obtain⟨d',g1,od⟩:=NF (ts:=ts) h ox oy' oz (by rw[Y5,List.length_drop,zzS,zzS,List.length_drop];exact q0y hl h2 h1);have w1:WD pd [some<|yp c ts,sI k,sI i,sI j,sT<|.str p.1,none,none] true (.tup [x,y,z]):=X5 (c:=c) (ts:=ts) (g:=yj) rfl (by decide +kernel) rfl (zc (za (i:=1) rfl)<|zc (za (i:=2) rfl)<|zc (za (i:=3) rfl) zj) t1 (Qc ox oy oz (q0a lx) (q0a ly)<|(q0a lz));have s1:=zV (st:=true) (i:=5) w1<|zi rfl;have wy:∀e,WD (GD 0 z_ "way") [some<|yp c ts,sI k,sI i,sI j,sT<|.str p.1,sT<|.tup [x,y,z],e] true c.w:=λe=>IB rfl;have wd:WE (y_ V9 "is_deed" (GD 0 z_ "way")<|aC zX aN) [some<|yp c ts,sI k,sI i,sI j,sT<|.str p.1,sT<|.tup [x,y,z],none] (.bl true):=XF (wy none) (by decide +kernel) rfl (WD.e<|za (i:=4) rfl)<|AM h.A.nd hp;have ww:WE (y_ V4 "wait_of" (GD 0 z_ "way")<|aC zX aN) [some<|yp c ts,sI k,sI i,sI j,sT<|.str p.1,sT<|.tup [x,y,z],none] (wo p.2):=XF (wy none) (by decide +kernel) rfl (WD.e<|za (i:=4) rfl)<|FJ h.A.nd hp;have s3:=xp (p:=6) (z9 (WD.e<|wy none) (WD.e<|xf (j:=5) (i:=1) rfl rfl) ww r1)<|zi rfl;have w4:WD mK [some<|yp c ts,sI k,sI i,sI j,sT<|.str p.1,sT<|.tup [x,y,z],sT y'] true d':=X5 (c:=c) (ts:=ts) (g:=zH) rfl (by decide +kernel) rfl (zc (xf (j:=5) rfl rfl)<|zc (za (i:=6) rfl)<|zc (xf (j:=5) rfl rfl) zj) (by
  show zH [_,(zE x||true,x),(zE y'||true,y'),(zE z||true,z)]=_;rw[zyC,zyC,zyC];exact g1) (od.nc (by rw[zzJ,zzJ,Y5,List.length_drop,zzS,zzS,List.length_drop];exact q0A hl h2 h1)<|by omega)
 exact⟨d',od,ph (l:=_) rfl<|Yr s1<|Yr (zm (YG (k:=true)<|uR wd) rfl)<|Yr s3<|By rfl (zc w4 zj) tl⟩
def Fh:∃d',OT c d' (R.take i++((R.take j).drop i).reverse++R.drop j)/\vY [(true,.int k),(true,.int i),(true,.int j)] (yp c ts)=some (.int ts.length,yp c<|ts++[d']):=by
 obtain⟨x,y,z,t1,ox,oy,oz⟩:=X7 h hk hd hl h1 h2;obtain⟨y',r1,oy'⟩:=C1 h oy;have lx:(R.take i).length<=900:=by rw[zzS];exact q0n hl
 have ly:((R.take j).drop i).length<=900:=by rw[List.length_drop,zzS];exact q0l hl h2
 have lz:(R.drop j).length<=900:=by rw[List.length_drop];exact q0p hl h2
 obtain⟨d',g1,od⟩:=NF (ts:=ts) h ox oy' oz (by rw[List.length_reverse,List.length_drop,zzS,zzS,List.length_drop];exact q0y hl h2 h1);have w1:WD pd [some<|yp c ts,sI k,sI i,sI j,none] true (.tup [x,y,z]):=X5 (c:=c) (ts:=ts) (g:=yj) rfl (by decide +kernel) rfl (zc (za (i:=1) rfl)<|zc (za (i:=2) rfl)<|zc (za (i:=3) rfl) zj) t1 (Qc ox oy oz (q0a lx) (q0a ly)<|(q0a lz));have s1:=zV (st:=true) (i:=4) w1<|zi rfl;have wy:WD (GD 0 z_ "way") [some<|yp c ts,sI k,sI i,sI j,sT<|.tup [x,y,z]] true c.w:=IB rfl;have w3:=yy (g:=xG) (WD.e wy) (WD.e<|xf (j:=4) (i:=1) (z:=y) rfl rfl) r1;have w4:WD lU [some<|yp c ts,sI k,sI i,sI j,sT<|.tup [x,y,z]] true d':=by
  refine X5 (c:=c) (ts:=ts) (g:=zH) rfl (by decide +kernel) rfl (zc (xf (j:=4) rfl rfl)<|xC w3<|zc (xf (j:=4) rfl rfl) zj) ?_ (od.nc (by rw[zzJ,zzJ,List.length_reverse,List.length_drop,zzS,zzS,List.length_drop];exact q0A hl h2 h1)<|by omega);show zH [_,(zE x||true,x),(zE y'||true,y'),(zE z||true,z)]=_;rw[zyC,zyC,zyC];exact g1
 exact⟨d',od,ph (l:=_) rfl<|Yr s1<|By rfl (zc w4 zj) tl⟩
def DZ(t8:ts.length<800):∃d1 d2,OT c d1 ((R.take j).drop i)/\OT c d2 (R.take i++R.drop j)/\Yx [(true,.int k),(true,.int i),(true,.int j)] (yp c ts)=some (.tup [.int ts.length,.int (ts.length+1:Nat)],yp c<|ts++[d1]++[d2]):=by
 obtain⟨x,y,z,t1,ox,oy,oz⟩:=X7 h hk hd hl h1 h2;have lx:(R.take i).length<=900:=by rw[zzS];exact q0n hl
 have ly:((R.take j).drop i).length<=900:=by rw[List.length_drop,zzS];exact q0l hl h2
 have lz:(R.drop j).length<=900:=by rw[List.length_drop];exact q0p hl h2
 obtain⟨d',g1,od⟩:=ME h ox oz (q0a lx) (q0a lz);have w1:WD pd [some<|yp c ts,sI k,sI i,sI j,none,none] true (.tup [x,y,z]):=X5 (c:=c) (ts:=ts) (g:=yj) rfl (by decide +kernel) rfl (zc (za (i:=1) rfl)<|zc (za (i:=2) rfl)<|zc (za (i:=3) rfl) zj) t1 (Qc ox oy oz (q0a lx) (q0a ly)<|(q0a lz));have s1:=zV (st:=true) (i:=4) w1<|zi rfl;have k1:=uI (c:=c) (ts:=ts) (as:=[some<|yp c ts,sI k,sI i,sI j,sT<|.tup [x,y,z],none]) rfl (zc (xf (j:=4) (i:=1) (z:=y) rfl rfl) zj) (by omega);have s2:zr true 5 (wq 0 "Makes" "keep" zU<|aC (f2 zX zO zD) aN) [some<|yp c ts,sI k,sI i,sI j,sT<|.tup [x,y,z],none]=some (.nx [some<|yp c<|ts++[y],sI k,sI i,sI j,sT<|.tup [x,y,z],sI ts.length]):=by
  unfold zr;rw[k1];rfl
 have w3:=z9 (g:=yg 20) (WD.e<|IB (c:=c) (ts:=ts++[y]) (as:=[some<|yp c<|ts++[y],sI k,sI i,sI j,sT<|.tup [x,y,z],sI ts.length]) rfl) (WD.e<|xf (j:=4) (i:=0) (z:=x) rfl rfl) (WD.e<|xf (j:=4) (i:=2) (z:=z) rfl rfl) g1;have k2:=uI (c:=c) (ts:=ts++[y]) (as:=[some<|yp c<|ts++[y],sI k,sI i,sI j,sT<|.tup [x,y,z],sI ts.length]) rfl (xC w3 zj) (by rw[zzJ];show ts.length+1<900;omega);rw[show(ts++[y]).length=ts.length+1 from zzJ]at k2;have s3:YQ (yL<|dC ym kY) [some<|yp c<|ts++[y],sI k,sI i,sI j,sT<|.tup [x,y,z],sI ts.length]=some (.tup [.int ts.length,.int (ts.length+1:Nat)],[some<|yp c<|ts++[y]++[d'],sI k,sI i,sI j,sT<|.tup [x,y,z],sI ts.length]):=by
  have e:dC ym kY [some<|yp c<|ts++[y],sI k,sI i,sI j,sT<|.tup [x,y,z],sI ts.length]=some ([xx ts.length,xx (ts.length+1:Nat)],[some<|yp c<|ts++[y]++[d'],sI k,sI i,sI j,sT<|.tup [x,y,z],sI ts.length]):=by
   exact h_ (za (i:=5) rfl) k2
  unfold YQ yL;rw[e];rfl
 exact⟨y,d',oy,od,ph (l:=_) rfl<|Yr s1<|Yr s2 s3⟩
omit h1 h2 in
theorem ML{v:Int}(hi:i<R.length)(hv:zJ c.n v):∃d',OT c d' (R.take i++[v]++R.drop (i+1))/\vA [(true,.int k),(true,.int i),(true,.int v)] (yp c ts)=some (.int ts.length,yp c<|ts++[d']):=by
 obtain⟨x,y,z,t1,ox,oy,oz⟩:=X7 h hk hd hl (show i<=i+1 from q0i) (q0T hi);obtain⟨y',r1,oy'⟩:=Ic h (r:=[v]) (by show 1<=_;omega) (λw mw=>by rw[zzR.mp mw];exact hv) true;have lx:(R.take i).length<=900:=by rw[zzS];omega
 have ly:((R.take<|i+1).drop i).length<=900:=by rw[List.length_drop,zzS];omega
 have lz:(R.drop<|i+1).length<=900:=by rw[List.length_drop];omega
 obtain⟨d',g1,od⟩:=NF (ts:=ts) h ox oy' oz (by rw[zzS,List.length_drop];show _+1+_<=_;omega);have w0:WD (xW 0 yH "tree_at" yI) [some<|yp c ts,sI k,sI i,sI v,none,none] true d:=X5 (c:=c) (ts:=ts) (g:=yE) rfl (by decide +kernel) rfl (zc (za (i:=1) rfl) zj) (VT hk) (hd.nc (q0a hl)<|by omega);have s0:=zV (st:=true) (i:=4) w0<|zi rfl;have ws:WD (f2 (ze (aC zX aN) xb) zO x_) [some<|yp c ts,sI k,sI i,sI v,sT d,none] true (.int<|R.length-1):=vS (uf rfl<|wX (WD.e<|za (i:=4) rfl)<|Qg hd) zb;have s1:=Tr (WD.e<|za (as:=[some<|yp c ts,sI k,sI i,sI v,sT d,none]) (i:=2) (s:=true) (x:=.int i) rfl) (WD.e<|zb (x:=.int 0)) (WD.e ws) (q0b) (q0F hi);have s2:yw (xW 0 yW "check_value" vL) [some<|yp c ts,sI k,sI i,sI v,sT d,none]=some (.nx [some<|yp c ts,sI k,sI i,sI v,sT d,none]):=by
  unfold yw;rw[Q4 (i:=0) (c:=c) (ts:=ts) (tbl:=yW) (g:=yt) (o:=.lf true .non) rfl (by decide +kernel) rfl (WD.e<|za (i:=3) rfl) (La hv) rfl];rfl
 have w1:WD lK [some<|yp c ts,sI k,sI i,sI v,sT d,none] true (.tup [x,y,z]):=X5 (c:=c) (ts:=ts) (g:=yj) rfl (by decide +kernel) rfl (zc (za (i:=1) rfl)<|zc (za (i:=2) rfl)<|zc (zT (za (i:=2) rfl)<|zb (x:=.int 1)) zj) t1 (Qc ox oy oz (q0a lx) (q0a ly)<|(q0a lz));have s3:=zV (st:=true) (i:=5) w1<|zi rfl;have wy:WD (GD 0 z_ "way") [some<|yp c ts,sI k,sI i,sI v,sT d,sT<|.tup [x,y,z]] true c.w:=IB rfl;have w3:=yy (g:=xR 20) (WD.e wy) (yN (os:=[xx v]) (x:=zg [v]) (zL (za (i:=3) rfl) ye) (Wl rfl) rfl rfl) r1;have w4:WD mH [some<|yp c ts,sI k,sI i,sI v,sT d,sT<|.tup [x,y,z]] true d':=by
  refine X5 (c:=c) (ts:=ts) (g:=zH) rfl (by decide +kernel) rfl (zc (xf (j:=5) rfl rfl)<|xC w3<|zc (xf (j:=5) rfl rfl) zj) ?_ (od.nc (by rw[zzJ,zzJ,zzS,List.length_drop];show _+1+_<=_;omega)<|by omega);show zH [_,(zE x||true,x),(zE y'||true,y'),(zE z||true,z)]=_;rw[zyC,zyC,zyC];exact g1
 exact⟨d',od,ph (l:=_) rfl<|Yr s0<|Yr s1<|Yr s2<|Yr s3<|By rfl (zc w4 zj) tl⟩
omit h1 h2 in
theorem J6{q:Nat}{d2:D}{Q:List Int}(hi:i<=R.length)(hq:ts[q]? = some d2)(hd2:OT c d2 Q)(lq:R.length+Q.length<=300):∃d',OT c d' (R.take i++Q++R.drop i)/\v9 [(true,.int k),(true,.int i),(true,.int q)] (yp c ts)=some (.int ts.length,yp c<|ts++[d']):=by
 obtain⟨x,z,a1,ox,oz⟩:=E_ h hd i (q0a hl) hi;obtain⟨d',g1,od⟩:=NF (ts:=ts) h ox hd2 oz (by rw[zzS,List.length_drop];omega);have w0:WD (xW 0 yH "tree_at" yI) [some<|yp c ts,sI k,sI i,sI q,none,none,none] true d:=X5 (c:=c) (ts:=ts) (g:=yE) rfl (by decide +kernel) rfl (zc (za (i:=1) rfl) zj) (VT hk) (hd.nc (q0a hl)<|by omega);have s0:=zV (st:=true) (i:=4) w0<|zi rfl;have w1:WD (xW 0 yH "tree_at" vL) [some<|yp c ts,sI k,sI i,sI q,sT d,none,none] true d2:=X5 (c:=c) (ts:=ts) (g:=yE) rfl (by decide +kernel) rfl (zc (za (i:=3) rfl) zj) (VT hq) (hd2.nc (by omega)<|by omega);have s1:=zV (st:=true) (i:=5) w1<|zi rfl;have z1:WE (ze (aC zX aN) xb) [some<|yp c ts,sI k,sI i,sI q,sT d,sT d2,none] (.int R.length):=wX (WD.e<|za (i:=4) rfl)<|Qg hd;have z2:WE (ze PU xb) [some<|yp c ts,sI k,sI i,sI q,sT d,sT d2,none] (.int Q.length):=wX (WD.e<|za (i:=5) rfl)<|Qg hd2;have s2:=Tr (WD.e<|za (as:=[some<|yp c ts,sI k,sI i,sI q,sT d,sT d2,none]) (i:=2) (s:=true) (x:=.int i) rfl) (WD.e<|zb (x:=.int 0)) z1 (q0b) (q0q hi);have s3:yw rR [some<|yp c ts,sI k,sI i,sI q,sT d,sT d2,none]=some (.nx [some<|yp c ts,sI k,sI i,sI q,sT d,sT d2,none]):=by
  unfold yw rR;have:=CA (WD.e<|zT (uf rfl z1)<|uf rfl z2) (Ss (k:=R.length+Q.length)<|by omega);unfold WD at this;rw[this];rfl
 have s4:=xp (p:=6) (as:=[some<|yp c ts,sI k,sI i,sI q,sT d,sT d2,none]) (z9 (WD.e<|IB (c:=c) (ts:=ts) rfl) (WD.e<|za (i:=4) rfl) (WD.e<|za (i:=2) rfl) a1)<|zi rfl;have w4:WD mV [some<|yp c ts,sI k,sI i,sI q,sT d,sT d2,sT<|.tup [x,z]] true d':=X5 (c:=c) (ts:=ts) (g:=zH) rfl (by decide +kernel) rfl (zc (xf (j:=6) rfl rfl)<|zc (za (i:=5) rfl)<|zc (xf (j:=6) rfl rfl) zj) (by
  show zH [_,(zE x||true,x),(zE d2||true,d2),(zE z||true,z)]=_;rw[zyC,zyC,zyC];exact g1) (od.nc (by rw[zzJ,zzJ,zzS,List.length_drop];omega)<|by omega)
 exact⟨d',od,ph (l:=_) rfl<|Yr s0<|Yr s1<|Yr s2<|Yr s3<|Yr s4<|By rfl (zc w4 zj) tl⟩
end
def Ho{ts:List D}{d:D}{k i j:Nat}(h:c.Ok)(hk:ts[k]? = some d)(hd:OT c d R)(hl:R.length<=900)(h1:i<=j)(h2:j<=R.length):RE (YR [(true,Yn c ts),(true,.int k),(true,.int i),(true,.int j)]) (.int<|c.h<|(R.take j).drop i):=by
 obtain⟨x,y,z,t1,ox,oy,oz⟩:=X7 h hk hd hl h1 h2;have w1:WE (y_ wu "three_parts" zh<|aC zk<|aC zG vL) [sT<|Yn c ts,sI k,sI i,sI j] (.tup [x,y,z]):=MC (c:="Makes") (ns:=Wo) (za (i:=0) rfl) (by decide +kernel) rfl (WD.e<|za (i:=1) rfl) (WD.e<|za (i:=2) rfl) (WD.e<|za (i:=3) rfl) ⟨_,t1,rfl,rfl⟩;exact zM rfl<|zx<|yy (WD.e<|L5<|za (i:=0) rfl) (WD.e<|Ba w1 (WD.e<|zb (x:=.int 1)) (show zD (.tup [x,y,z]) (.int 1)=some (.im y)from rfl))<|AC oy
end
theorem any_ints(b:Int):∀r:List Int,∃t,anyF (λy=>YS 50 y<|.int b) (r.map D.int)=some t
 | []=>⟨_,rfl⟩
 |x::r=>by
  obtain⟨t,h⟩:=any_ints b r;refine⟨(x==b)||t, ?_⟩;show(some<|x==b).bind _=_;rw[zyK,h];rfl
def ff(V:Int->Bool)(h:Nat->Int):Nat->Nat->Option Nat
 |0,_=>none
 |n+1,k=>if V (h<|k+1)=true then some k else ff V h n<|k+1
def kDx:Option Nat->D
 |none=>.non
 |some k=>.int k
abbrev hV(vs:List Int)(x:Int):Bool:=(anyF (λy=>YS 50 y<|.int x)<|vs.map D.int).getD false
def uM(vs:List Int)(x:Int):anyF (λy=>YS 50 y<|.int x) (vs.map D.int)=some (hV vs x):=by
 obtain⟨t,h⟩:=any_ints x vs;unfold hV;rw[h];rfl
theorem C2{G:GF}{B:SF}{V:Int->Bool}{h:Nat->Int}{st:Int->Option O->AS}{i0 N:Nat}(hG:∀(k:Int) v e,G (true,.int k) (st v e)=some (st v<|sI k))
 (hB:∀k:Nat,i0<=k->k<N->B (st (h k)<|sI k)=if V (h<|k+1)=true then some (.rt<|.lf true<|.int k)else some<|.nx<|st (h<|k+1)<|sI k):
 ∀(n i:Nat) (e:Option O),i0<=i->i+n<=N->∃v' e',forL G B (yY i n) (st (h i) e)=match ff V h n i with|some k=>some (.rt<|.lf true<|.int k)|none=>some (.nx<|st v' e')
 |0,i,e,_,_=>⟨_,e,rfl⟩
 |n+1,i,e,h0,h1=>by
  have b:=hB i h0 (by omega);show ∃v' e',forL G B (yY i<|n+1) (st (h i) e)=match(if V (h<|i+1)=true then some i else ff V h n<|i+1)with|some k=>some (.rt<|.lf true<|.int k)|none=>some<|.nx<|st v' e'
  rw[Ue];cases hV:V (h<|i+1)with
  |true=>
   rw[hV,if_pos rfl]at b;rw[if_pos rfl];exact⟨0,e,Mc (hG _ _ _) b⟩
  |false=>
   rw[hV,if_neg zyU]at b;rw[if_neg zyU];obtain⟨v',e',q⟩:=C2 hG hB n (i+1) (sI i) (q0Z h0) (by omega);exact⟨v',e',vH (hG _ _ _) b q⟩
section
variable{c:Cx}{ts:List D}{d:D}{R:List Int}{k:Nat}
def oW{as:AS}{i j k:Nat}{r:List Int}{x:Int}(h:as[i]? = some (sT<|zg r))(h2:as[j]? = some (sI k))(hx:r[k]? = some x):WD (f2 (fV i) (fV j) zD) as true (.int x):=
 zu (za h) (za h2) (Z6 hx) rfl
def hkx(c:Cx)(R:List Int)(i k:Nat):Int:=c.h<|(R.take k).drop i
def j9{i:Nat}:hkx c R i i=c.e:=by
 unfold hkx;rw[List.drop_take,Nat.sub_self];rfl
def Gc{i k:Nat}(hr:c.In R):c.In ((R.take k).drop i):=λx m=>hr x<|List.mem_of_mem_take<|List.mem_of_mem_drop m
def mP{i j:Nat}{x:Int}(hi:i<=j)(hx:R[j]? = some x):(R.take<|j+1).drop i=(R.take j).drop i++[x]:=by
 rw[List.take_succ,hx,List.drop_append_of_le_length<|by rw[zzS];have:=(zzG.mp hx).1;omega];rfl
def jv(h:c.Ok)(hr:c.In R){i j:Nat}{x:Int}(hi:i<=j)(hx:R[j]? = some x):hkx c R i (j+1)=yT c.J (hkx c R i j) x:=by
 unfold hkx;rw[mP hi hx];exact FP h.L.lj (Gc hr) (λy m=>by rw[zzR.mp m];exact hr x<|zzZ hx)
def SZ(g:c.Gd)(hk':ts[k]? = some d)(hd:OT c d R)(hl:R.length<=900){i:Nat}(hi:i<=R.length){p:Str×List Int}(hp:p ∈ c.S):YH [(true,Yn c ts),(true,.int k),(true,.int i),(true,.str p.1)]=sT (kDx<|ff (hV p.2) (hkx c R i) (R.length-i) i):=by
 have h:=g.ok;have hr:=hd.in h;have wl:WE (y_ vJ "listed" zh yI) [sT<|Yn c ts,sI k,sI i,sT<|.str p.1,none,none,none] (zg R):=XF (za (i:=0) rfl) (by decide +kernel) rfl (WD.e<|za (i:=1) rfl) ⟨_,W3 h hk' hd hl,ZZ R⟩;have s4:=xp (p:=4) wl<|zi rfl;have wn:∀a b,WD (fP (aC zX aN) yA) [sT<|Yn c ts,sI k,sI i,sT<|.str p.1,sT<|zg R,a,b] true (.int R.length):=λa b=>CZ<|za (i:=4) rfl;have s5:=Tr (WD.e<|za (i:=2) (s:=true) (x:=.int i) rfl) (WD.e<|zb (x:=.int 0)) (WD.e<|wn none none) (q0b) (q0q hi);have wy:∀a b,WD (f1 zh<|zP z_ "way") [sT<|Yn c ts,sI k,sI i,sT<|.str p.1,sT<|zg R,a,b] true c.w:=λa b=>L5<|za (i:=0) rfl;have w6:WE (y_ VV "is_sign" (f1 zh<|zP z_ "way") vL) [sT<|Yn c ts,sI k,sI i,sT<|.str p.1,sT<|zg R,none,none] (.bl true):=XF (wy _ _) (by decide +kernel) rfl (WD.e<|za (i:=3) rfl)<|sign_is g.sn hp;have w7:WE (y_ Xn "nothing" (f1 zh<|zP z_ "way") aN) [sT<|Yn c ts,sI k,sI i,sT<|.str p.1,sT<|zg R,none,none] (.int c.e):=uw (wy _ _) (by decide +kernel) rfl KB;have s7:=xp (p:=5) w7<|zi rfl;obtain⟨v',e',q⟩:=C2 (G:=gN 6) (B:=zl (zr true 5 qQ)<|xg (fT u9) (zv xl) xj) (V:=hV p.2) (h:=hkx c R i) (i0:=i) (N:=R.length)
  (st:=λv e=>[sT<|Yn c ts,sI k,sI i,sT<|.str p.1,sT<|zg R,sI v,e]) (λ_ _ _=>rfl) (λj hj hn=>by
   obtain⟨x,hx⟩:∃x,R[j]? = some x:=⟨_,zzE hn⟩;have hs:=jv h hr hj hx;have wj:WE qQ [sT<|Yn c ts,sI k,sI i,sT<|.str p.1,sT<|zg R,sI<|hkx c R i j,sI j] (.int<|hkx c R i<|j+1):=Ey (wy _ _) (by decide +kernel) rfl (WD.e<|za (i:=5) rfl) (WD.e<|oW (i:=4) (j:=6) (r:=R) rfl rfl hx) (by rw[hs];exact FI h.A.j (Z7 h.L.lj<|Gc hr)<|hr x<|zzZ hx);have sj:=xp (p:=5) wj<|zi rfl;have wh:WE u9 [sT<|Yn c ts,sI k,sI i,sT<|.str p.1,sT<|zg R,sI<|hkx c R i<|j+1,sI j] (.bl<|hV p.2<|hkx c R i<|j+1):=Ey (wy _ _) (by decide +kernel) rfl (WD.e<|za (i:=3) rfl) (WD.e<|za (i:=5) rfl)<|tq g.sn hp<|uM _ _;refine zt sj ?_;cases z:hV p.2 (hkx c R i<|j+1)with
   |true=>rw[z]at wh;exact wR (uR wh) (xt<|za (i:=6) rfl)
   |false=>rw[z]at wh;exact zm (uR wh) rfl) (R.length-i) i none (zzN _) (q0L hi)
 rw[j9]at q;have hr2:=N6 (zc (za (as:=[sT<|Yn c ts,sI k,sI i,sT<|.str p.1,sT<|zg R,sI c.e,none]) (i:=2) (x:=.int i) (s:=true) rfl)<|zc (wn _ _) zj) (by omega) (by omega) (by omega) (by omega);rw[show((R.length:Int)-i).toNat=R.length-i by omega]at hr2;refine wQ rfl<|zt s4<|zt s5<|zt (zm (YG (k:=true)<|uR w6) rfl)<|zt s7 ?_;cases z:ff (hV p.2) (hkx c R i) (R.length-i) i with
 |some k=>rw[z]at q;exact ZS (xk hr2 q)
 |none=>rw[z]at q;exact zt (xk hr2 q)<|xt zb
def S8(g:c.Gd)(hr:c.In R)(hl:R.length<=900){i:Nat}(hi:i<=R.length){vs:List Int}:WH [(true,c.g),(true,zg R),(true,.int i),(true,zg vs)]=sT (kDx<|ff (hV vs) (hkx c R i) (R.length-i) i):=by
 have h:=g.ok;obtain⟨v',e',q⟩:=C2 (G:=gN 4) (B:=xg pz (zv zX) xj) (V:=hV vs) (h:=hkx c R i) (i0:=i) (N:=R.length)
  (st:=λ_ e=>[sT c.g,sT<|zg R,sI i,sT<|zg vs,e]) (λ_ _ _=>rfl) (λj hj hn=>by
   have wa:=zT (za (as:=[sT c.g,sT<|zg R,sI i,sT<|zg vs,sI j]) (i:=4) (x:=.int j) (s:=true) rfl)<|zb (x:=.int 1);have ws:=CN (k:=j+1) (za (as:=[sT c.g,sT<|zg R,sI i,sT<|zg vs,sI j]) (i:=1) (x:=zg R) (s:=true) rfl) (za (i:=2) (x:=.int i) (s:=true) rfl) wa (q0Z hj) (q0T hn);have wc:WE _ _ (.int<|hkx c R i<|j+1):=yy (WD.e<|za (i:=0) rfl) ws<|NW h<|Gc hr;have wh:=zN (zu (g:=zw .In) (z:=.bl<|hV vs<|hkx c R i<|j+1) (uf rfl wc) (za (i:=3) (x:=zg vs) (s:=true) rfl) (by
    show(anyF (λy=>YS 50 y<|.int<|hkx c R i<|j+1)<|vs.map D.int).bind _=_;rw[uM];rfl) rfl) rfl
   cases z:hV vs (hkx c R i<|j+1)with
   |true=>rw[z]at wh;exact wR wh (xt<|za (i:=4) rfl)
   |false=>rw[z]at wh;exact zm wh rfl) (R.length-i) i none (zzN _) (q0L hi)
 have hr2:=N6 (zc (za (as:=[sT c.g,sT<|zg R,sI i,sT<|zg vs,none]) (i:=2) (x:=.int i) (s:=true) rfl)<|zc (CZ<|za (i:=1) (x:=zg R) rfl) zj) (q0b) (by omega) (by omega) (by omega);rw[show((R.length:Int)-i).toNat=R.length-i by omega]at hr2;refine wQ rfl ?_;cases z:ff (hV vs) (hkx c R i) (R.length-i) i with
 |some k=>rw[z]at q;exact ZS (xk hr2 q)
 |none=>rw[z]at q;exact zt (xk hr2 q)<|xt zb
def Oq(g:c.Gd)(hl:R.length<=900)(z:Int):∃(i j k:Nat) (v:Int),i<=j/\j<=R.length/\k<c.Ds.length/\zJ c.n v/\Wn [(true,c.g),(true,zg R),(true,.int z)]=sT (.tup [.int i,.int j,.int k,.int v]):=by
 have h:=g.ok;let A:Option O->Option O->AS:=λa b=>[sT c.g,sT<|zg R,sI z,a,b];have mz:∀(a b:Option O) (j:Int),0<=j->j<=300->WD (ze (aC zG<|aC (fC<|.int j) aN) zo) (A a b) true (.int<|mx z j):=λa b j h0 h1=>XS (za (i:=2) (x:=.int z) (s:=true) rfl) zb h0 h1;have wn:∀a b,WD (fP yI yA) (A a b) true (.int R.length):=λa b=>CZ<|za (i:=1) rfl;have w1:WD (f2 (fP yI yA) zO zp) (A none none) true (.int ((R.length+1:Nat):Int)):=zT (wn _ _)<|zb (x:=.int 1);obtain⟨i,li,_,s3⟩:=HJ (mz none none 62 (by decide)<|by decide) (by omega) w1;have s3:=zV (st:=true) (i:=3) s3<|zi rfl;have w2:WD (f2 (f2 (fP yI yA) zK x_) zO zp) (A (sI i) none) true (.int ((R.length-i+1:Nat):Int)):=by
  have:=zT (vS (wn (sI i) none)<|za (i:=3) (x:=.int i) (s:=true) rfl)<|zb (x:=.int 1);rw[show(R.length:Int)-i+1=((R.length-i+1:Nat):Int) by omega]at this;exact this
 obtain⟨j,lj,_,s4⟩:=HJ (mz (sI i) none 63 (by decide)<|by decide) (by omega) w2;have s4:=zV (st:=true) (i:=4) (zT (za (i:=3) (x:=.int i) (s:=true) rfl) s4)<|zi rfl;obtain⟨k,lk,_,s5⟩:=HJ (mz (sI i) (sI<|(i:Int)+j) 64 (by decide)<|by decide) g.dd<|pV<|za (i:=0) rfl;obtain⟨v,lv,_,s6⟩:=HJ (mz (sI i) (sI<|(i:Int)+j) 65 (by decide)<|by decide) h.A.n1<|zu (g:=zD) (z:=.int c.n) (za (i:=0) rfl) (zb (x:=.int 0)) rfl rfl;refine⟨i,i+j,k,v,by omega,by omega,lk,⟨by omega,by omega⟩,wQ rfl<|zt s3<|zt s4<|xt ?_⟩;exact FM (os:=[xx i,xx ((i+j:Nat):Int),xx k,xx v]) (zL (za (i:=3) rfl)<|zL (za (i:=4) rfl)<|zL s5<|zL s6 ye) (Wl rfl) rfl
end
def AU{ta:TF}{f g:VF}{as:AS}{x:Option (D×AS)}(h:WT ta as true)(k:f as=x):Az ta f g as=x:=by
 unfold Az;rw[show ta as=some (true,as)from h];exact k
def GA{ta:TF}{f g:VF}{as:AS}{x:Option (D×AS)}(h:WT ta as false)(k:g as=x):Az ta f g as=x:=by
 unfold Az;rw[show ta as=some (false,as)from h];exact k
def Ij{a b:EF}{as as1:AS}{x y:D}(ha:a as=some (.ow<|.lf true x,as1))(hb:WD b as1 true y):YQ (yL<|dC a<|dC b dN) as=some (.tup [x,y],as1):=by
 have h:=Sz (os:=[.lf true x,.lf true y]) (Zr ha<|Zr hb (show dN as1=some ([],as1)from rfl))<|Wl rfl;unfold YQ;rw[h];rfl
def kc{f:EF}{as as1:AS}{x:D}(h:f as=some (.ow<|.lf true x,as1)):N4 f as=some (.ow<|.lf true x,as1):=by
 unfold N4;rw[h];rfl
def gf{f:EF}{as as1:AS}{x:D}{n:Int}(h:f as=some (.ow<|.lf true<|.tup [x,.int n],as1)):f2 f zO zD as=some (.ow<|.lf true<|.int n,as1):=by
 unfold f2;rw[h];rfl
abbrev VC(c:Cx)(ts:List D)(k:Nat)(R:List Int)(z:Int)(e5 e6 e7 e8 e9 e10:Option O):AS:=[some<|yp c ts,sT c.g,sI k,sT<|zg R,sI z,e5,e6,e7,e8,e9,e10]
section
variable{c:Cx}{R:List Int}
def ny{f:EF}{as:AS}{r:List Int}(h:WE f as (zg r)):WE (ZY f oN (oS<|f1 zO H9) je) as (zg r.reverse):=by
 refine Bx (lo:=none) (hi:=some (-1)) h rfl (OB<|Oy zb) ?_;show(if(none:Option Int)=none/\some (-1:Int)=some (-1)then some (R0.fl (r.map D.int).reverse)else none)=_;rw[if_pos ⟨rfl,rfl⟩,List.map_reverse]
def F7(g:c.Gd)(hr:c.In R)(hl:R.length<=40)(z:Int):∃R':List Int,R'.length<=40/\∀{ts:List D}{k:Nat}{d:D},ts[k]? = some d->OT c d R->ts.length<700->∃ds d',yq [(true,c.g),(true,.int k),(true,zg R),(true,.int z)] (yp c ts)=some (.tup [.int (ts.length+ds.length:Nat),zg R'],yp c<|ts++ds++[d'])/\OT c d' R'/\ds.length<=1:=by
 have h:=g.ok;obtain⟨i,j,q,v,b1,b2,hq,hv,pl⟩:=Oq g (R:=R) (q0c hl) z;obtain⟨p,hp⟩:=lF hq;have hp':=zzZ hp;obtain⟨t,et,ht⟩:=JH (mx z 66) 6 (by decide);let A:List D->Nat->Option O->Option O->AS:=λts k e9 e10=>VC c ts k R z (sI i) (sI j) (sI q) (sI v) e9 e10;have s1:∀ts k,XW qL t_ (VC c ts k R z none none none none none none)=some (.nx<|A ts k none none):=λts k=>FU (vM (zc (za (i:=1) rfl)<|zc (za (i:=3) rfl)<|zc (za (i:=4) rfl) zj) pl) rfl;have s2:∀ts k,zr true 9 tE (A ts k none none)=some (.nx<|A ts k (sI t) none):=λts k=>by
  have w:=yc (XS (za (as:=A ts k none none) (i:=4) (x:=.int z) (s:=true) rfl) (zb (x:=.int 66)) (by decide)<|by decide) (zb (x:=.int 6)) (by decide);rw[show mx z 66%6=t from et]at w;exact zV (st:=true) (i:=9) w<|zi rfl
 have v2:∀ts k e9 e10,WD zG (A ts k e9 e10) true (.int k):=λ_ _ _ _=>za (i:=2) rfl;have v3:∀ts k e9 e10,WD zK (A ts k e9 e10) true (zg R):=λ_ _ _ _=>za (i:=3) rfl;have v5:∀ts k e9 e10,WD ym (A ts k e9 e10) true (.int i):=λ_ _ _ _=>za (i:=5) rfl;have v6:∀ts k e9 e10,WD xl (A ts k e9 e10) true (.int j):=λ_ _ _ _=>za (i:=6) rfl;have v8:∀ts k e9 e10,WD (fV 8) (A ts k e9 e10) true (.int v):=λ_ _ _ _=>za (i:=8) rfl;have wn:∀ts k e9 e10,WD (fP vL yA) (A ts k e9 e10) true (.int R.length):=λ_ _ _ _=>CZ<|v3 _ _ _ _;have te:∀(u:Int) ts k,WT (fT<|f2 (fV 9) (fC<|.int u)<|zw .Eq) (A ts k (sI t) none) ((t:Int)==u):=λu ts k=>eqT (za (i:=9) (x:=.int t) (s:=true) rfl) zb rfl;have fin:∀{ts:List D}{k:Nat}{ts':List D}{v:D}{l:AS}{rest:VF},rest (A ts k (sI t) none)=some (v,some (yp c ts')::l)->YF=(Zd qF<|Zd (zr true 9 tE) rest)->yq [(true,c.g),(true,.int k),(true,zg R),(true,.int z)] (yp c ts)=some (v,yp c ts'):=λ{ts k ts' v l rest} hr he=>by
  refine ph (l:=l) rfl ?_;rw[he];exact Yr (s1 ts k)<|Yr (s2 ts k) hr
 have mO:∀{ts:List D}{k:Nat}{e9 e10:Option O}{m:Str}{gg:List wB->O->Option (D×O)}{fr:AF}{rs:List RV}{xs:List wB}{w:D}{ts':List D},m ∉ Wo->fr (A ts k e9 e10)=some (rs,A ts k e9 e10)->VE 0 (A ts k e9 e10) rs=some xs->gg xs (yp c ts)=some (w,yp c ts')->wq 0 "Makes" m gg fr (A ts k e9 e10)=some (.ow<|.lf true w,A ts' k e9 e10):=λhm hr ha hg=>Z4 (i:=0) rfl hm hr ha hg;have la:((R.take j).drop i).length=j-i:=by rw[List.length_drop,zzS];omega
 have wM:∀ts k e9 e10,WE (ZY zK (oS ym) (oS xl) XU) (A ts k e9 e10) (zg<|(R.take j).drop i):=λ_ _ _ _=>CN (v3 _ _ _ _) (v5 _ _ _ _) (v6 _ _ _ _) b1 b2;have wT:∀ts k e9 e10,WE (ZY zK oN (oS ym) XU) (A ts k e9 e10) (zg<|R.take i):=λ_ _ _ _=>kU (v3 _ _ _ _) (v5 _ _ _ _) (q0C b1 b2);have wF:∀ts k e9 e10,WE (ZY zK (oS xl) oN XU) (A ts k e9 e10) (zg<|R.drop j):=λ_ _ _ _=>E9 (v3 _ _ _ _) (v6 _ _ _ _) b2;have l0:(R.take i).length=i:=by rw[zzS];omega
 have l2:(R.drop j).length=R.length-j:=List.length_drop ..;cases z1:((t:Int)==1)with
 |true=>
  refine⟨R.take i++((R.take j).drop i).reverse++R.drop j,by simp only[zzJ,List.length_reverse,la,l0,l2];exact q0J l0 b1 b2 hl,λ{ts k d} hkx hd tl=>?_⟩;obtain⟨d',od,md⟩:=Fh h hkx hd (q0c hl) b1 b2 (q0d tl);refine⟨[],d', ?_,od,Nat.zero_le _⟩;rw[zyD];have t1:=te 1 ts k;rw[z1]at t1;exact fin (AU t1<|Ij (kc<|mO (by decide +kernel) (zc (v2 _ _ _ _)<|zc (v5 _ _ _ _)<|zc (v6 _ _ _ _) zj) rfl md)<|Fd<|YI (YI (wT _ _ _ _) (ny<|wM _ _ _ _)<|by rw[List.length_reverse,la,l0];exact q0P hl b1 b2 l0 l2) (wF _ _ _ _)<|by rw[zzJ,List.length_reverse,la,l0,l2];exact q0K l0 b1 b2 hl) rfl
 |false=>
  have t1:=λts k=>(z1 ▸ te 1 ts k:WT (fT<|f2 (fV 9) zO<|zw .Eq) (A ts k (sI t) none) false);have t2:∀ts k,WT rj (A ts k (sI t) none) (((t:Int)==2)&&decide ((i:Int)<R.length)):=λts k=>Ud (te 2 ts k) (λe=>by rw[e];exact zN (Bp (v5 _ _ _ _)<|wn _ _ _ _) rfl) (λe=>by rw[e];rfl);cases z2:(((t:Int)==2)&&decide ((i:Int)<R.length))with
  |true=>
   have hi:i<R.length:=by rw[zyB]at z2;have:=of_decide_eq_true z2.2;omega
   refine⟨R.take i++[v]++R.drop (i+1),by simp only[zzJ,l0,List.length_drop,List.length_singleton];omega,λ{ts k d} hkx hd tl=>?_⟩;obtain⟨d',od,md⟩:=ML h hkx hd (q0c hl) (q0d tl) hi hv;refine⟨[],d', ?_,od,Nat.zero_le _⟩;rw[zyD];have t2':=t2 ts k;rw[z2]at t2';have wi:∀ts k,WD (f2 ym zO zp) (A ts k (sI t) none) true (.int (i+1:Nat)):=λts k=>zT (v5 _ _ _ _)<|zb (x:=.int 1);have wL:∀ts k,WE (yJ<|dC (fV 8) dN) (A ts k (sI t) none) (zg [v]):=λ_ _=>yN (os:=[xx v]) (zL (v8 _ _ _ _) ye) (Wl rfl) rfl rfl;exact fin (GA (t1 ts k)<|AU t2'<|Ij (kc<|mO (by decide +kernel) (zc (v2 _ _ _ _)<|zc (v5 _ _ _ _)<|zc (v8 _ _ _ _) zj) rfl md)<|Fd<|YI (YI (wT _ _ _ _) (wL _ _) (by rw[l0];show _+1<=_;omega)) (E9 (v3 _ _ _ _) (wi _ _)<|by omega) (by rw[zzJ,l0,List.length_drop];show _+1+_<=_;omega)) rfl
  |false=>
   have t2:=λts k=>(z2 ▸ t2 ts k:WT rj (A ts k (sI t) none) false);have t3:∀ts k,WT tm (A ts k (sI t) none) (((t:Int)==3)&&decide ((2:Int)*R.length<=40)):=λts k=>Ud (te 3 ts k) (λe=>by rw[e];exact zN (lQ (YJ (zb (x:=.int 2)) (wn _ _ _ _) (yF (by decide)<|by decide)<|yF (by omega)<|by omega)<|zb (x:=.int 40)) rfl) (λe=>by rw[e];rfl);cases z3:(((t:Int)==3)&&decide ((2:Int)*R.length<=40))with
   |true=>
    have hi:2*R.length<=40:=by rw[zyB]at z3;have:=of_decide_eq_true z3.2;omega
    refine⟨R.take i++R++R.drop i,by simp only[zzJ,l0,List.length_drop];omega,λ{ts k d} hkx hd tl=>?_⟩;obtain⟨d',od,md⟩:=J6 (i:=i) h hkx hd (by omega) (q0d tl) (q1l l0 b1 b2) hkx hd (by omega);refine⟨[],d', ?_,od,Nat.zero_le _⟩;rw[zyD];have t3':=t3 ts k;rw[z3]at t3';exact fin (GA (t1 ts k)<|GA (t2 ts k)<|AU t3'<|Ij (kc<|mO (by decide +kernel) (zc (v2 _ _ _ _)<|zc (v5 _ _ _ _)<|zc (v2 _ _ _ _) zj) rfl md)<|Fd<|YI (YI (wT _ _ _ _) (WD.e<|v3 _ _ _ _)<|by rw[l0];omega) (E9 (v3 _ _ _ _) (v5 _ _ _ _)<|(q1l l0 b1 b2))<|by rw[zzJ,l0,List.length_drop];omega) rfl
   |false=>
    have t3:=λts k=>(z3 ▸ t3 ts k:WT tm (A ts k (sI t) none) false);cases z4:((t:Int)==4)with
    |true=>
     refine⟨R.take i++R.drop j,by simp only[zzJ,l0,l2];omega,λ{ts k d} hkx hd tl=>?_⟩;obtain⟨d1,d2,o1,o2,mc⟩:=DZ h hkx hd (q0c hl) b1 b2 (q0d tl) (by omega);refine⟨[d1],d2, ?_,o2,zzN _⟩;have t4:=te 4 ts k;rw[z4]at t4;exact fin (GA (t1 ts k)<|GA (t2 ts k)<|GA (t3 ts k)<|AU t4<|Ij (gf<|mO (by decide +kernel) (zc (v2 _ _ _ _)<|zc (v5 _ _ _ _)<|zc (v6 _ _ _ _) zj) rfl mc)<|Fd<|YI (wT _ _ _ _) (wF _ _ _ _)<|by rw[l0,l2];omega) rfl
    |false=>
     refine⟨R.take i++c.ap (some p.2) ((R.take j).drop i)++R.drop j,by simp only[zzJ,Y5,la,l0,l2];exact q0J l0 b1 b2 hl,λ{ts k d} hkx hd tl=>?_⟩;obtain⟨d',od,md⟩:=Jn h hkx hd (q0c hl) b1 b2 (q0d tl) hp';refine⟨[],d', ?_,od,Nat.zero_le _⟩;rw[zyD];have t4:=te 4 ts k;rw[z4]at t4;have s10:=zV (st:=true) (i:=10) (yP (g:=zD) (z:=.str p.1) (uu (za (as:=A ts k (sI t) none) (i:=1) (x:=c.g) (s:=true) rfl) (za (i:=7) (x:=.int q) (s:=true) rfl) hp) (zb (x:=.int 0)) rfl)<|zi rfl;have wD:∀ts k e9 e10,WE mN (A ts k e9 e10) (zg<|c.ap (some p.2)<|(R.take j).drop i):=λts k e9 e10=>z9 (WD.e<|za (i:=1) rfl) (WD.e<|za (i:=7) rfl) (wM _ _ _ _) (Ci h hp (Gc hr)<|by rw[la];omega);exact fin (GA (t1 ts k)<|GA (t2 ts k)<|GA (t3 ts k)<|GA t4<|Yr s10<|Ij (kc<|mO (by decide +kernel) (zc (v2 _ _ _ _)<|zc (v5 _ _ _ _)<|zc (v6 _ _ _ _)<|zc (za (i:=10) rfl) zj) rfl md)<|Fd<|YI (YI (wT _ _ _ _) (wD _ _ _ _)<|by rw[Y5,la,l0];exact q0P hl b1 b2 l0 l2) (wF _ _ _ _)<|by rw[zzJ,Y5,la,l0,l2];exact q0K l0 b1 b2 hl) rfl
end
def SJ{a b e f:EF}{as:AS}{x y z w:D}(ha:WE a as x)(hb:WE b as y)(he:WE e as z)(hf:WE f as w):WE (yJ<|dC a<|dC b<|dC e<|dC f dN) as (.lst [x,y,z,w]):=by
 obtain⟨o1,a1,a2,rfl⟩:=ha;obtain⟨o2,b1,b2,rfl⟩:=hb;obtain⟨o3,c1,c2,rfl⟩:=he;obtain⟨o4,d1,d2,rfl⟩:=hf;refine yN (os:=[o1,o2,o3,o4]) (X4 a1<|X4 b1<|X4 c1<|X4 d1 ye) (Wl rfl) ?_ rfl;show(o1.str&&(o2.str&&(o3.str&&(o4.str&&true))))=true;rw[a2,b2,c2,d2];rfl
def m4{k:Nat}(o:Option Nat):YS (k+1) (kDx o) (kDx o)=some true:=by
 cases o with
 |none=>rfl
 |some n=>exact congrArg some (beq_self_eq_true _)
def sE{R:List Int}{a b:Int}{o:Option Nat}:YS 60 (.lst [zg R,.int a,.int b,kDx o]) (.lst [zg R,.int a,.int b,kDx o])=some true:=by
 refine rH _ λx mx=>?_;simp only[zzC,zxA,or_false]at mx
 rcases mx with rfl|rfl|rfl|rfl
 . exact Nb (k:=57) R
 . exact congrArg some<|beq_self_eq_true _
 . exact congrArg some<|beq_self_eq_true _
 . exact m4 o
def nC{c:Cx}{a b:EF}{as:AS}{k:Nat}{p:Str×List Int}(ha:WD a as true c.g)(hb:WD b as true (.int k))(hp:c.S[k]? = some p):WD (f2 (f2 a L7 zD) b zD) as true (WN p):=
 yP (g:=zD) (yP (g:=zD) (z:=.lst<|c.S.map WN) ha (zb (x:=.int 5)) rfl) hb (Z6 hp)
def om{c:Cx}{a:EF}{as:AS}(ha:WD a as true c.g):WD (fP (aC (f2 a L7 zD) aN) yA) as true (.int (c.S.length:Nat)):=by
 have:=yo (x:=.int (c.S.map WN).length) (g:=yA) (zc (yP (g:=zD) (z:=.lst<|c.S.map WN) ha (zb (x:=.int 5)) rfl) zj) rfl rfl
 rwa [zzB]at this
section
variable{c:Cx}{R:List Int}{ts:List D}
def CJ(h:c.Ok){k:Nat}{d:D}(hkx:ts[k]? = some d)(hd:OT c d R)(hl:R.length<=900):∃w,RE (ZO [(true,Yn c ts),(true,.int k)]) w/\((R=[]/\w = .tup [])\/∃p,p<20/\WK c w R p):=by
 have wt:WE (y_ yH "tree_at" zh yI) [sT<|Yn c ts,sI k] d:=XF (za (i:=0) rfl) (by decide +kernel) rfl (WD.e<|za (i:=1) rfl)<|Xa hkx;have run:∀w,RE (ZU 20 [(true,c.w),(true,d)]) w->RE (ZO [(true,Yn c ts),(true,.int k)]) w:=λw hw=>zM rfl<|zx<|yy (WD.e<|L5<|za (i:=0) rfl) wt hw
 rcases hd with⟨rfl,rfl⟩|⟨p,kd⟩
 . exact⟨.tup [],run _<|zM rfl<|yd<|yr (zN (zu (z:=.bl true) (za (i:=1) rfl) zb rfl rfl) rfl) ⟨_,rfl,rfl,rfl⟩,.inl ⟨rfl,rfl⟩⟩
 . have p2:=kd.lt (q0a hl);obtain⟨w,a,b⟩:=L1 h 20 kd p2;exact⟨w,run w a,.inr ⟨p,p2,b⟩⟩
abbrev m7(c:Cx)(ts:List D)(l:List D)(R:List Int)(z:Int)(i j q:Nat)(v:Int)(e9 e10 e11 e12 e13 e14 e15:Option O):AS:=[sT<|Yn c ts,sT c.g,sT<|.lst l,sT<|zg R,sI z,sI i,sI j,sI q,sI v,e9,e10,e11,e12,e13,e14,e15]
abbrev sB:SF:=(zl (zr true 13 kL)
 (zl oB
 (zl (zr true 14<|y_ RS "walk" zh<|aC (fV 12) aN)
 (zl (xg J8 (zv<|fC<|.bl false) xj)
 (xg (fT<|f2 zK (yJ dN)<|zw .NotEq) (zl (zr true 15<|ze (aC zk<|aC (fV 14) aN)<|Zc 20)
 (xg sS (zv<|fC<|.bl false) xj)) xj)))))
def nil_eq{k:Nat}(r:List Int):YS (k+2) (zg r) (.lst [])=some (r.isEmpty):=by
 cases r with
 |nil=>rfl
 |cons x r=>rfl
set_option maxHeartbeats 2000000 in
def Ah(g:c.Gd)(hr:c.In R)(hl:R.length<=40){a b:Nat}{d1 d2:D}(ha:ts[a]? = some d1)(oa:OT c d1 R)(hb:ts[b]? = some d2)(ob:OT c d2 R)(z:Int):Z9 [(true,Yn c ts),(true,c.g),(true,.lst [.int a,.int b]),(true,zg R),(true,.int z)]=sT (.bl true):=by
 have h:=g.ok;obtain⟨i,j,q,v,b1,b2,hq,hv,pl⟩:=Oq g (R:=R) (q0c hl) z;obtain⟨w,ew,hw⟩:=JH (mx z 67) c.S.length g.s1;obtain⟨p,hp⟩:∃p,c.S[w]? = some p:=⟨_,zzE hw⟩;have hp':=zzZ hp;let l:List D:=[.int a,.int b];have s1:XW qL t_ [sT<|Yn c ts,sT c.g,sT<|.lst l,sT<|zg R,sI z,none,none,none,none,none,none,none,none,none,none,none]=some (.nx<|m7 c ts l R z i j q v none none none none none none none):=FU (vM (zc (za (i:=1) rfl)<|zc (za (i:=3) rfl)<|zc (za (i:=4) rfl) zj) pl) rfl;have wm:=yc (XS (za (as:=m7 c ts l R z i j q v none none none none none none none) (i:=4) (x:=.int z) (s:=true) rfl) (zb (x:=.int 67)) (by decide)<|by decide) (om (c:=c)<|za (i:=1) rfl) (by have:=g.s1;exact q0e this);rw[ew]at wm;have s2:XW nK (gT 2<|Wp (gN 9)<|Wp (gN 10) Ej) (m7 c ts l R z i j q v none none none none none none none)=some (.nx<|m7 c ts l R z i j q v (sT<|.str p.1) (sT<|zg p.2) none none none none none):=FU (nC (c:=c) (za (i:=1) rfl) wm hp) rfl;let T:=m7 c ts l R z i j q v (sT<|.str p.1)<|sT<|zg p.2;have v3:∀e11 e12 e13 e14 e15,WD zK (T e11 e12 e13 e14 e15) true (zg R):=λ_ _ _ _ _=>za (i:=3) rfl;have v5:∀e11 e12 e13 e14 e15,WD ym (T e11 e12 e13 e14 e15) true (.int i):=λ_ _ _ _ _=>za (i:=5) rfl;have v6:∀e11 e12 e13 e14 e15,WD xl (T e11 e12 e13 e14 e15) true (.int j):=λ_ _ _ _ _=>za (i:=6) rfl;let due:D:=.lst [zg R,.int R.length,.int<|c.h<|(R.take j).drop i,kDx<|ff (hV p.2) (hkx c R i) (R.length-i) i];have w11:WE nX (T none none none none none) due:=SJ (WD.e<|v3 _ _ _ _ _) (WD.e<|CZ<|v3 _ _ _ _ _) (yy (WD.e<|za (i:=1) rfl) (CN (v3 _ _ _ _ _) (v5 _ _ _ _ _) (v6 _ _ _ _ _) b1 b2)<|NW h<|Gc hr) (WD.e<|vM (zc (za (i:=1) rfl)<|zc (v3 _ _ _ _ _)<|zc (v5 _ _ _ _ _)<|zc (za (i:=10) rfl) zj)<|S8 g hr (q0c hl)<|(q0C b1 b2));have s3:=xp (p:=11) w11<|zi rfl;have body:∀(k:Nat) (d:D),ts[k]? = some d->OT c d R->∀e13 e14 e15,∃e13' e14' e15',sB (T (sT due) (sI k) e13 e14 e15)=some (.nx<|T (sT due) (sI k) e13' e14' e15'):=λk d hk' hd e13 e14 e15=>by
  have m0:∀e13 e14 e15,WD zh (T (sT due) (sI k) e13 e14 e15) true (Yn c ts):=λ_ _ _=>za (i:=0) rfl;have m12:∀e13 e14 e15,WE (fV 12) (T (sT due) (sI k) e13 e14 e15) (.int k):=λ_ _ _=>WD.e<|za (i:=12) rfl;have w13:WE kL (T (sT due) (sI k) e13 e14 e15) due:=
   SJ (XF (m0 _ _ _) (by decide +kernel) rfl (m12 _ _ _) ⟨_,W3 h hk' hd (q0c hl),ZZ R⟩) (XF (m0 _ _ _) (by decide +kernel) rfl (m12 _ _ _)<|DR hk' hd) (MC (m0 _ _ _) (by decide +kernel) rfl (m12 _ _ _) (WD.e<|v5 _ _ _ _ _) (WD.e<|v6 _ _ _ _ _)<|Ho h hk' hd (q0c hl) b1 b2) (MC (m0 _ _ _) (by decide +kernel) rfl (m12 _ _ _) (WD.e<|v5 _ _ _ _ _) (WD.e<|za (i:=9) rfl) ⟨_,SZ g hk' hd (q0c hl) (q0C b1 b2) hp',rfl,rfl⟩)
  have s13:=xp (p:=13) w13<|zi rfl;have t1:WT (fT<|f2 (fV 13) En<|zw .NotEq) (T (sT due) (sI k) (sT due) e14 e15) false:=zN (Ua (q:=true) (WD.e<|za (i:=13) rfl) (WD.e<|za (i:=11) rfl) sE) rfl;obtain⟨w,wr,wc⟩:=CJ h hk' hd (by omega);have s14:=xp (p:=14) (XF (tbl:=RS) (m:="walk") (m0 (sT due) e14 e15) (by decide +kernel) rfl (m12 _ _ _) wr)<|zi rfl;have e0:WD (f2 zK (yJ dN)<|zw .Eq) (T (sT due) (sI k) (sT due) (sT w) e15) true (.bl R.isEmpty):=qe (WD.e<|v3 _ _ _ _ _) (yN (os:=[]) ye (Wl rfl) rfl rfl)<|nil_eq (k:=58) R;have e1:WD (f2 zK (yJ dN)<|zw .NotEq) (T (sT due) (sI k) (sT due) (sT w) e15) true (.bl<|!R.isEmpty):=Ua (WD.e<|v3 _ _ _ _ _) (yN (os:=[]) ye (Wl rfl) rfl rfl)<|nil_eq (k:=58) R
  rcases wc with⟨rfl,rfl⟩|⟨p',p2,wk⟩
  . have t2:WT J8 (T (sT due) (sI k) (sT due) (sT<|.tup []) e15) false:=Ud (k:=true) (zN e0 rfl) (λ_=>zN (Ua (q:=true) (WD.e<|za (i:=14) rfl) (WD.e<|FM (os:=[]) ye (Wl rfl) rfl) rfl) rfl) (λz=>nomatch z);exact⟨_,_,_,zt s13<|zt (zm t1 rfl)<|zt s14<|zt (zm t2 rfl)<|zm (zN e1 rfl) rfl⟩
  . have hne:=wk.ne;have hE:R.isEmpty=false:=by cases R with
     |nil=>exact absurd rfl hne
     |cons _ _=>rfl
    rw[hE]at e0 e1;have t2:WT J8 (T (sT due) (sI k) (sT due) (sT w) e15) false:=Ud (k:=false) (zN e0 rfl) (λz=>nomatch z) λ_=>rfl;have s15:=xp (p:=15) (yy (WD.e<|za (as:=T (sT due) (sI k) (sT due) (sT w) e15) (i:=1) rfl) (WD.e<|za (i:=14) rfl)<|NH h 20 wk p2<|by omega)<|zi rfl;have t4:WT sS (T (sT due) (sI k) (sT due) (sT w)<|sT<|MJ p' R) false:=Ge (k:=false) (zN (zu (z:=.bl false) (za (i:=15) rfl) zb rfl rfl) rfl) (λ_=>zN (Ua (q:=true) (WD.e<|xf (j:=15) (i:=1) (z:=zg R) rfl rfl) (WD.e<|v3 _ _ _ _ _)<|Nb (k:=58) R) rfl) (λz=>nomatch z);exact⟨_,_,_,zt s13<|zt (zm t1 rfl)<|zt s14<|zt (zm t2 rfl)<|wR (zN e1 rfl)<|zt s15<|zm t4 rfl⟩
 obtain⟨x1,x2,x3,q1⟩:=body a d1 ha oa none none none;obtain⟨y1,y2,y3,q2⟩:=body b d2 hb ob x1 x2 x3;have lp:y9 (Yd zG) (gN 12) sB (T (sT due) none none none none)=some (.nx<|T (sT due) (sI b) y1 y2 y3):=by
  refine xk (uC (ds:=l)<|za (i:=2) rfl) ?_;exact vH (as1:=T (sT due) (sI a) none none none) rfl q1<|vH (as1:=T (sT due) (sI b) x1 x2 x3) rfl q2 rfl
 exact wQ rfl<|zt s1<|zt s2<|zt s3<|zt lp<|xt zb
end
abbrev ky(kr:List (Nat×List Int)):List L2.Key:=kr.map λp=>Sum.inl (p.1:Int)
abbrev qV(kr:List (Nat×List Int)):List O:=kr.map λp=>O.lf true<|zg p.2
abbrev dO(kr:List (Nat×List Int)):O:=.nd (.dc<|ky kr)<|qV kr
abbrev dD(kr:List (Nat×List Int)):D:=.dct<|kr.map λp=>(Sum.inl (p.1:Int),zg p.2)
section
variable{kr:List (Nat×List Int)}{as:AS}{i:Nat}
theorem Oj:∀kr,(qV kr).all O.isLf=true/\O.strs (qV kr)=true/\(ky kr).zip (O.toDs<|qV kr)=kr.map λp=>(Sum.inl (p.1:Int),zg p.2)
 | []=>⟨rfl,rfl,rfl⟩
 |p::r=>by
  obtain⟨a,b,e⟩:=Oj r;exact⟨a,b,congrArg ((Sum.inl (p.1:Int),zg p.2) :: ·) e⟩
def SH(h:as[i]? = some (some<|dO kr)):RV.view as (.bo i)=some (dD kr,some true):=by
 rw[B6 h];obtain⟨a,b,e⟩:=Oj kr;show some (D.dct<|(ky kr).zip<|O.toDs<|qV kr,if(qV kr).all O.isLf=true then some (O.strs<|qV kr)else none)=_;rw[if_pos a,b,e]
def Sl(h:as[i]? = some (some<|dO kr)){g:List D->Option R0}:fP (aC (fV i) aN) g as=(g [dD kr]).bind λr=>(wrap (some true) r).bind λz=>some (z,as):=by
 unfold fP;rw[show aC (fV i) aN as=some ([.bo i],as) by unfold aC;rw[KI h];rfl];show((RV.view as<|.bo i).bind _).bind _=_;rw[SH h];rfl
def Cf(h:as[i]? = some (some<|dO kr)):WE (fP (aC (fV i) aN) Kb) as (.lst<|kr.map λp=>.int p.1):=by
 have e:Kb [dD kr]=some (.fl<|kr.map λp=>.int p.1):=by
  show some (R0.fl _)=_;rw[zyA];rfl
 refine⟨.nd .ls<|(kr.map λp=>D.int p.1).map<|O.lf true, ?_,QO _,congrArg D.lst<|QL _⟩;rw[Sl h,e,<-QA];show(if((kr.map λp=>D.int p.1).all zE||true)=true then some _ else none:Option RV).bind _=_;rw[if_pos<|zyC _];rfl
def pU(h:as[i]? = some (some<|dO kr)):WD (fP (aC (fV i) aN) yA) as true (.int kr.length):=by
 unfold WD;rw[Sl h,show yA [dD kr]=some (.im<|.int kr.length) by show some (R0.im<|.int ((kr.map _).length:Nat))=_;rw[zzB]];rfl
theorem Ib:∀{kr:List (Nat×List Int)},(kr.map (·.1)).Nodup->∀{k r},(k,r) ∈ kr->Xq (kr.map λp=>(Sum.inl (p.1:Int),zg p.2)) (Sum.inl (k:Int))=some (zg r)
 |p::l,nd,k,r,hm=>by
  unfold Xq;rw[zyR,List.find?_cons]
  rcases zzC.mp hm with rfl|hm
  . rw[zyN rfl];rfl
  . rw[zyF λz=>by
     injection z with z
     have z:p.1=k:=q0w z
     exact(zzV.mp nd).1<|zxC.mpr ⟨_,hm,z.symm⟩]
    exact Ib (zzV.mp nd).2 hm
def dat(h:as[i]? = some (some<|dO kr))(nd:(kr.map (·.1)).Nodup){k:Nat}{r:List Int}{b:EF}(hm:(k,r) ∈ kr)(hb:WD b as true (.int k)):WD (f2 (fV i) b zD) as true (zg r):=by
 unfold WD f2;rw[KI h];show(b as).bind _=_;rw[show b as=some (.ow<|.lf true<|.int k,as)from hb];show(RV.view as<|.bo i).bind _=_;rw[SH h];show((Jb<|Xq _<|Sum.inl (k:Int)).bind _)=_;rw[Ib nd hm];rfl
def dput(h:as[i]? = some (some<|dO kr)){k:Nat}{r:List Int}{fk fv:EF}(hn:∀p ∈ kr,p.1≠k)(hl:kr.length<900)(hkx:WD fk as true (.int k))(hv:WE fv as (zg r)):G5 i fk fv as=some (.nx<|as.set i<|some<|dO<|kr++[(k,r)]):=by
 obtain⟨o,e1,e2,e3⟩:=hv;have hf:Y8 as (.ow o)=some ((true,zg r),as):=by show some ((o.str,o.toD),as)=_;rw[e2,e3]
 have hK:Oh (ky kr) (Sum.inl (k:Int))=false:=by
  unfold Oh;rw[List.any_eq_false];intro x hx;obtain⟨p,hp,rfl⟩:=zxC.mp hx;rw[decide_eq_true_iff];intro z;injection z with z
  exact hn p hp (q0w z)
 have hF:WD (N4 fv) as true (zg r):=Fd ⟨o,e1,e2,e3⟩;have e:G5 i fk fv as=G5 i fk (N4 fv) as:=by
  unfold G5;rw[show N4 fv as=some (.ow<|.lf true<|zg r,as)from hF,e1,zyK,zyK,hf];rfl
 rw[e,rT hF h hkx rfl<|by rw[zzB];exact slt<|(q1c hl)];unfold P4 Vv;rw[hK,if_neg zyU,if_neg zyU];show some (Out.nx<|as.set i<|some<|.nd (.dc<|kr.map _++_)<|kr.map _++_)=some (Out.nx<|as.set i<|some<|.nd (.dc<|(kr++[(k,r)]).map _)<|(kr++[(k,r)]).map _);rw[zyL,zyL];rfl
def qo{α:Type}{f:α->D}{l:List α}{w:Nat}(hw:w<l.length):∃x ∈ l,zD (.lst<|l.map f) (.int (-1-(w:Int)))=some (.im<|f x):=by
 refine⟨l[l.length-1-w],zyY _, ?_⟩;have:L2.atI (l.map f) (-1-(w:Int))=some (f l[l.length-1-w]):=by
  unfold L2.atI L2.ixN;rw[if_neg (by omega),zzB,if_pos<|by omega];show(l.map f)[(-1-(w:Int)+(l.length:Int)).toNat]? = _;rw[show(-1-(w:Int)+(l.length:Int)).toNat=l.length-1-w by omega,zzI,zzE<|by omega];rfl
 show Jb (L2.atI (l.map f) _)=_;rw[this];rfl
end
structure Dk(c:Cx)(ts:List D)(kr:List (Nat×List Int)):Prop where
 nd:(kr.map (·.1)).Nodup
 ot:∀p ∈ kr,∃d,ts[p.1]? = some d/\OT c d p.2
 sz:∀p ∈ kr,p.2.length<=40
section
variable{c:Cx}{ts:List D}{kr:List (Nat×List Int)}
def Dk.lt(h:Dk c ts kr){p}(hp:p ∈ kr):p.1<ts.length:=by
 obtain⟨d,e,_⟩:=h.ot p hp;exact(zzG.mp e).1
def Dk.more(h:Dk c ts kr)(xs:List D):Dk c (ts++xs) kr:=⟨h.nd,λp hp=>by
 obtain⟨d,e,o⟩:=h.ot p hp;exact⟨d,by rw[zyO<|h.lt hp];exact e,o⟩,h.sz⟩
def E8{ds:List D}{d:D}:(ts++ds++[d])[ts.length+ds.length]? = some d:=by
 rw[<-zzJ,zyQ<|zzN _,Nat.sub_self];rfl
def Dk.new(h:Dk c ts kr){ds:List D}:∀p ∈ kr,p.1≠ts.length+ds.length:=λp hp z=>by have:=h.lt hp;omega
def Dk.snoc(h:Dk c ts kr){ds:List D}{d:D}{r:List Int}(o:OT c d r)(hr:r.length<=40):Dk c (ts++ds++[d]) (kr++[(ts.length+ds.length,r)]):=by
 have h':=(h.more ds).more [d];refine⟨?_,λp hp=>?_,λp hp=>?_⟩
 . rw[zyL,zxD];refine⟨h.nd,zzV.mpr ⟨zxA,zyI⟩,λa ha b hb z=>?_⟩;obtain⟨p,hp,rfl⟩:=zxC.mp ha;exact h.new p hp<|z.trans<|zzR.mp hb
 . rcases zzM.mp hp with hp|hp
   . exact h'.ot p hp
   . rw[zzR.mp hp];exact⟨d,E8,o⟩
 . rcases zzM.mp hp with hp|hp
   . exact h.sz p hp
   . rw[zzR.mp hp];exact hr
def o_{as:AS}{i:Nat}{fr:AF}{xs:List (Bool×D)}(h:as[i]? = some (some<|yp c ts))(hr:WA fr as xs):aC (fV i) fr as=some (.bo i::xs.map (λx=>.ow<|.lf x.1 x.2),as):=by
 unfold aC;rw[KI h];show(fr as).bind _=_;rw[show fr as=_ from hr];rfl
def SO{as:AS}{i:Nat}{fr:AF}{rs:List RV}{xs:List wB}{g:List wB->O->Option (D×O)}{v:D}{ts':List D}(h:as[i]? = some (some<|yp c ts))(hr:fr as=some (.bo i::rs,as))(ha:VE i as rs=some xs)(hg:g xs (yp c ts)=some (v,yp c ts')):Ym i fr g as=some (.ow<|.lf true v,as.set i<|some<|yp c ts'):=by
 unfold Ym;rw[hr];show(if i=i then some rs else none:Option (List RV)).bind _=_;rw[if_pos rfl];show(VE i as rs).bind _=_;rw[ha];show(as[i]?).bind _=_;rw[h];show(g xs _).bind _=_;rw[hg];show(if(yp c ts').str=true then _ else _)=_;rw[if_pos UD]
def qw{f:EF}{as as1 as2:AS}{g:GF}{x:D}(h:f as=some (.ow<|.lf true x,as1))(hg:g (true,x) as1=some as2):XW f g as=some (.nx as2):=by
 unfold XW;rw[h];show(g (true,x) as1).bind _=_;rw[hg];rfl
def lP{as:AS}{f:EF}{z:D}{s:Bool}(hf:WD f (sC as) s z)(fl:zE z=true):WD (Uy f) as true z:=by
 unfold WD at hf ⊢;unfold Uy;rw[hf];show((if zE z=true then some z else none:Option D).bind _)=_;rw[if_pos fl];rfl
def sM:(yp c ts).frz = .lf true (Yn c ts):=by
 show O.lf (yp c ts).str (yp c ts).toD=_;rw[UD];show O.lf true (.ob "Makes" Wo [c.w,.lst<|O.toDs<|ts.map<|O.lf true])=_;rw[QL]
end
theorem CC:∀r:List Int,uE Wo (xJ r)=true
 | []=>rfl
 |_::r=>CC r
abbrev Up(ns:List Int)(c:Cx)(ts:List D)(kr:List (Nat×List Int))(e4 e5 e6 e7 e8 e9 e10 e11:Option O):AS:=[sT<|zg ns,sT c.g,some<|yp c ts,some<|dO kr,e4,e5,e6,e7,e8,e9,e10,e11]
section
variable{ns:List Int}{c:Cx}{ts:List D}{kr:List (Nat×List Int)}
def DC(g:c.Gd){e4 e6 e7 e8 e9 e10 e11:Option O}(z:Int):∃r:List Int,r.length<=40/\c.In r/\WE kM (Up ns c ts kr e4 (sI z) e6 e7 e8 e9 e10 e11) (zg r):=by
 have h:=g.ok;obtain⟨w,ew,hw⟩:=JH (mx z 69) 20 (by decide);have wm:=yc (XS (za (as:=Up ns c ts kr e4 (sI z) e6 e7 e8 e9 e10 e11) (i:=5) (x:=.int z) (s:=true) rfl) (zb (x:=.int 69)) (by decide)<|by decide) (zb (x:=.int 20)) (by decide);rw[show mx z 69%20=w from ew]at wm;have hr:=xB (zc wm zj) (by omega) (by omega);rw[zyH]at hr;have n1:=h.A.n1;have wr:=Yg (as:=Up ns c ts kr e4 (sI z) e6 e7 e8 e9 e10 e11) (h:=λi:Nat=>D.int<|mx z (70+(i:Int))%c.n) (it:=λi:Nat=>(true,D.int<|0+(i:Int))) (fi:=yK nE xa) (cap:=[none,some 5,some 1]) (gg:=gN 0) (fe:=f2 mS (f2 zG zW zD) zy) (List.range w) hr (by rw[zyT];omega) (λi mi=>by
  have hi:=List.mem_range.mp mi;rw[Int.zero_add];exact⟨[sI i,sI z,sT c.g],rfl,WD.e<|yc (XS (za (i:=1) rfl) (zT (zb (x:=.int 70))<|za (i:=0) (x:=.int i) (s:=true) rfl) (by omega)<|by omega) (zu (g:=zD) (z:=.int c.n) (za (i:=2) rfl) (zb (x:=.int 0)) rfl rfl)<|(q0e n1)⟩)
 refine⟨(List.range w).map λi:Nat=>mx z (70+(i:Int))%c.n,by rw[zzB,zyT];omega,λx hx=>?_, ?_⟩
 . obtain⟨i,_,rfl⟩:=zxC.mp hx;exact rA n1 _
 . show WE _ _ (.lst<|((List.range w).map _).map D.int);rw[zyA];exact wr
def Se(g:c.Gd){R:List Int}(hr:c.In R)(hl:R.length<=40)(z:Int):∃R':List Int,R'.length<=40/\∀{ts:List D}{k:Nat}{d:D},ts[k]? = some d->OT c d R->ts.length<700->∃ds d',OT c d' R'/\ds.length<=1/\∀{as:AS}{fk fr fz:EF},as[1]? = some (sT c.g)->as[2]? = some (some<|yp c ts)->WD fk as true (.int k)->WD fr as true (zg R)->WD fz as true (.int z)->Ym 2 (aC zG<|aC zk<|aC fk<|aC fr<|aC fz aN) yq as=some (.ow<|.lf true<|.tup [.int (ts.length+ds.length:Nat),zg R'],as.set 2<|some<|yp c<|ts++ds++[d']):=by
 obtain⟨R',l',hc⟩:=F7 g hr hl z;refine⟨R',l',λhkx hd tl=>?_⟩;obtain⟨ds,d',m,o,l⟩:=hc hkx hd tl;exact⟨ds,d',o,l,λe1 e2 wk wr wz=>SO e2 (o_ e2<|zc (za e1)<|zc wk<|zc wr<|zc wz zj) rfl m⟩
abbrev jf:SF:=(zl lH
 (zl (xg qj (zl (zr true 7 kM)
 ll) pO)
 (G5 3 zX Z_)))
def mL(g:c.Gd)(h:Dk c ts kr)(h1:1<=kr.length)(h2:kr.length<=100)(tl:ts.length<700)(z:Int){e4 e6 e7:Option O}:∃ts' kr' x4 x6 x7,Dk c ts' kr'/\kr'.length=kr.length+1/\ts'.length<=ts.length+2/\jf (Up ns c ts kr e4 (sI z) e6 e7 none none none none)=some (.nx<|Up ns c ts' kr' x4 (sI z) x6 x7 none none none none):=by
 let A:List D->List (Nat×List Int)->Option O->Option O->Option O->AS:=λts kr e4 e6 e7=>Up ns c ts kr e4 (sI z) e6 e7 none none none none;have wmin:WD (fP (aC Om<|aC (fP vL yA) aN) OQ) (A ts kr e4 e6 e7) true (.int (min 6 kr.length:Nat)):=by
  have:=yo (x:=.int<|if(kr.length:Int)<6 then(kr.length:Int)else 6) (g:=OQ) (zc (zb (as:=A ts kr e4 e6 e7) (x:=.int 6))<|zc (pU (i:=3) rfl) zj) rfl rfl;rw[show(if(kr.length:Int)<6 then(kr.length:Int)else 6)=((min 6 kr.length:Nat):Int) by split<;>omega]at this;exact this
 obtain⟨w,lw,_,wm⟩:=HJ (XS (za (as:=A ts kr e4 e6 e7) (i:=5) (x:=.int z) (s:=true) rfl) (zb (x:=.int 60)) (by decide)<|by decide) (by omega) wmin;have ws:=vS (Oy<|zb (as:=A ts kr e4 e6 e7) (x:=.int 1)) wm;obtain⟨p,hp,hx⟩:=qo (f:=λp:Nat×List Int=>D.int p.1) (l:=kr) (w:=w) (by omega);have s6:=zV (st:=true) (i:=6) (Ba (Cf (as:=A ts kr e4 e6 e7) (i:=3) rfl) (WD.e ws) hx)<|zi rfl;obtain⟨d,ed,od⟩:=h.ot p hp;have hr:=od.in g.ok;have t1:WT qj (A ts kr e4 (sI p.1) e7) (mx z 61%5==1):=eqT (yc (XS (za (i:=5) (x:=.int z) (s:=true) rfl) (zb (x:=.int 61)) (by decide)<|by decide) (zb (x:=.int 5))<|by decide) zb rfl;cases zz:(mx z 61%5==1)with
 |true=>
  rw[zz]at t1;obtain⟨r,l1,l2,wr⟩:=DC (ns:=ns) (ts:=ts) (kr:=kr) (e4:=e4) (e6:=sI p.1) (e7:=e7) (e8:=none) (e9:=none) (e10:=none) (e11:=none) g z;have s7:=xp (p:=7) wr<|zi rfl;obtain⟨d',o',m'⟩:=P7 (s:=true) (ts:=ts) (r:=r) g.ok (q0U l1) l2 (q0d tl);have s4:=Nk (i:=4) (Z4 (as:=A ts kr e4 (sI p.1)<|sT<|zg r) (i:=2) (c:=c) (ts:=ts) (m:="made") (g:=yx) rfl (by decide +kernel) (xC (sZ<|za (i:=7) (x:=zg r) (s:=true) rfl) zj) rfl m')<|zi rfl;have s8:=dput (as:=A (ts++[d']) kr (sI ts.length) (sI p.1)<|sT<|zg r) (kr:=kr) (i:=3) (k:=ts.length) (r:=r) (fk:=fV 4) (fv:=fV 7) rfl (h.new (ds:=[])) (q1o h1 h2) (za (i:=4) rfl)<|WD.e<|za (i:=7) rfl;have hD:=h.snoc (ds:=[]) o' l1;rw[zyD]at hD;exact⟨ts++[d'],_,_,_,_,hD,by rw[zzJ];rfl,by rw[zzJ];show _+1<=_;omega,zt s6<|zt (wR t1<|zt s7 s4) s8⟩
 |false=>
  rw[zz]at t1;obtain⟨R',l',hc⟩:=Se g hr (h.sz p hp) z;obtain⟨ds,d',o',ld,run⟩:=hc ed od tl;have s4:XW (Ym 2 (aC zG<|aC zk<|aC xl<|aC (f2 zK xl zD) PU) yq) (gT 2<|Wp Iy<|Wp (gN 7) Ej) (A ts kr e4 (sI p.1) e7)=some (.nx<|A (ts++ds++[d']) kr (sI (ts.length+ds.length:Nat)) (sI p.1)<|sT<|zg R'):=qw (run rfl rfl (za (i:=6) rfl) (dat (i:=3) rfl h.nd hp<|za (i:=6) rfl)<|za (i:=5) rfl) rfl;have s8:=dput (as:=A (ts++ds++[d']) kr (sI (ts.length+ds.length:Nat)) (sI p.1)<|sT<|zg R') (kr:=kr) (i:=3) (k:=ts.length+ds.length) (r:=R') (fk:=fV 4) (fv:=fV 7) rfl h.new (q1o h1 h2) (za (i:=4) rfl)<|WD.e<|za (i:=7) rfl;exact⟨ts++ds++[d'],_,_,_,_,h.snoc o' l',by rw[zzJ];rfl,by rw[zzJ,zzJ];show _+1<=_;exact q0I ld,zt s6<|zt (zm t1 s4) s8⟩
def Mm(g:c.Gd){R:List Int}(hr:c.In R)(hl:R.length<=40){a b:Nat}{d1 d2:D}(ha:ts[a]? = some d1)(oa:OT c d1 R)(hb:ts[b]? = some d2)(ob:OT c d2 R){e4 e5 e6 e10 e11:Option O}{z:Int}{f:EF}(hf:WD f (sC<|Up ns c ts kr e4 e5 e6 (sT<|zg R) (sI a) (sI b) e10 e11) true (.int z)):WT (YC<|fT<|Uy<|ze (aC zG<|aC zk<|aC (yJ<|dC (fV 8)<|dC (fV 9) dN)<|aC Z_<|aC f aN) Z9) (Up ns c ts kr e4 e5 e6 (sT<|zg R) (sI a) (sI b) e10 e11) false:=by
 have fr:sC (Up ns c ts kr e4 e5 e6 (sT<|zg R) (sI a) (sI b) e10 e11)=[sT<|zg ns,sT c.g,sT<|Yn c ts,some (dO kr).frz,e4.map O.frz,e5.map O.frz,e6.map O.frz,sT<|zg R,sI a,sI b,e10.map O.frz,e11.map O.frz]:=by
  show[_,_,some (yp c ts).frz,_,_,_,_,_,_,_,_,_]=_;rw[sM];rfl
 rw[fr]at hf;refine YG (k:=true)<|zN (lP (s:=true) (z:=.bl true) ?_ rfl) rfl;rw[fr];have wl:∀as:AS,as[8]? = some (sI a)->as[9]? = some (sI b)->WE (yJ<|dC (fV 8)<|dC (fV 9) dN) as (.lst [.int a,.int b]):=λas h1 h2=>yN (os:=[xx a,xx b]) (zL (za h1)<|zL (za h2) ye) (Wl rfl) rfl rfl;exact vM (zc (za (i:=2) rfl)<|zc (za (i:=1) rfl)<|xC (wl _ rfl rfl)<|zc (za (i:=7) rfl)<|zc hf zj)<|Ah g hr hl ha oa hb ob z
abbrev jO:SF:=(zl pL
 (zl pE
 lN))
def oG(g:c.Gd)(h:Dk c ts kr)(tl:ts.length<600)(z:Int){R:List Int}(hl:R.length<=40){a b:Nat}{d1 d2:D}(ha:ts[a]? = some d1)(oa:OT c d1 R)(hb:ts[b]? = some d2)(ob:OT c d2 R){e4 e6 e10:Option O}:∃ts' R' a' b' d1' d2' x10,Dk c ts' kr/\ts'.length<=ts.length+4/\R'.length<=40/\ts'[a']? = some d1'/\OT c d1' R'/\ts'[b']? = some d2'/\OT c d2' R'/\jO (Up ns c ts kr e4 (sI z) e6 (sT<|zg R) (sI (a:Nat)) (sI (b:Nat)) e10 none)=some (.nx<|Up ns c ts' kr e4 (sI z) e6 (sT<|zg R') (sI (a':Nat)) (sI (b':Nat)) x10 none):=by
 have hr:=oa.in g.ok;obtain⟨R',l',hc⟩:=Se g hr hl z;obtain⟨x1,y1,o1,n1,run1⟩:=hc ha oa (by omega);have ba:=(zzG.mp hb).1;have hb':(ts++x1++[y1])[b]? = some d2:=by rw[zxB,zyO ba];exact hb
 have tl1:(ts++x1++[y1]).length<=ts.length+2:=by rw[zzJ,zzJ];show _+1<=_;exact q0I n1
 obtain⟨x2,y2,o2,n2,run2⟩:=hc hb' ob (by omega);let A:List D->List Int->Nat->Nat->Option O->AS:=λts R a b e10=>Up ns c ts kr e4 (sI z) e6 (sT<|zg R) (sI a) (sI b) e10 none;let t1:=ts++x1++[y1];let t2:=t1++x2++[y2];have s1:XW (Ym 2 (aC zG<|aC zk<|aC (fV 8)<|aC Z_ PU) yq) (gT 2<|Wp (gN 8)<|Wp (gN 10) Ej) (A ts R a b e10)=some (.nx<|A t1 R (ts.length+x1.length) b<|sT<|zg R'):=qw (run1 rfl rfl (za (i:=8) rfl) (za (i:=7) rfl)<|za (i:=5) rfl) rfl;have s2:XW (Ym 2 (aC zG<|aC zk<|aC (fV 9)<|aC Z_ PU) yq) (gT 2<|Wp (gN 9)<|Wp (gN 7) Ej) (A t1 R (ts.length+x1.length) b<|sT<|zg R')=some (.nx<|A t2 R' (ts.length+x1.length) (t1.length+x2.length)<|sT<|zg R'):=qw (run2 rfl rfl (za (i:=9) rfl) (za (i:=7) rfl)<|za (i:=5) rfl) rfl;have ga:t2[ts.length+x1.length]? = some y1:=by
  show(t1++x2++[y2])[_]? = _;rw[zxB,zyO (by show _<(ts++x1++[y1]).length;rw[zzJ,zzJ];show _<_+1;omega)];exact E8
 have gb:t2[t1.length+x2.length]? = some y2:=E8;have t3:=Ge (k:=false) (l:=false) (e:=fT<|f2 (fV 10) Z_<|zw .NotEq) (Mm (ns:=ns) (kr:=kr) (e4:=e4) (e5:=sI z) (e6:=e6) (e10:=sT<|zg R') (e11:=none) (f:=fV 5) (z:=z) g (o1.in g.ok) l' ga o1 gb o2<|za (i:=5) rfl) (λ_=>zN (Ua (q:=true) (WD.e<|za (i:=10) rfl) (WD.e<|za (i:=7) rfl)<|Nb (k:=58) R') rfl) (λz=>nomatch z);refine⟨t2,R',_,_,y1,y2,_, ?_, ?_,l',ga,o1,gb,o2,zt s1<|zt s2<|zm t3 rfl⟩
 . have:=((h.more x1).more [y1]).more x2;exact this.more [y2]
 . show(ts++x1++[y1]++x2++[y2]).length<=_;rw[zzJ,zzJ];show _+_+1<=_;omega
end
def KS{ns:List Int}{as:AS}{lo hi:Int}(h0:as[0]? = some (sT<|zg ns)):∃xs:List Int,xs.length<=ns.length/\WE (ZY zh (oS<|fC<|.int lo) (oS<|fC<|.int hi) XU) as (zg xs):=by
 obtain⟨xs,lx,ex⟩:=Dd D.int ns (some lo)<|some hi;exact⟨xs,lx,Bx (lo:=some lo) (hi:=some hi) (WD.e<|za h0) (OB zb) (OB zb) (by show some (R0.fl<|cutD (ns.map D.int) _ _)=_;rw[ex])⟩
def got{xs:List Int}{i:Nat}{x:wB}(h:(xs.map λx=>(true,D.int x))[i]? = some x):∃z,x=(true,.int z):=by
 rw[zzI]at h;obtain⟨z,_,rfl⟩:=zzW.mp h;exact⟨z,rfl⟩
def ua{f:EF}{as:AS}{xs:List Int}(h:WE f as (zg xs)):Yd f as=some (xs.map λx=>(true,D.int x),as):=by
 rw[CY h,zyA];rfl
def C_(ns:List Int)(hns:ns.length<=63):Kg [(true,.lst<|ns.map .int)]=sT (.bl true):=by
 obtain⟨x0,w0⟩:=o5 ns (k:=0) (by decide);obtain⟨x41,w41⟩:=o5 ns (k:=41) (by decide);obtain⟨c,g,ra⟩:=su x0;have h:=g.ok;have s1:=xp (p:=1) (wX (WD.e<|w0 [sT<|zg ns,none,none,none,none,none,none,none,none,none,none,none] rfl) ra)<|zi rfl;have s2:=v_ (i:=2) (vR (xC (wX (WD.e<|za (as:=[sT<|zg ns,sT c.g,none,none,none,none,none,none,none,none,none,none]) (i:=1) rfl)<|Da (S:=c.S) h.A h.L g.s4 g.sn) zj) (show xu "Makes" [(zE c.w||true,c.w)]=some (yp c []) by rw[zyC];exact JP))<|zi rfl;have s3:zr false 3 jY [sT<|zg ns,sT c.g,some<|yp c [],none,none,none,none,none,none,none,none,none]=some (.nx<|Up ns c [] [] none none none none none none none none):=v_ (i:=3) (o:=dO []) rfl<|zi rfl;obtain⟨d,o1,m1⟩:=P7 (s:=true) (ts:=[]) (r:=[]) h (by decide) (λ_ z=>nomatch z) (by decide);have wn:∀as:AS,WE (yJ dN) as (zg []):=λas=>yN (os:=[]) ye (Wl rfl) rfl rfl;have s4:=Nk (i:=4) (Z4 (as:=Up ns c [] [] none none none none none none none none) (i:=2) (c:=c) (ts:=[]) (m:="made") (g:=yx) rfl (by decide +kernel) (xC (wn _) zj) rfl m1)<|zi rfl;have s5:=dput (as:=Up ns c [d] [] (sI (0:Nat)) none none none none none none none) (kr:=[]) (i:=3) (k:=0) (r:=[]) (fk:=fV 4) (fv:=yJ dN) rfl (λ_ z=>nomatch z) (by decide) (za (i:=4) rfl)<|wn _;have h0:Dk c [d] [(0,[])]:=⟨zzV.mpr ⟨zxA,zyI⟩,(λp hp=>by rw[zzR.mp hp];exact⟨d,rfl,o1⟩),(λp hp=>by rw[zzR.mp hp];exact Nat.zero_le _)⟩;obtain⟨xs,lx,wx⟩:=KS (ns:=ns) (as:=Up ns c [d] [(0,[])] (sI (0:Nat)) none none none none none none none) (lo:=1) (hi:=41) rfl;obtain⟨as1,f1,ts,kr,y4,y5,y6,y7,rfl,hD,k1,k2,k3⟩:=xr (g:=gN 5) (f:=jf) (λi as=>∃ts kr e4 e5 e6 e7,as=Up ns c ts kr e4 e5 e6 e7 none none none none/\Dk c ts kr/\1<=kr.length/\kr.length<=1+i/\ts.length<=1+2*i) (xs.map λx=>(true,D.int x)) 0 _ (λi x as hx hI=>by
  obtain⟨ts,kr,e4,e5,e6,e7,rfl,hD,k1,k2,k3⟩:=hI;obtain⟨z,rfl⟩:=got hx;have li:=(zzG.mp hx).1;rw[zzB]at li;obtain⟨ts',kr',x4,x6,x7,hD',q1,q2,q3⟩:=mL (ns:=ns) (e4:=e4) (e6:=e6) (e7:=e7) g hD k1 (by omega) (by omega) z;exact⟨_,rfl,_,q3,ts',kr',x4,_,x6,x7,rfl,hD',by omega,by omega,by omega⟩) ⟨[d],[(0,[])],_,_,_,_,rfl,h0,zzN _,zzN _,zzN _⟩
 rw[zzB]at k2 k3;have s6:=xk (g:=gN 5) (f:=jf) (ua wx) f1;obtain⟨w,lw,_,wm⟩:=HJ (w41 (Up ns c ts kr y4 y5 y6 y7 none none none none) rfl) k1<|pU (i:=3) rfl;obtain⟨p,hp⟩:∃p,kr[w]? = some p:=⟨_,zzE lw⟩;have hp':=zzZ hp;have s8:=zV (st:=true) (i:=8) (Ba (Cf (as:=Up ns c ts kr y4 y5 y6 y7 none none none none) (i:=3) rfl) (WD.e wm)<|Z6 (f:=λp:Nat×List Int=>D.int p.1) hp)<|zi rfl;obtain⟨d1,e1,q1⟩:=hD.ot p hp';have z1:=hD.sz p hp';have s7:=zV (st:=true) (i:=7) (dat (as:=Up ns c ts kr y4 y5 y6 y7 (sI p.1) none none none) (i:=3) (b:=fV 8) rfl hD.nd hp'<|za (i:=8) rfl)<|zi rfl;obtain⟨d2,q2,m2⟩:=P7 (s:=true) (ts:=ts) (r:=p.2) h (q0U z1) (q1.in h) (by omega);have wl:=Q4 (as:=Up ns c ts kr y4 y5 y6 (sT<|zg p.2) (sI p.1) none none none) (i:=2) (c:=c) (ts:=ts) (m:="listed") (tbl:=vJ) (g:=wA) (a:=fV 8) rfl (by decide +kernel) rfl (WD.e<|za (i:=8) rfl) (W3 h e1 q1<|(q0c z1))<|CC p.2;have s9:=Nk (i:=9) (Z4 (as:=Up ns c ts kr y4 y5 y6 (sT<|zg p.2) (sI p.1) none none none) (i:=2) (c:=c) (ts:=ts) (m:="made") (g:=yx) rfl (by decide +kernel) (xC ⟨_,wl,ZZ p.2⟩ zj) rfl m2)<|zi rfl;have e1':(ts++[d2])[p.1]? = some d1:=by rw[zyO<|hD.lt hp'];exact e1
 have e2':(ts++[d2])[ts.length]? = some d2:=by rw[zyQ<|zzN _,Nat.sub_self];rfl
 have t10:=Mm (ns:=ns) (kr:=kr) (e4:=y4) (e5:=y5) (e6:=y6) (e10:=none) (e11:=none) (z:=x41) (f:=ze (aC zh<|aC (fC<|.int 41) aN) xo) g (q1.in h) z1 e1' q1 e2' q2<|w41 _ rfl;have hD2:=hD.more [d2];obtain⟨xs2,lx2,wx2⟩:=KS (ns:=ns) (as:=Up ns c (ts++[d2]) kr y4 y5 y6 (sT<|zg p.2) (sI p.1) (sI ts.length) none none) (lo:=42) (hi:=63) rfl;have wx3:=YI wx2 (yN (os:=[xx 0,xx 1]) (zL (zb (x:=.int 0))<|zL (zb (x:=.int 1)) ye) (Wl rfl) rfl (rfl:_=zg [0,1])) (by show _+2<=_;omega);have tl2:(ts++[d2]).length=ts.length+1:=zzJ ..;obtain⟨as2,g2,ts3,R3,a3,b3,u1,u2,v5,v10,rfl,hD3,r1,r2,r3,r4,r5,r6⟩:=xr (g:=gN 5) (f:=jO) (λi as=>∃(ts:List D) (R:List Int) (a b:Nat) (d1 d2:D) (e5 e10:Option O),as=Up ns c ts kr y4 e5 y6 (sT<|zg R) (sI a) (sI b) e10 none/\Dk c ts kr/\ts.length<=200+4*i/\R.length<=40/\ts[a]? = some d1/\OT c d1 R/\ts[b]? = some d2/\OT c d2 R) ((xs2++[0,1]).map λx=>(true,D.int x)) 0 _ (λi x as hx hI=>by
  obtain⟨ts,R,a,b,d1,d2,e5,e10,rfl,hD,k1,k2,k3,k4,k5,k6⟩:=hI;obtain⟨z,rfl⟩:=got hx;have li:=(zzG.mp hx).1;rw[zzB,zzJ]at li;have li:i<xs2.length+2:=li;obtain⟨ts',R',a',b',d1',d2',x10,hD',q1,q2,q3,q4,q5,q6,q7⟩:=oG (ns:=ns) (e4:=y4) (e6:=y6) (e10:=e10) g hD (by omega) z k2 k3 k4 k5 k6;exact⟨_,rfl,_,q7,ts',R',a',b',d1',d2',_,x10,rfl,hD',by omega,q2,q3,q4,q5,q6⟩) ⟨ts++[d2],p.2,p.1,ts.length,d1,d2,_,_,rfl,hD2,by omega,z1,e1',q1,e2',q2⟩
 have s11:=xk (g:=gN 5) (f:=jO) (ua wx3) g2;have dl:=Cf (as:=Up ns c ts3 kr y4 v5 y6 (sT<|zg R3) (sI a3) (sI b3) v10 none) (i:=3) (kr:=kr) rfl;obtain⟨as3,f3,v11,rfl⟩:=xr (g:=gN 11) (f:=xg tU (zv<|fC<|.bl false) xj) (λi as=>∃e11,as=Up ns c ts3 kr y4 v5 y6 (sT<|zg R3) (sI a3) (sI b3) v10 e11) (kr.map λp=>(true,D.int p.1)) 0 _ (λi x as hx hI=>by
  obtain⟨e11,rfl⟩:=hI;rw[zzI]at hx;obtain⟨p,hp,rfl⟩:=zzW.mp hx;have hp':=zzZ hp;obtain⟨d,ed,od⟩:=hD3.ot p hp';have wl:=Q4 (as:=Up ns c ts3 kr y4 v5 y6 (sT<|zg R3) (sI a3) (sI b3) v10<|sI p.1) (i:=2) (c:=c) (ts:=ts3) (m:="listed") (tbl:=vJ) (g:=wA) (a:=fV 11) rfl (by decide +kernel) rfl (WD.e<|za (i:=11) rfl) (W3 h ed od<|by have:=hD3.sz p hp';exact q0c this)<|CC p.2;have t:=zN (Ua (q:=true) ⟨_,wl,ZZ p.2⟩ (WD.e<|dat (i:=3) (b:=fV 11) rfl hD3.nd hp'<|za (i:=11) rfl)<|Nb (k:=58) p.2) rfl;exact⟨_,rfl,_,zm t rfl,_,rfl⟩) ⟨_,rfl⟩
 have s12:=xk (g:=gN 11) (f:=xg tU (zv<|fC<|.bl false) xj) (show Yd _ _=some (kr.map λp=>(true,D.int p.1),_) by rw[CY dl,zyA];rfl) f3;exact wQ rfl<|zt s1<|zt s2<|zt s3<|zt s4<|zt s5<|zt s6<|zt s8<|zt s7<|zt s9<|zt (zm t10 rfl)<|zt s11<|zt s12<|xt zb
end G94
end
end
open PySem PySem.W PyProof.Rows
set_option maxRecDepth 100000 in
set_option maxHeartbeats 0 in
theorem PySem.Challenge.cw_stretchdeeds_k94_whole_one_row_by_two_ro_holds : PySem.Challenge.rw_stretchdeeds_k94_whole_one_row_by_two_ro.Holds := by
 w_on;refine holds_law G94.ws λsaid=>?_
 refine holds_open (q:=G94.qv) (loose:=[]) (Xt:=G94.Xt) (XP:=XL G94.qv []) (Yf:=Hook.obs<|kHook G94.K G94.kA G94.kAe) (Ya:=Hook.val<|kHook G94.K G94.kA G94.kAe) (YP:=Hook.says<|kHook G94.K G94.kA G94.kAe) (N:=6000) G94.hl (Hook.of<|kHook G94.K G94.kA G94.kAe) (Hook.keeps<|kHook G94.K G94.kA G94.kAe) (λs e=>xl_of s (Bool.and_eq_true_iff.mp e).1) XL.keeps (by rfl) (by rfl) (by rfl) (λs e=>recFacts_of (Bool.and_eq_true_iff.mp e).2) (by rfl) (by first|assumption|decide +kernel) (by decide +kernel) G94.hbz ?hw ?hc
 (case hw=>w_witness2)
 k_fill
 refine G94.walk (l:=PySem.Challenge.rw_stretchdeeds_k94_whole_one_row_by_two_ro) rfl rfl (λw h Y=>W.kIn_of Y) G94.C_ ?F
 case F=>
  intro w mg fa h KX G hmg;refine G94.tM (kd:=PF.kdL []<|PF.Gu mg) h hmg λbase=>?_;constructor
  all_goals first|exact W.mg_none_of KX G (by k_is)|exact PF.lO KX G (by k_is) ⟨_,⟨_,_,_,_,_,_,_,_,_,rfl,by k_is,by k_is⟩,by k_is⟩|exact PF.mn KX G (by k_is) (by k_is)|exact PF.nA KX G (by k_is) (by k_is) (by k_is) (by k_is) ⟨_,⟨_,_,_,_,_,_,_,_,_,rfl,by k_is,by k_is⟩,by k_is⟩|exact PF.nO KX G (by k_is) (by k_is) (by k_is) (by k_is) (by k_is) (by k_is) (by k_is)|exact PF.kdN|exact PF.GC.int (W.mg_of KX G<|by k_is)
#print axioms PySem.Challenge.cw_stretchdeeds_k94_whole_one_row_by_two_ro_holds
