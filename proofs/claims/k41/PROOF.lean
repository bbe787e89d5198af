import PyProof.Rows.All
import Wide.All
import OpenK.AllK
import PySem.Challenge.RW_stretchdeeds_k41_deeds_on_stretches
set_option Elab.async false
set_option linter.all false
set_option maxRecDepth 100000
set_option genSizeOf false
set_option compiler.extract_closed false
set_option bootstrap.genMatcherCode false
noncomputable section
def q0a{a:Nat}:(0:Int)<=(a:Int):=by omega
def q0b{a:Nat}(h:a<=900):a<=1000:=by omega
def q0c{a:Nat}(h:0<a):(0:Int)<(a:Int):=by omega
def q0d{a:Nat}(h:2<=a):0<a:=by omega
def q0e{a b:Nat}:a+(b+1)=a+1+b:=by omega
def q0f{a b:Nat}(h:a+100<b):a+1+50<b:=by omega
def q0g{a b c:Nat}(h:a<b):a-c<b:=by omega
def q0h{a b:Nat}(h:a<b):(a:Int)<(b:Int):=by omega
def q0i{a:Nat}(h:a<900):a<1000:=by omega
def q0j{a:Nat}:a<a+5\/a+5<a:=by omega
def q0k{a:Nat}(h:a<=8):a<=1000:=by omega
def q0l{a b c:Nat}(h:a+b=c)(k:b<c):a-1+(b+1)=c:=by omega
def q0m{a:Nat}(h:a<=8):a<=900:=by omega
def q0n{a b c:Nat}(h:a=b)(k:a<=c):b<=c:=by omega
def q0o{a b:Nat}(h:a<b\/b+5<a):a<b+5\/b+5<a:=by omega
def q0p{a:Nat}(h:1<=a):(0:Int)<(a:Int):=by omega
def q0q{a b c:Nat}(h:a+b=c)(k:¬(b<c)):c<=b:=by omega
def q0r{a b:Nat}:a+1+b=a+(b+1):=by omega
def q0s{a b c:Nat}(h:a+b=c)(k:b<c):a-1<a:=by omega
def q0t{a:Nat}(h:a<=1000):a<=1000000:=by omega
def q0u{a b:Nat}(h:a<b):a<b+5\/b+5<a:=by omega
def q0v{a b:Nat}:a<=a+b:=by omega
def q0w{a:Nat}(h:2<=a)(k:a<=7):(0:Int)<(a:Int):=by omega
def q0x{a b c:Nat}(h:a<b)(k:b<=c):c≠a:=by omega
def q0y{a:Nat}:a+2<a+5\/a+5<a+2:=by omega
def q0z{a:Nat}:a+3<a+5\/a+5<a+3:=by omega
def q0A{a:Nat}:a+1<a+5\/a+5<a+1:=by omega
def q0B{a b c d:Nat}(h:a+b<=c)(k:d<b):a+d<c:=by omega
def q0C{a:Nat}:a+4<a+5\/a+5<a+4:=by omega
def q0D{a b:Nat}(h:a<b):a<=b:=by omega
def q0E{a:Nat}:a<a+4\/a+4<a:=by omega
def q0F{a:Nat}:a+1<a+4\/a+4<a+1:=by omega
def q0G{a:Nat}:a+5<a+4\/a+4<a+5:=by omega
def q0H{a:Nat}(h:a<=100):(0:Int)<=(a:Int):=by omega
def q0I{a b:Nat}(h:a<b\/b<a):a≠b:=by omega
def q0J{a:Nat}(h:1<=a)(k:a<=8):a<=1000:=by omega
def q0K{a:Nat}(h:a<=6):a<=900:=by omega
def q0L{a b:Nat}(h:¬(a<b)):b<=a:=by omega
def q0M{a:Nat}(h:a<=6):a<=1000:=by omega
def q0N{a b c:Nat}(h:a=16777216)(k:b=c)(h1:b<=a):(c:Int)<2^63:=by omega
def q0O{a b c:Nat}(h:a=b)(k:¬(c<b)):b<=c:=by omega
def q0P{a b c:Nat}(h:a<b)(k:a=c):c<=b:=by omega
def q0Q{a b c:Nat}(h:a+1=b)(k:b<=c):a+1<=c:=by omega
def q0R{a:Nat}(h:a<=6):a<=1000000:=by omega
def q0S{a b:Nat}(h:a<b)(k:b<=10):a<10:=by omega
def q0T{a b c:Nat}(h:a<b)(k:b=c):a<c:=by omega
def q0U{a b c:Nat}(h:a=b)(k:b<=59)(h1:c=b):a<=900:=by omega
def q0V{a b:Nat}(h:a=b):(0:Int)<(b:Int)+(1:Int):=by omega
def q0W{a:Nat}(h:1<=a)(k:a<=8):-10^200<(a:Int):=by omega
def q0X{a:Nat}(h:a<=1000):(0:Int)<(a:Int)+(1:Int):=by omega
def q0Y{a:Nat}(h:1<=a)(k:a<=8):(a:Int)<10^200:=by omega
def q0Z{a b:Nat}(h:0<a)(k:b<a):b<=a-1:=by omega
def q1a{a b:Nat}(h:0<a)(k:b<=a-1):b<a:=by omega
def q1b{a:Int}(h:¬((0:Int)<=a)):a<(0:Int):=by omega
def q1c{a b c:Nat}(h:a+3*(b+1)+5<c):a+1+3*b+5<c:=by omega
def q1d{a b:Nat}(h:a+1=b+1):a=b:=by omega
def q1e{a b:Nat}(h:a<=b+1)(k:b<=a+1):¬(1+max a b=0):=by omega
def q1f{a b:Nat}(h:a<b\/b+5<a):a<b\/b<a:=by omega
def q1g{a b:Nat}(h:¬(a<=b/\b<=a+5)):b<a\/a+5<b:=by omega
def q1h{a b c d:Nat}(h:a<b)(k:b=min c d):a<c:=by omega
def q1i{a:Int}(h:(0:Int)<=a):(Int.toNat a:Int)=a:=by omega
def q1j{a:Int}(h:(0:Int)<=a):a=(Int.toNat a:Int):=by omega
def q1k{a b c:Nat}(h:1+max a b<c+1)(k:a<=b+1)(h1:b<=a+1):b<c:=by omega
def q1l{a b c d:Nat}(h:a<b)(k:b=min c d):a<d:=by omega
def q1m{a:Nat}:a+2<a+4\/a+4<a+2:=by omega
def q1n{a:Nat}(h:0<a):(a:Int)≠(0:Int):=by omega
def q1o{a b:Nat}(h:a+1<=b):a<=b:=by omega
def q1p{a b c:Nat}(h:1+max a b<c+1)(k:a<=b+1)(h1:b<=a+1):a<c:=by omega
def q1q{a b:Nat}(h:a+1<=b):a<b:=by omega
def q1r{a b:Nat}(h:a+100<b):a+60<b:=by omega
def q1s{a:Nat}:a+5<a\/a<a+5:=by omega
def q1t{a b:Nat}(h:a+1<b):b≠0:=by omega
def q1u{a:Int}(h:(0:Int)<a):a≠(0:Int):=by omega
def q1v{a b:Nat}(h:a+b<=1000):a<=1000:=by omega
def q1w{a:Nat}:-10^200<(a:Int):=by omega
def q1x{a b c:Nat}(h:a=b+1)(k:a=c):b<a:=by omega
def q1y{a b:Nat}(h:a+(b+1)<=900):a<1000:=by omega
def q1z{a b:Nat}(h:a<b):a<b+4\/b+4<a:=by omega
def q1A{a b:Nat}(h:a+(b+1)<=900):a+1+b<=900:=by omega
def q1B{a:Nat}(h:2<=a)(k:a<=7):1<=a:=by omega
def q1C{a b:Nat}(h:a*b<=8*6):a*b<=900:=by omega
def q1D{a b:Int}(h:a<=b)(k:b<=a):a=b:=by omega
def q1E{a b:Nat}:max a b<=1+max a b:=by omega
def q1F{a:Nat}(h:a<=59):a<=900:=by omega
def q1G{a b:Nat}(h:a<7)(k:b=7):a<b:=by omega
def q1H{a b:Nat}(h:a=b+2):a≠0:=by omega
def q1I{a:Nat}(h:a<=59):a<=300:=by omega
def q1J{a b:Nat}(h:a<10)(k:b=10):a<b:=by omega
def q1K{a b c:Nat}(h:a=b)(k:b<=60)(h1:c=b):a<=900:=by omega
def q1L{a b:Nat}:1+max a b<=1+max a b:=by omega
def q1M{a:Nat}(h:(a+1)*(a+1)<=8*8):(a+1)*(a+1)<=900:=by omega
def q1N{a b:Nat}(h:a<b)(k:b<=8):(a:Int)<10^200:=by omega
def q1O{a b:Nat}(h:a<b):a<b\/b<a:=by omega
def q1P{a b:Nat}(h:a<=b+1)(k:b<=a+1)(h1:¬(a<=b)):a=b+1:=by omega
def q1Q{a:Nat}(h:a<=8):a<=1000000:=by omega
def q1R{a:Nat}(h:a<=100):(0:Int)<=(2:Int)*(a:Int)+(1:Int):=by omega
def q1S{a:Int}(h:(0:Int)<a/\a<=(1000000:Int)):-10^200<a:=by omega
def q1T{a b c:Nat}(h:a=b)(k:b<=c):a<=c:=by omega
def q1U{a b c d e:Nat}(h:a<=60)(k:b=a)(h1:c=a)(h2:d=b)(h3:e=c):d<=900:=by omega
def q1V{a b c d e f:Nat}(h:a=min b c)(k:a<=d)(h1:e=b)(h2:f=c):e<=d\/f<=d:=by omega
def q1W{a:Int}(h:(0:Int)<=a):-10^200<a:=by omega
def q1X{a b:Nat}(h:¬(a+1<b))(k:¬(b+1<a)):a<=b+1:=by omega
def q1Y{a b:Nat}(h:a<b)(k:b<=8):(a:Int)<=(8:Int):=by omega
def q1Z{a:Int}(h:(0:Int)<a/\a<=(1000000:Int)):a<10^200:=by omega
def q2a{a:Nat}(h:2<=a/\a<=7):(0:Int)<(a:Int):=by omega
def q2b{a:Nat}(h:1<=a)(k:a<=8):a<=900:=by omega
def q2c{a b c d e:Nat}(h:a+1<b)(k:a<c+1)(h1:b<c+1)(h2:b=1+max d e):a<c:=by omega
def q2d{a b:Nat}(h:a<=b+1)(k:b<=a+1)(h1:¬(a<=b)):a≠0:=by omega
def q2e{a b c:Nat}(h:(a:Int)<(b:Int))(k:2<=b)(h1:b<=7)(h2:c<a):c<7:=by omega
def q2f{a b:Nat}(h:(a:Int)<(b:Int))(k:2<=b)(h1:b<=7):a<7:=by omega
def q2g{a:Nat}(h:2<=a)(k:a<=7):(0:Int)<(a:Int)-(1:Int):=by omega
def q2h{a b:Nat}(h:a<=b):(a:Int)<=(b:Int):=by omega
def q2i{a b:Nat}(h:a<=b+2)(k:b<=a+2)(h1:¬(a+1<b))(h2:¬(b+1<a)):a<=b+1:=by omega
def q2j{a:Nat}(h:a<=100):(a:Int)<=(100:Int):=by omega
def q2k{a:Int}(h:(0:Int)<=a)(k:a<=(1000:Int)):-2^62<=a:=by omega
def q2l{a c d:Nat}{b:Int}(h:a*Int.toNat b+a<=a*c)(k:d=a*c):a*Int.toNat b+a<=d:=by omega
def q2m{a:Nat}(h:2<=a):(0:Int)<(a:Int)-(1:Int):=by omega
def q2n{a:Int}{b:Nat}(h:(0:Int)<=a%(8:Int))(k:a%(8:Int)=(b:Int)-(1:Int)):(0:Int)<(b:Int)-(1:Int)+(1:Int):=by omega
def q2o{a:Nat}(h:1<=a)(k:a<=8):(0:Int)<(a:Int)/\(a:Int)<(1000000:Int):=by omega
def q2p{a b:Nat}(h:a=16777216)(k:b<=a):¬(2^63<=(b:Int)):=by omega
def q2q{a c d e f:Nat}{b:Int}(h:(a:Int)=b/(2:Int)%(8:Int))(k:(c:Int)=b/(2:Int)/(8:Int)%(6:Int))(h1:(d:Int)=b/(2:Int)/(8:Int)/(6:Int)%(7:Int))(h2:(e:Int)=b/(2:Int)/(8:Int)/(6:Int)/(7:Int)%(5:Int))(h3:(f:Int)=b/(2:Int)/(8:Int)/(6:Int)/(7:Int)/(5:Int)%(8:Int)):-10^200<(a+1:Int):=by omega
def q2r{a c d e f:Nat}{b:Int}(h:(a:Int)=b/(2:Int)%(8:Int))(k:(c:Int)=b/(2:Int)/(8:Int)%(6:Int))(h1:(d:Int)=b/(2:Int)/(8:Int)/(6:Int)%(7:Int))(h2:(e:Int)=b/(2:Int)/(8:Int)/(6:Int)/(7:Int)%(5:Int))(h3:(f:Int)=b/(2:Int)/(8:Int)/(6:Int)/(7:Int)/(5:Int)%(8:Int)):1<=a+1:=by omega
def q2s{a b:Nat}(h:a=16777216)(k:b<=a):b<=1099511627776:=by omega
def q2t{a c d e f:Nat}{b:Int}(h:(a:Int)=b/(2:Int)%(8:Int))(k:(c:Int)=b/(2:Int)/(8:Int)%(6:Int))(h1:(d:Int)=b/(2:Int)/(8:Int)/(6:Int)%(7:Int))(h2:(e:Int)=b/(2:Int)/(8:Int)/(6:Int)/(7:Int)%(5:Int))(h3:(f:Int)=b/(2:Int)/(8:Int)/(6:Int)/(7:Int)/(5:Int)%(8:Int)):(a+1:Int)<10^200:=by omega
def q2u{a:Int}(h:(0:Int)<=a)(k:a<=(1000:Int)):a<2^62:=by omega
def q2v{a:Nat}(h:2<=a)(k:a<=7):(a:Int)≠(0:Int):=by omega
def q2w{a:Int}(h:(0:Int)<a)(k:a<(1073741824:Int)):(0:Int)<=a:=by omega
abbrev zzA:=PySem.W.Frag
abbrev zzB:=@List.length_map
abbrev zzC:=@List.mem_cons
abbrev zzD:=@List.mem_cons_of_mem
abbrev zzE:=@List.getElem?_eq_getElem
abbrev zzF:=@List.mem_cons_self
abbrev zzG:=@List.getElem?_eq_some_iff
abbrev zzH:=@List.size_toArray
abbrev zzI:=@List.getElem?_map
abbrev zzJ:=@List.length_append
abbrev zzK:=@Nat.lt_of_lt_of_le
abbrev zzL:=@List.mem_append_right
abbrev zzM:=@List.mem_append
abbrev zzN:=@Nat.le_refl
abbrev zzO:=@Nat.le_trans
abbrev zzP:=@List.mem_append_left
abbrev zzQ:=@Nat.ne_of_lt
abbrev zzR:=@List.mem_singleton
abbrev zzS:=@List.length_take
abbrev zzT:=@List.length_cons
abbrev zzU:=@List.length_set
abbrev zzV:=@Int.natCast_mul
abbrev zzW:=@List.nodup_cons
abbrev zzX:=@Option.map_eq_some_iff
abbrev zzY:=@List.getElem?_set_ne
abbrev zzZ:=@Option.some.inj
abbrev zyA:=@List.mem_of_getElem?
abbrev zyB:=@List.map_map
abbrev zyC:=@Bool.and_eq_true
abbrev zyD:=@Bool.or_true
abbrev zyE:=@List.append_nil
abbrev zyF:=@List.getD_eq_getElem?_getD
abbrev zyG:=@decide_eq_false
abbrev zyH:=@Int.emod_lt_of_pos
abbrev zyI:=@Int.toNat_natCast
abbrev zyJ:=@List.nodup_nil
abbrev zyK:=@List.getElem?_set_self
abbrev zyL:=@Option.bind_some
abbrev zyM:=@List.map_append
abbrev zyN:=@Int.emod_nonneg
abbrev zyO:=@decide_eq_true
abbrev zyP:=@List.getElem?_append_left
abbrev zyQ:=@List.drop_eq_getElem_cons
abbrev zyR:=@List.getElem?_append_right
abbrev zyS:=@List.map_cons
abbrev zyT:=@Array.length_toList
abbrev zyU:=@List.length_range
abbrev zyV:=@Bool.false_ne_true
abbrev zyW:=@Nat.le_succ
abbrev zyX:=@Nat.zero_add
abbrev zyY:=@Int.toNat_of_nonneg
abbrev zyZ:=@List.getElem_mem
abbrev zxA:=@Nat.lt_succ_of_lt
abbrev zxB:=@List.not_mem_nil
abbrev zxC:=@List.append_assoc
abbrev zxD:=@List.mem_map
abbrev zxE:=@List.nodup_append
abbrev zxF:=@PySem.wpAny_bind
abbrev zxG:=@PySem.wpAny_pure
abbrev zxH:=@PySem.Heap.get?_push_of_some
abbrev zxI:=@PySem.Heap.lt_size
abbrev zxJ:=@PySem.Heap.get?_push_size
abbrev zxK:=@PySem.wpAny_holding
abbrev zxL:=@PySem.Heap.size_push
abbrev zxM:=@PySem.wpAny_mono
abbrev zxN:=@PySem.wpAny_call_entry
section
namespace L2
open PySem PySem.Spec PyProof.Rows
abbrev Key:=Sum Int Str
def NI:Key->Value->Bool
 | .inl k,v=>Value.isInt k v
 | .inr x,v=>Value.isStrOf x v
noncomputable def iM(w:World):Key->Int
 | .inl k=>hashInt k
 | .inr x=>hashStr w x
def y2:∀{k:Key}{v:Value},NI k v=true->(∃i t,k=Sum.inl i/\v=Value.int i t)\/(∃x t,k=Sum.inr x/\v=Value.str x t)
 | .inl i,v,h=>by
  obtain⟨t,e⟩:=Value.isInt_shape h;exact .inl ⟨i,t,rfl,e⟩
 | .inr x,v,h=>by
  obtain⟨t,e⟩:=Value.isStrOf_shape h;exact .inr ⟨x,t,rfl,e⟩
def CT(i)(t):NI (.inl i) (.int i t)=true:=by simp[NI,Value.isInt]
def O5(x)(t):NI (.inr x) (.str x t)=true:=by simp[NI,Value.isStrOf]
def pj(a b):decide ((Sum.inl a:Key)=Sum.inl b)=(a==b):=by
 by_cases e:a=b
 . subst e;simp
 . have h:¬(Sum.inl a:Key)=Sum.inl b:=λq=>e<|Sum.inl.inj q;rw[zyG h];exact(beq_eq_false_iff_ne.mpr e).symm
def oO(a b):decide ((Sum.inr a:Key)=Sum.inr b)=decide (a=b):=by
 by_cases e:a=b
 . subst e;simp
 . have h:¬(Sum.inr a:Key)=Sum.inr b:=λq=>e<|Sum.inr.inj q;rw[zyG h,zyG e]
def qo(a)(b):decide ((Sum.inl a:Key)=Sum.inr b)=false:=zyG (λq=>nomatch q)
def oR(a)(b):decide ((Sum.inr a:Key)=Sum.inl b)=false:=zyG (λq=>nomatch q)
def x6(prog:Program)(w:World):PySem.KeyKind prog w Key where
 is:=NI
 hash:=iM w
 inj:=λv a b ha hb=>by
  rcases y2 ha with⟨i,t,rfl,rfl⟩|⟨x,t,rfl,rfl⟩
  . rcases y2 hb with⟨j,u,rfl,e⟩|⟨y,u,rfl,e⟩
    . injection e with e1 _;rw[e1]
    . exact nomatch e
  . rcases y2 hb with⟨j,u,rfl,e⟩|⟨y,u,rfl,e⟩
    . exact nomatch e
    . injection e with e1 _;rw[e1]
 byValue:=λk v h=>by
  rcases y2 h with⟨i,t,rfl,rfl⟩|⟨x,t,rfl,rfl⟩<;>rfl
 pyHash:=λhv h=>by
  rcases y2 hv with⟨i,t,rfl,rfl⟩|⟨x,t,rfl,rfl⟩
  . exact wpAny_pyHash_int h
  . exact wpAny_pyHash_str h
 eqBool:=λhu hv h=>by
  rcases y2 hu with⟨i,t,rfl,rfl⟩|⟨x,t,rfl,rfl⟩
  . rcases y2 hv with⟨j,u,rfl,rfl⟩|⟨y,u,rfl,rfl⟩
    . rw[pj]at h;exact wpAny_eqBool_int h
    . rw[qo]at h;exact SeqAt.EqAt.int_str i t y u _ _ _ _ h
  . rcases y2 hv with⟨j,u,rfl,rfl⟩|⟨y,u,rfl,rfl⟩
    . rw[oR]at h;exact SeqAt.EqAt.str_int x t j u _ _ _ _ h
    . rw[oO]at h;exact wpAny_eqBool_str h
 «strs» := λk x t v h=>by
  rcases y2 h with⟨i,u,rfl,e⟩|⟨y,u,rfl,e⟩
  . exact nomatch e
  . injection e with e1 _
    subst e1;cases v<;>rfl
def Bw(prog)(w)(i)(t):(x6 prog w).is (.inl i) (.int i t)=true:=CT i t
def VW(prog)(w)(x)(t):(x6 prog w).is (.inr x) (.str x t)=true:=O5 x t
end L2
namespace L2
open PySem PySem.Spec PyProof.Rows
inductive V where
 |non|bl (b:Bool)|int (i:Int)|str (x:Str)|byt (b:Array UInt8)|flt (b:UInt64)|ref (a:Addr)|ty (n:String)
 deriving DecidableEq
def RelV:V->Value->Prop
 | .non,u=>u=Value.none
 | .bl b,u=>u=Value.bool b
 | .int i,u=>∃t,u=Value.int i t
 | .str x,u=>∃t,u=Value.str x t
 | .byt b,u=>∃t,u=Value.bytes b t
 | .flt b,u=>∃t,u=Value.float b t
 | .ref a,u=>u=Value.ref a
 | .ty n,u=>u=Value.type n
abbrev zP:List V->List Value->Prop:=Paired RelV
theorem zP.length(r:zP xs us):xs.length=us.length:=Paired.length r
theorem zP.get:∀{xs:List V}{us:List Value}{i:Nat}{x:V},zP xs us->xs[i]? = some x->∃u,us[i]? = some u/\RelV x u
 |_,_,_,_,.nil,e=>by simp at e
 |_,_,0,_,.cons r _,e=>by simp at e;subst e;exact⟨_,rfl,r⟩
 |_,_,i+1,x,.cons _ t,e=>by
  obtain⟨u,h1,h2⟩:=zP.get t (by simpa using e);exact⟨u,by simpa using h1,h2⟩
theorem zP.append:∀{xs ys:List V}{us ws:List Value},zP xs us->zP ys ws->zP (xs++ys) (us++ws)
 |_,_,_,_,.nil,s=>s
 |_,_,_,_,.cons r t,s=>.cons r<|zP.append t s
theorem zP.take:∀{xs:List V}{us:List Value}(n:Nat),zP xs us->zP (xs.take n) (us.take n)
 |_,_,0,_=>.nil
 |_,_,_+1,.nil=>.nil
 |_,_,n+1,.cons r t=>.cons r<|zP.take n t
theorem zP.drop:∀{xs:List V}{us:List Value}(n:Nat),zP xs us->zP (xs.drop n) (us.drop n)
 |_,_,0,r=>r
 |_,_,_+1,.nil=>.nil
 |_,_,n+1,.cons _ t=>zP.drop n t
def RB:Option V->Option Value->Prop
 |some v,some u=>RelV v u
 |none,none=>True
 |_,_=>False
def KV{κ:Type}:List (κ×V)->List (κ×Value)->Prop:=Paired λ(p:κ×V) (q:κ×Value)=>p.1=q.1/\RelV p.2 q.2
def kV:Key->V
 | .inl i=>.int i
 | .inr x=>.str x
inductive HO where
 |lst (xs:List V)
 |tup (xs:List V)
 |dK (kvs:List (Key×V))|dT (kvs:List (List Key×V))
 |set (S:Int->Bool) (n:Nat)
 |ins (C dx:Addr) (fs:List (Str×V))
 |own (x:Addr)
 |xd (fs:List (Str×V))
 |met (f x:Addr)
 |rng (lo hi:Int)
 |frz (o:Obj) (u:HO)
 |tbl (ps:Array Value)
 |ext (φ:Heap->Prop)
abbrev Hp:=Addr->Option HO
noncomputable def upd(H:Hp)(a:Addr)(o:HO):Hp:=λb=>if b=a then some o else H b
def ye:upd H a o a=some o:=by unfold upd;rw[if_pos rfl]
def zH(h:b≠a):upd H a o b=H b:=by unfold upd;rw[if_neg h]
def zY{H:Hp}{a b o}(h:H a=some o)(h':H b=none):a≠b:=by
 intro e;subst e;rw[h]at h';cases h'
section
variable(P:Program)(w:World)
def v_(H:Hp)(h:Heap)(a:Addr):HO->Prop
 | .lst xs=>xs.length<=sizeLine/\∃(its:List Value) (n:Nat),zP xs its/\h.get? a=some {cls:=.type "list",data:=.seq its.toArray n}
 | .tup xs=>xs.length<=sizeLine/\∃its:List Value,zP xs its/\IsTup h a its.toArray
 | .dK kvs=>kvs.length<=sizeLine/\(a==sysModules)=false/\∃vs,KV kvs vs/\h.DictOf (x6 P w) a vs
 | .dT kvs=>kvs.length<=sizeLine/\(a==sysModules)=false/\∃xs:List (List Key×Addr×Value),
  Paired (λ(p:List Key×V) (q:List Key×Addr×Value)=>p.1=q.1/\H q.2.1=some (.tup<|p.1.map kV)/\RelV p.2 q.2.2) kvs xs/\
  ∃o es ep,h.get? a=some o/\o.ExactDict/\o.data = .dict es ep/\es.toList=xs.map (entryOfKey<|tupleKind<|x6 P w)/\(xs.map (·.1)).Nodup
 | .set S n=>h.SetOf (intKind P w) a S n
 | .ins C dx fs=>H dx=some (.own a)/\fs.length<=1000/\dx≠a/\h.get? a=some (W.instObj C dx)/\
  ∃mA,h.Ns1 dx mA/\(∀f,RB (fs.lookup f)<|mA f)/\PySem.Within mA (fs.map (·.1))
 | .own _=>∃o,h.get? a=some o
 | .xd fs=>∃mA,h.Ns1 a mA/\∀f,RB (fs.lookup f)<|mA f
 | .rng lo hi=>∃t u v,h.get? a=some {cls:=.type "range",data:=.fields #[.int lo t,.int hi u,.int 1 v]}
 | .frz o u=>h.get? a=some o/\v_ H h a u
 | .tbl ps=>h.get? a=some {cls:=.none,data:=.fields ps}
 | .met f x=>h.get? a=some (W.methodObj (.ref f)<|.ref x)
 | .ext φ=>φ h/\(∃o,h.get? a=some o)/\∀h1 h2:Heap,φ h1->(∀o,h1.get? a=some o->h2.get? a=some o)->φ h2
def TM(H:Hp)(h:Heap):Prop:=∀a o,H a=some o->v_ P w H h a o
end
section
variable{P:Program}{w:World}{H H':Hp}{h h':Heap}{a:Addr}{o:HO}
theorem v_.lt(x:v_ P w H h a o):a<h.objs.size:=by
 cases o with
 |lst xs=>obtain⟨_,_,_,_,e⟩:=x;exact zxI e
 |tup xs=>obtain⟨_,_,_,p⟩:=x;exact p.lt
 |dK kvs=>obtain⟨_,_,_,_,o,_,_,e,_⟩:=x;exact zxI e
 |dT kvs=>obtain⟨_,_,_,_,o,_,_,e,_⟩:=x;exact zxI e
 |set S n=>obtain⟨o,_,_,_,e,_⟩:=x;exact zxI e
 |ins C dx fs=>obtain⟨_,_,_,e,_⟩:=x;exact zxI e
 |own y=>obtain⟨_,e⟩:=x;exact zxI e
 |xd fs=>obtain⟨_,⟨_,_,_,e,_⟩,_⟩:=x;exact zxI e
 |rng lo hi=>obtain⟨_,_,_,e⟩:=x;exact zxI e
 |frz ob u=>obtain⟨e,_⟩:=x;exact zxI e
 |tbl ps=>exact zxI (x)
 |met f y=>exact zxI (x)
 |ext φ=>obtain⟨_,⟨_,e⟩,_⟩:=x;exact zxI e
theorem Paired.mapP:∀{l₁:List α}{l₂:List β},Paired F l₁ l₂->(∀a b,F a b->G a b)->Paired G l₁ l₂
 |_,_,.nil,_=>.nil
 |_,_,.cons r t,f=>.cons (f _ _ r)<|Paired.mapP t f
def v_.stay(x:v_ P w H h a o)(k:∀b u,(b=a\/H b=some (.own a))->h.get? b=some u->h'.get? b=some u)
 (ho:∀b,H b=some (.own a)->H' b=some (.own a)) (ht:∀b xs,H b=some (.tup xs)->H' b=some (.tup xs)):v_ P w H' h' a o:=by
 induction o with
 |lst xs=>obtain⟨z,its,n,r,e⟩:=x;exact⟨z,its,n,r,k _ _ (.inl rfl) e⟩
 |tup xs=>obtain⟨z,its,r,ob,e,c⟩:=x;exact⟨z,its,r,ob,k _ _ (.inl rfl) e,c⟩
 |dK kvs=>obtain⟨z,y,vs,r,ob,es,ep,e,c⟩:=x;exact⟨z,y,vs,r,ob,es,ep,k _ _ (.inl rfl) e,c⟩
 |dT kvs=>
  obtain⟨z,y,xs,r,ob,es,ep,e,c⟩:=x;exact⟨z,y,xs,Paired.mapP r λp q z=>⟨z.1,ht _ _ z.2.1,z.2.2⟩,ob,es,ep,k _ _ (.inl rfl) e,c⟩
 |set S n=>obtain⟨ob,es,ep,t,e,c⟩:=x;exact⟨ob,es,ep,t,k _ _ (.inl rfl) e,c⟩
 |ins C dx fs=>
  obtain⟨d,z,ne,e,mA,⟨od,es,ep,e2,c⟩,r⟩:=x;exact⟨ho _ d,z,ne,k _ _ (.inl rfl) e,mA,⟨od,es,ep,k _ _ (.inr d) e2,c⟩,r⟩
 |own y=>obtain⟨ob,e⟩:=x;exact⟨ob,k _ _ (.inl rfl) e⟩
 |xd fs=>obtain⟨mA,⟨od,es,ep,e,c⟩,r⟩:=x;exact⟨mA,⟨od,es,ep,k _ _ (.inl rfl) e,c⟩,r⟩
 |rng lo hi=>obtain⟨t,u,v,e⟩:=x;exact⟨t,u,v,k _ _ (.inl rfl) e⟩
 |frz ob u ih=>obtain⟨e,q⟩:=x;exact⟨k _ _ (.inl rfl) e,ih q⟩
 |tbl ps=>
  have e:=x;exact k a _ (.inl rfl) e
 |met f y=>
  have e:=x;exact k a _ (.inl rfl) e
 |ext φ=>obtain⟨p,⟨o,e⟩,st⟩:=x;exact⟨st _ _ p λo q=>k _ _ (.inl rfl) q,⟨o,k _ _ (.inl rfl) e⟩,st⟩
theorem TM.lt(x:TM P w H h)(e:H a=some o):a<h.objs.size:=(x a o e).lt
def TM.fresh(x:TM P w H h)(e:h.objs.size<=a):H a=none:=by
 cases q:H a with
 |none=>rfl
 |some u=>exact absurd (zzK (x.lt q) e) (Nat.lt_irrefl _)
def TM.kept(x:TM P w H h)(k:∀b u,h.get? b=some u->h'.get? b=some u):TM P w H h':=λa o e=>
 (x a o e).stay (λb u _ q=>k b u q) (λ_ q=>q) λ_ _ q=>q
def TM.laid(x:TM P w H h)(k:∀b u,h.get? b=some u->h'.get? b=some u)(hp:h.objs.size<=a)(new:v_ P w (upd H a o) h' a o):TM P w (upd H a o) h':=λb u e=>by
 have hn:=x.fresh hp
 by_cases hb:b=a
 . subst hb;rw[ye]at e;cases e;exact new
 . rw[zH hb]at e;exact(x b u e).stay (λc v _ q=>k c v q) (λc q=>by rw[zH<|zY q hn];exact q) λc xs q=>by rw[zH<|zY q hn];exact q
end
def Rd(H:Hp)(a:Addr)(u:HO):Prop:=H a=some u\/∃o,H a=some (.frz o u)
def Rd.ok(r:Rd H a u)(x:TM P w H h):v_ P w H h a u:=by
 rcases r with r|⟨o,r⟩
 . exact x a u r
 . obtain⟨_,q⟩:=x a _ r;exact q
def jQ:Option HO->Prop
 |some (.lst _)=>True
 |some (.dK _)=>True
 |some (.dT _)=>True
 |some (.set _ _)=>True
 |some (.ins _ _ _)=>True
 |some (.ext _)=>True
 |_=>False
section
variable{P:Program}{w:World}{H:Hp}{h h':Heap}{x e:Addr}{o':HO}
def TM.write(ok:TM P w H h)(mu:jQ (H x))(he:e=x\/H e=some (.own x))(k:∀b u,b≠e->h.get? b=some u->h'.get? b=some u)(heo:∃u,h'.get? e=some u)
 (new:v_ P w (upd H x o') h' x o'):TM P w (upd H x o') h':=λb u q=>by
 have nown:∀c y,H c=some (.own y)->c≠x:=λc y r z=>by subst z;rw[r]at mu;exact mu
 have ntup:∀c xs,H c=some (.tup xs)->c≠x:=λc xs r z=>by subst z;rw[r]at mu;exact mu
 by_cases hb:b=x
 . subst hb;rw[ye]at q;cases q;exact new
 . rw[zH hb]at q
   by_cases hbe:b=e
   . have q':H b=some (.own x):=by
      rcases he with z|z
      . exact absurd (hbe.trans z) hb
      . rw[hbe];exact z
     rw[q]at q';cases q';obtain⟨v,hv⟩:=heo;exact⟨v,by rw[hbe];exact hv⟩
   . refine(ok b u q).stay (λc v hc r=>k c v ?_ r) (λc r=>by rw[zH<|nown c b r];exact r) λc xs r=>by rw[zH<|ntup c xs r];exact r
     rcases hc with rfl|hc
     . exact hbe
     . rintro rfl
       rcases he with z|z
       . exact nown c b hc z
       . rw[hc]at z;cases z;exact hb rfl
end
structure Un(fs ex:List Addr)(H H':Hp)(h h':Heap):Prop where
 keep:∀b o,h.get? b=some o->H b=none->b ∉ fs->b ∉ ex->h'.get? b=some o
 slot:∀b o,h.get? b=some o->H b=none->b ∈ fs->b ∉ ex->∃sl,h'.get? b=some {o with slots:=sl}
 free:∀b o,h.get? b=some o->H b=none->b ∉ ex->H' b=none
 there:∀b o,h.get? b=some o->b ∉ ex->∃o',h'.get? b=some o'
 tups:∀b xs,H b=some (.tup xs)->H' b=some (.tup xs)
 frzs:∀b o u,H b=some (.frz o u)->H' b=some (.frz o u)
 tbls:∀b ps,H b=some (.tbl ps)->∃more,H' b=some (.tbl<|ps++more)
section
variable{fs fs' ex ex':List Addr}{H H1 H2:Hp}{h h1 h2 h':Heap}{a x e:Addr}{o:HO}
def Un.any(u:Un fs ex H H1 h h1)(q:h.get? b=some ob)(n:H b=none)(hx:b ∉ ex):∃sl,h1.get? b=some {ob with slots:=sl}:=by
 by_cases hb:b ∈ fs
 . exact u.slot b ob q n hb hx
 . exact⟨ob.slots,u.keep b ob q n hb hx⟩
def Un.kept(k:∀b u,h.get? b=some u->h'.get? b=some u):Un fs ex H H h h':=
 ⟨λb ob q _ _ _=>k b ob q,λb ob q _ _ _=>⟨ob.slots,k b ob q⟩,λ_ _ _ n _=>n,λb ob q _=>⟨ob,k b ob q⟩,λ_ _ q=>q,λ_ _ _ q=>q,λ_ ps q=>⟨#[],by rw[q];simp⟩⟩
def Un.refl:Un fs ex H H h h:=Un.kept λ_ _ q=>q
def Un.laid(k:∀b u,h.get? b=some u->h'.get? b=some u)(hp:h.objs.size<=a)(hn:H a=none):Un fs ex H (upd H a o) h h' where
 keep:=λb u q _ _ _=>k b u q
 slot:=λb u q _ _ _=>⟨u.slots,k b u q⟩
 free:=λb u q n _=>by rw[zH<|zzQ<|zzK (zxI q) hp];exact n
 there:=λb u q _=>⟨u,k b u q⟩
 tups:=λb xs q=>by rw[zH<|zY q hn];exact q
 frzs:=λb u xs q=>by rw[zH<|zY q hn];exact q
 tbls:=λb ps q=>⟨#[],by rw[zH<|zY q hn,q];simp⟩
def Un.write(mu:jQ (H x))(he:e=x\/H e=some (.own x))(k:∀b u,b≠e->h.get? b=some u->h'.get? b=some u)(heo:∃u,h'.get? e=some u):Un fs ex H (upd H x o) h h':=by
 have hx:∀b,H b=none->b≠x:=λb n z=>by subst z;rw[n]at mu;exact mu
 have hb:∀b,H b=none->b≠e:=λb n z=>by
  subst z
  rcases he with r|r
  . exact hx b n r
  . rw[n]at r;cases r
 have hm:∀b u,H b=some u->¬jQ (some u)->b≠x:=λb u q nm z=>by subst z;rw[q]at mu;exact nm mu
 refine⟨λb u q n _ _=>k b u (hb b n) q,λb u q n _ _=>⟨u.slots,k b u (hb b n) q⟩,λb u q n _=>by rw[zH<|hx b n];exact n,λb u q _=>?_,
  λb xs q=>by rw[zH<|hm b _ q λz=>z];exact q,λb u xs q=>by rw[zH<|hm b _ q λz=>z];exact q,λb ps q=>⟨#[],by rw[zH<|hm b _ q λz=>z,q];simp⟩⟩
 by_cases hbe:b=e
 . subst hbe;exact heo
 . exact⟨u,k b u hbe q⟩
end
noncomputable def trk(h:Heap)(H:Hp):List Addr:=(List.range h.objs.size).filter λa=>(H a).isSome
def OZ(h:Heap)(H:Hp):Heap:=W.hideAll h<|trk h H
def O_(h)(H):(OZ h H).objs.size=h.objs.size:=W.hideAll_size _ _
def J4(e:h.get? b=some o)(n:H b=none):(OZ h H).get? b=some o:=
 W.hideAll_get _ e λhm=>by
  have q:=(List.mem_filter.mp hm).2;rw[n]at q;simp at q
def Dy(e:(OZ h H).get? b=some o):h.get? b=some o/\H b=none:=by
 have e':h.get? b=some o:=W.of_hideAll _ e;refine⟨e', ?_⟩;cases q:H b with
 |none=>rfl
 |some x=>
  have hm:b ∈ trk h H:=List.mem_filter.mpr ⟨List.mem_range.mpr<|zxI e',by simp[q]⟩;have z:(OZ h H).get? b=none:=W.hideAll_none _ hm;rw[z]at e;cases e
end L2
namespace L2
open PySem PySem.Spec PyProof.Rows
structure Mod(K:zzA)(mg:Str->Option Value)(base:Heap):Prop where
 kin:K.In base
 glob:base.Ns mainGlobals mg
 blt:∃mb,base.Ns builtinsNs mb/\∀x:Str,x≠"__name__"->mb x=bootBuiltins x
 nolimit:base.NoLimit
structure Cx where
 prog:Program
 w:World
 K:zzA
 mg:Str->Option Value
 base:Heap
 A:Around
 N:List Str
 s₀:Shared
 H₀:Hp
 env:Env
 outer:List Env
 stack:List Env
 ex:List Addr
 fn:Str->Bool
 calm:Bool
 pn:List (Addr×Obj)
 xe:Value->Shared->Prop
def C_(l:List Env):List Addr:=l.filterMap (·.frame)
abbrev Cx.fs(X:Cx):List Addr:=C_ X.outer
def jO(sc:Scope)(x:Str):Prop:=sc.names.lookup x=some .local\/sc.names.lookup x=some .cell\/sc.names.lookup x=some .free
def Loc(sc:Scope)(x:Str):Prop:=sc.names.lookup x=some .local\/sc.names.lookup x=some .cell
def Look(env:Env)(h:Heap)(m:Str->Option Value)(x:Str)(u:Value):Prop:=
 (env.kindOf x=some .local/\m x=some u)\/((env.kindOf x=some .cell\/env.kindOf x=some .free)/\∃c,env.cells.lookup x=some c/\h.IsCell c (some u))
structure Cx.Ok(X:Cx):Prop where
 mod:Mod X.K X.mg X.base
 kind:X.env.scope.kind = .function
 glob:X.env.globals=mainGlobals
 blt:X.env.builtins=builtinsNs
 above:X.s₀.heap.objs.size<=X.env.locals
 inj:∀x y c,X.env.cells.lookup x=some c->X.env.cells.lookup y=some c->x=y
 has:∀x,(X.env.kindOf x=some .cell\/X.env.kindOf x=some .free)->∃c,X.env.cells.lookup x=some c
 cab:∀x c,X.fn x=true->X.env.cells.lookup x=some c->X.s₀.heap.objs.size<=c
 hd:X.calm=true->X.A.handled=none
 frames:X.A.frames=some X.stack
 stk:X.stack=X.outer\/(X.stack=X.env::X.outer/\X.env.frame=some X.env.locals)
 exf:∀b ∈ X.ex,b≠X.env.locals/\∀x c,X.env.cells.lookup x=some c->c≠b
 bs:∀b o,X.base.get? b=some o->X.s₀.heap.get? b=some o/\X.H₀ b=none
 bsz:X.base.objs.size<=X.s₀.heap.objs.size
 noex:∀b o,X.base.get? b=some o->b ∉ X.ex
 exfs:∀b ∈ X.ex,b ∉ X.fs
 funs:X.s₀.heap.FunFrames X.base X.outer
 frf:∀b ∈ X.fs,X.H₀ b=none
structure Inv(X:Cx)(pins:List (Addr×Obj))(σ:List (Option V))(H:Hp)(s:Shared):Prop where
 ok:X.Ok
 os:s.os=X.s₀.os
 bare:AllBare s.gens
 base:Un X.fs X.ex X.H₀ H X.s₀.heap s.heap
 loc:∃m,s.heap.Ns X.env.locals m/\∀(i:Nat) (x:Str) (v:V),X.N[i]? = some x->σ[i]? = some (some v)->jO X.env.scope x->∃u,RelV v u/\Look X.env s.heap m x u
 cell:∀x c,X.env.cells.lookup x=some c->∃v,s.heap.IsCell c v
 free:H X.env.locals=none
 freeC:∀x c,X.env.cells.lookup x=some c->H c=none
 pin:∀p ∈ X.pn++pins,s.heap.get? p.1=some p.2/\H p.1=none/\p.1≠X.env.locals/\p.1 ∉ X.fs/\∀v,p.2.data ≠ .cell v
 hok:TM X.prog X.w H s.heap
 len:σ.length=X.N.length
section
variable{X:Cx}{pins:List (Addr×Obj)}{σ:List (Option V)}{H H':Hp}{s:Shared}{h':Heap}
def Cx.Ok.nofr(ok:X.Ok)(e:X.base.get? b=some o):b ∉ X.fs:=λhb=>by
 have:=(ok.funs.mem hb).1;rw[e]at this;cases this
theorem Inv.bs(I:Inv X pins σ H s):∀b o,X.base.get? b=some o->s.heap.get? b=some o/\H b=none:=λb o e=>
 ⟨I.base.keep b o (I.ok.bs b o e).1 (I.ok.bs b o e).2 (I.ok.nofr e)<|I.ok.noex b o e,I.base.free b o (I.ok.bs b o e).1 (I.ok.bs b o e).2<|I.ok.noex b o e⟩
def Inv.bk(I:Inv X pins σ H s):∀b o,X.base.get? b=some o->s.heap.get? b=some o:=λb o e=>(I.bs b o e).1
theorem Inv.mod(I:Inv X pins σ H s):Mod X.K X.mg X.base:=I.ok.mod
def Inv.kIn(I:Inv X pins σ H s):X.K.In s.heap:=I.ok.mod.kin.keeps I.bk
theorem Inv.lt(I:Inv X pins σ H s):X.env.locals<s.heap.objs.size:=let⟨_,hn,_⟩:=I.loc;hn.lt
def Inv.sz(I:Inv X pins σ H s):X.s₀.heap.objs.size<=s.heap.objs.size:=zzO I.ok.above<|Nat.le_of_lt I.lt
def Inv.nofs(I:Inv X pins σ H s)(h:s.heap.objs.size<=a):a ∉ X.fs:=λhb=>by
 obtain⟨_,o,ho,_⟩:=I.ok.funs.mem hb;exact absurd (zzK (zxI ho)<|zzO I.sz h)<|Nat.lt_irrefl _
def Inv.cne(I:Inv X pins σ H s):∀x c,X.env.cells.lookup x=some c->c≠X.env.locals:=λx c e z=>by
 obtain⟨v,o,ho,hd⟩:=I.cell x c e;obtain⟨m,⟨o',es,ep,ho',hd',_⟩,_⟩:=I.loc;rw[z,ho']at ho;cases ho;rw[hd']at hd;cases hd
theorem Inv.funs(I:Inv X pins σ H s):s.heap.FunFrames X.base X.outer:=by
 have all:∀(l:List Env),(∀b ∈ C_ l,b ∈ X.fs)->X.s₀.heap.FunFrames X.base l->s.heap.FunFrames X.base l:=by
  intro l
  induction l with
  |nil=>intro _ _;trivial
  |cons env r ih=>
   intro hs hl;obtain⟨hk,⟨L,o,hf,hn,ho,hd⟩,hr⟩:=hl;have hL:=hs L (by unfold C_;rw[List.filterMap_cons,hf];exact zzF);obtain⟨sl,e⟩:=I.base.slot L o ho (I.ok.frf L hL) hL λz=>I.ok.exfs L z hL;exact⟨hk,⟨L,_,hf,hn,e,hd⟩,ih (λb hb=>hs b<|by unfold C_;rw[List.filterMap_cons,hf];exact zzD _ hb) hr⟩
 exact all X.outer (λ_ hb=>hb) I.ok.funs
theorem Inv.stack(I:Inv X pins σ H s):s.heap.FunFrames X.base X.stack:=by
 rcases I.ok.stk with e|⟨e,hf⟩
 . rw[e];exact I.funs
 . rw[e];obtain⟨m,hn,_⟩:=I.loc;refine .cons (by rw[I.ok.kind];decide) hf hn ?_ I.funs;exact Heap.get?_none_of_le<|zzO I.ok.bsz I.ok.above
def Inv.stkSub(I:Inv X pins σ H s):∀b ∈ C_ X.stack,b ∈ X.env.locals::X.fs:=λb hb=>by
 rcases I.ok.stk with e|⟨e,hf⟩
 . rw[e]at hb;exact zzD _ hb
 . rw[e]at hb;unfold C_ at hb;rw[List.filterMap_cons,hf]at hb;exact hb
def Inv.stkFree(I:Inv X pins σ H s):∀b ∈ C_ X.stack,H b=none:=λb hb=>by
 rcases zzC.mp (I.stkSub b hb)with e|hb
 . rw[e];exact I.free
 . obtain⟨_,o,ho,_⟩:=I.ok.funs.mem hb;exact I.base.free b o ho (I.ok.frf b hb) λz=>I.ok.exfs b z hb
def Inv.step{g'}{t':Nat}{d'}{ch:List Addr}(I:Inv X pins σ H s)
 (hch:∀b ∈ ch,(b ∈ X.ex\/X.s₀.heap.objs.size<=b)/\b≠X.env.locals/\(∀x c,X.env.cells.lookup x=some c->c≠b)/\∀p ∈ X.pn++pins,p.1≠b)
 (keep:∀b o,b≠X.env.locals->b ∉ X.fs->b ∉ ch->s.heap.get? b=some o->H b=none->h'.get? b=some o)
 (slot:∀b o,b≠X.env.locals->b ∈ X.fs->b ∉ ch->s.heap.get? b=some o->H b=none->∃sl,h'.get? b=some {o with slots:=sl}) (free:∀b o,b ∉ ch->s.heap.get? b=some o->H b=none->H' b=none)
 (there:∀b o,b ∉ ch->s.heap.get? b=some o->∃o',h'.get? b=some o')
 (tups:∀b xs,H b=some (.tup xs)->H' b=some (.tup xs)) (frzs:∀b o u,H b=some (.frz o u)->H' b=some (.frz o u)) (tbls:∀b ps,H b=some (.tbl ps)->∃more,H' b=some (.tbl<|ps++more))
 (ns:∀m,s.heap.Ns X.env.locals m->h'.Ns X.env.locals m) (hok:TM X.prog X.w H' h') (hg:AllBare g'):
 Inv X pins σ H' {s with heap:=h',gens:=g',drawn:=d',toks:=t'}:=by
 have neL:∀b o,X.s₀.heap.get? b=some o->b≠X.env.locals:=λb o e=>zzQ<|zzK (zxI e) I.ok.above;have neC:∀b o,X.s₀.heap.get? b=some o->b ∉ X.ex->b ∉ ch:=λb o e hx hb=>by
  rcases(hch b hb).1 with z|z
  . exact hx z
  . exact absurd (zzK (zxI e) z)<|Nat.lt_irrefl _
 have cellK:∀x c,X.env.cells.lookup x=some c->∀v,s.heap.IsCell c v->h'.IsCell c v:=λx c e v ⟨o,ho,hd⟩=>by
  have nch:=λz=>(hch c z).2.2.1 x c e rfl
  by_cases hc:c ∈ X.fs
  . obtain⟨sl,q⟩:=slot c o (I.cne x c e) hc nch ho<|I.freeC x c e;exact⟨_,q,hd⟩
  . exact⟨o,keep c o (I.cne x c e) hc nch ho<|I.freeC x c e,hd⟩
 refine⟨I.ok,I.os,hg,⟨λb o e n hb hx=>?_,λb o e n hb hx=>?_,λb o e n hx=>?_,λb o e hx=>?_,λb xs e=>tups b xs<|I.base.tups b xs e,λb o xs e=>frzs b o xs<|I.base.frzs b o xs e,λb ps e=>?_⟩, ?_,λx c e=>?_, ?_,λx c e=>?_,λp hp=>?_,hok,I.len⟩
 . exact keep b o (neL b o e) hb (neC b o e hx) (I.base.keep b o e n hb hx)<|I.base.free b o e n hx
 . obtain⟨sl,e1⟩:=I.base.slot b o e n hb hx;obtain⟨sl',e2⟩:=slot b _ (neL b o e) hb (neC b o e hx) e1<|I.base.free b o e n hx;exact⟨sl',e2⟩
 . obtain⟨o',e1⟩:=I.base.there b o e hx;exact free b o' (neC b o e hx) e1<|I.base.free b o e n hx
 . obtain⟨o',e1⟩:=I.base.there b o e hx;exact there b o' (neC b o e hx) e1
 . obtain⟨m1,e1⟩:=I.base.tbls b ps e;obtain⟨m2,e2⟩:=tbls b _ e1;exact⟨m1++m2,by rw[e2,Array.append_assoc]⟩
 . obtain⟨m,hn,hl⟩:=I.loc;refine⟨m,ns m hn,λi x v e1 e2 e3=>?_⟩;obtain⟨u,r,l⟩:=hl i x v e1 e2 e3;refine⟨u,r, ?_⟩
   rcases l with l|⟨k,c,e,z⟩
   . exact .inl l
   . exact .inr ⟨k,c,e,cellK x c e _ z⟩
 . obtain⟨v,z⟩:=I.cell x c e;exact⟨v,cellK x c e v z⟩
 . obtain⟨m,⟨o,_,_,ho,_⟩,_⟩:=I.loc;exact free _ o (λz=>(hch _ z).2.1 rfl) ho I.free
 . obtain⟨v,o,ho,hd⟩:=I.cell x c e;exact free c o (λz=>(hch c z).2.2.1 x c e rfl) ho<|I.freeC x c e
 . obtain⟨e,n,ne,nf,d⟩:=I.pin p hp;have nch:=λz=>(hch p.1 z).2.2.2 p hp rfl;exact⟨keep p.1 p.2 ne nf nch e n,free p.1 p.2 nch e n,ne,nf,d⟩
def Inv.un{t':Nat}(I:Inv X pins σ H s)(u:Un X.fs [] H H' s.heap h')(hok:TM X.prog X.w H' h'):Inv X pins σ H' {s with heap:=h',toks:=t'}:=by
 obtain⟨m,⟨o,es,ep,ho,r⟩,_⟩:=id I.loc;obtain⟨sl,hL⟩:=u.any ho I.free (by simp);exact I.step (g':=s.gens) (d':=s.drawn) (ch:=[]) (λ_ z=>nomatch z) (λb o _ hb _ e n=>u.keep b o e n hb<|by simp) (λb o _ hb _ e n=>u.slot b o e n hb<|by simp) (λb o _ e n=>u.free b o e n<|by simp) (λb o _ e=>u.there b o e<|by simp) u.tups u.frzs u.tbls (λm' hm=>by
  obtain⟨o',es',ep',ho',r'⟩:=hm;rw[ho]at ho';cases ho';exact⟨_,es',ep',hL,r'⟩) hok I.bare
def Inv.call{g'}{t':Nat}{d'}{ch:List Addr}(I:Inv X pins σ H s)(u:Un (C_ X.stack) ch H H' s.heap h')(hok:TM X.prog X.w H' h')(hg:AllBare g')
 (hch:∀b ∈ ch,(b ∈ X.ex\/X.s₀.heap.objs.size<=b)/\b≠X.env.locals/\(∀x c,X.env.cells.lookup x=some c->c≠b)/\∀p ∈ X.pn++pins,p.1≠b):
 Inv X pins σ H' {s with heap:=h',gens:=g',drawn:=d',toks:=t'}:=by
 obtain⟨m,⟨o,es,ep,ho,r⟩,_⟩:=id I.loc;obtain⟨sl,hL⟩:=u.any ho I.free λz=>(hch _ z).2.1 rfl;exact I.step hch (λb o hL hb hc e n=>u.keep b o e n (λz=>(zzC.mp<|I.stkSub b z).elim hL hb) hc) (λb o _ _ hc e n=>u.any e n hc) (λb o hc e n=>u.free b o e n hc) (λb o hc e=>u.there b o e hc) u.tups u.frzs u.tbls (λm' hm=>by
  obtain⟨o',es',ep',ho',r'⟩:=hm;rw[ho]at ho';cases ho';exact⟨_,es',ep',hL,r'⟩) hok hg
def Inv.turned{t':Nat}{it:Addr}(I:Inv X pins σ H s)(k:∀b o,b≠it->s.heap.get? b=some o->h'.get? b=some o)(hn:H it=none)(hL:it≠X.env.locals)
 (h1:it ∈ X.ex\/X.s₀.heap.objs.size<=it) (h2:∀x c,X.env.cells.lookup x=some c->c≠it) (h3:∀p ∈ X.pn++pins,p.1≠it):Inv X pins σ H {s with heap:=h',toks:=t'}:=by
 have nit:∀b u,H b=some u->b≠it:=λb u e z=>by rw[z,hn]at e;cases e
 refine I.step (g':=s.gens) (d':=s.drawn) (ch:=[it]) (λb hb=>?_) (λb o _ _ hc e _=>k b o (λz=>hc<|by simp[z]) e) (λb o _ _ hc e _=>⟨o.slots,k b o (λz=>hc<|by simp[z]) e⟩) (λ_ _ _ _ n=>n)
  (λb o hc e=>⟨o,k b o (λz=>hc<|by simp[z]) e⟩) (λ_ _ e=>e) (λ_ _ _ e=>e) (λb ps e=>⟨#[],by rw[e];simp⟩) (λm hm=>?_) (λb u e=>?_) I.bare
 . have e:b=it:=by simpa using hb
   subst e;exact⟨h1,hL,h2,h3⟩
 . obtain⟨o,es,ep,ho,r⟩:=hm;exact⟨o,es,ep,k _ o (Ne.symm hL) ho,r⟩
 . refine(I.hok b u e).stay (λc v hc q=>k c v ?_ q) (λ_ q=>q) λ_ _ q=>q
   rcases hc with z|z
   . rw[z];exact nit b u e
   . exact nit c _ z
def Inv.tok(I:Inv X pins σ H s)(t:Nat):Inv X pins σ H {s with toks:=t}:=I.un (h':=s.heap) (t':=t) Un.refl I.hok
theorem Inv.kept(I:Inv X pins σ H s)(k:∀b u,s.heap.get? b=some u->h'.get? b=some u):Inv X pins σ H {s with heap:=h',toks:=t'}:=I.un (Un.kept k)<|I.hok.kept k
theorem Inv.laid(I:Inv X pins σ H s)(k:∀b u,s.heap.get? b=some u->h'.get? b=some u)(hp:s.heap.objs.size<=a)(new:v_ X.prog X.w (upd H a o) h' a o):
 Inv X pins σ (upd H a o) {s with heap:=h',toks:=t'}:=I.un (Un.laid k hp<|I.hok.fresh hp)<|I.hok.laid k hp new
theorem Inv.write(I:Inv X pins σ H s)(mu:jQ (H x))(he:e=x\/H e=some (.own x))(k:∀b u,b≠e->s.heap.get? b=some u->h'.get? b=some u)(heo:∃u,h'.get? e=some u)
 (new:v_ X.prog X.w (upd H x o) h' x o):Inv X pins σ (upd H x o) {s with heap:=h',toks:=t'}:=I.un (Un.write mu he k heo)<|I.hok.write mu he k heo new
def Inv.weak(I:Inv X pins σ H s)(hl:σ'.length=σ.length)(w:∀(i:Nat) v,σ'[i]? = some (some v)->σ[i]? = some (some v)):Inv X pins σ' H s:=
 ⟨I.ok,I.os,I.bare,I.base,let⟨m,hn,hl'⟩:=I.loc;⟨m,hn,λi x v e1 e2 e3=>hl' i x v e1 (w i v e2) e3⟩,I.cell,I.free,I.freeC,I.pin,I.hok,hl.trans I.len⟩
def Inv.pins_of(I:Inv X pins σ H s)(h:∀p ∈ pins',s.heap.get? p.1=some p.2/\H p.1=none/\p.1≠X.env.locals/\p.1 ∉ X.fs/\∀v,p.2.data ≠ .cell v):Inv X pins' σ H s:=
 ⟨I.ok,I.os,I.bare,I.base,I.loc,I.cell,I.free,I.freeC,λp hp=>(zzM.mp hp).elim (λz=>I.pin p<|zzP _ z)<|h p,I.hok,I.len⟩
def BM{N:List Str}(hN:N.Nodup){i j:Nat}{x}(a:N[i]? = some x)(b:N[j]? = some x):i=j:=by
 obtain⟨h1,e1⟩:=zzG.mp a;obtain⟨h2,e2⟩:=zzG.mp b;exact(List.getElem_inj hN).mp<|e1.trans e2.symm
def N5{M A E}{i:Nat}{x v u Q}(I:Inv X pins σ H s)(hN:X.N.Nodup)(hi:X.N[i]? = some x)(hx:Loc X.env.scope x)(r:RelV v u)
 (h:∀s',Inv X pins (σ.set i<|some v) H s'->(∃a,Heap.SameBut a s.heap s'.heap/\(a=X.env.locals\/X.env.cells.lookup x=some a))->Q () s') (hf:X.fn x=true\/X.env.scope.names.lookup x=some .local:=by first|exact .inl rfl|exact .inr rfl|assumption):wpAny M A (storeName X.env x u) Q E s:=by
 obtain⟨m,hn,hl⟩:=id I.loc;have hcls:(X.env.scope.kind == .class||(X.env.scope.kind == .module&&X.env.locals != X.env.globals))=false:=by rw[I.ok.kind];rfl
 have hiσ:i<σ.length:=by rw[I.len];exact(zzG.mp hi).1
 have cne:=I.cne;have tracked:∀{a:Addr}{h':Heap},(∃o,s.heap.get? a=some o/\H a=none)->Heap.SameBut a s.heap h'->TM X.prog X.w H h':=λ{a h'} ha hs b ob e=>by
  obtain⟨_,_,hfree⟩:=ha;refine(I.hok b ob e).stay (λc w' hc q=>(hs.2 c ?_).trans q) (λ_ q=>q) λ_ _ q=>q
  rintro rfl
  rcases hc with rfl|hc
  . rw[hfree]at e;cases e
  . rw[hfree]at hc;cases hc
 rcases hx with hk|hk
 . refine wpAny_storeName_local hk hn (λh' hn' hs=>?_) hcls;obtain⟨oL,_,_,hoL,_⟩:=id hn;refine h _ ⟨I.ok,I.os,I.bare,⟨λb o e n hb hx=>?_,λb o e n hb hx=>?_,I.base.free,λb o e hx=>?_,I.base.tups,I.base.frzs,I.base.tbls⟩,⟨_,hn',λj y v' e1 e2 e3=>?_⟩,λy c e=>?_,I.free,I.freeC,λp hp=>?_,tracked ⟨oL,hoL,I.free⟩ hs,by simpa using I.len⟩ ⟨_,hs,.inl rfl⟩
   . exact(hs.2 b<|zzQ<|zzK (zxI e) I.ok.above).trans<|I.base.keep b o e n hb hx
   . obtain⟨sl,e1⟩:=I.base.slot b o e n hb hx;exact⟨sl,(hs.2 b<|zzQ<|zzK (zxI e) I.ok.above).trans e1⟩
   . obtain⟨o',e1⟩:=I.base.there b o e hx;exact⟨o',(hs.2 b<|zzQ<|zzK (zxI e) I.ok.above).trans e1⟩
   . by_cases hj:j=i
     . subst hj;rw[hi]at e1;cases e1;rw[zyK hiσ]at e2;cases e2;exact⟨u,r,.inl ⟨hk,by simp⟩⟩
     . rw[zzY<|Ne.symm hj]at e2;obtain⟨u',r',q⟩:=hl j y v' e1 e2 e3;refine⟨u',r', ?_⟩
       rcases q with⟨k,e⟩|⟨k,c,e,z⟩
       . refine .inl ⟨k, ?_⟩;have:y≠x:=λe=>hj<|BM hN e1<|e ▸ hi;simp[this,e]
       . exact .inr ⟨k,c,e,z.sameBut hs<|cne y c e⟩
   . obtain⟨w',z⟩:=I.cell y c e;exact⟨w',z.sameBut hs<|cne y c e⟩
   . obtain⟨e,n,ne,nf,d⟩:=I.pin p hp;exact⟨(hs.2 p.1 ne).trans e,n,ne,nf,d⟩
 . have hfn:X.fn x=true:=by
    rcases hf with z|z
    . exact z
    . rw[z]at hk;cases hk
   obtain⟨c,hc⟩:=I.ok.has x<|.inl hk;obtain⟨w',z⟩:=I.cell x c hc;refine wpAny_storeName_cell I.ok.kind hk hc z λh' hc' hs=>?_;obtain⟨oc,hoc,hocd⟩:=id z;refine h {s with heap:=h'} ⟨I.ok,I.os,I.bare,⟨λb o e n hb hx=>?_,λb o e n hb hx=>?_,I.base.free,λb o e hx=>?_,I.base.tups,I.base.frzs,I.base.tbls⟩,⟨m,hn.sameBut hs<|Ne.symm<|cne x c hc,λj y v' e1 e2 e3=>?_⟩,λy c' e=>?_,I.free,I.freeC,λp hp=>?_,tracked ⟨oc,hoc,I.freeC x c hc⟩ hs,by simpa using I.len⟩ ⟨c,hs,.inr hc⟩
   . exact(hs.2 b<|zzQ<|zzK (zxI e)<|I.ok.cab x c hfn hc).trans<|I.base.keep b o e n hb hx
   . obtain⟨sl,e1⟩:=I.base.slot b o e n hb hx;exact⟨sl,(hs.2 b<|zzQ<|zzK (zxI e)<|I.ok.cab x c hfn hc).trans e1⟩
   . obtain⟨o',e1⟩:=I.base.there b o e hx;exact⟨o',(hs.2 b<|zzQ<|zzK (zxI e)<|I.ok.cab x c hfn hc).trans e1⟩
   . by_cases hj:j=i
     . subst hj;rw[hi]at e1;cases e1;rw[zyK hiσ]at e2;cases e2;exact⟨u,r,.inr ⟨.inl hk,c,hc,hc'⟩⟩
     . rw[zzY<|Ne.symm hj]at e2;obtain⟨u',r',q⟩:=hl j y v' e1 e2 e3;refine⟨u',r', ?_⟩
       rcases q with q|⟨k,c',e,z'⟩
       . exact .inl q
       . refine .inr ⟨k,c',e,z'.sameBut hs ?_⟩
         rintro rfl
         exact hj<|BM hN e1<|I.ok.inj _ _ _ e hc ▸ hi
   . by_cases hcc:c'=c
     . subst hcc;exact⟨_,hc'⟩
     . obtain⟨w2,z2⟩:=I.cell y c' e;exact⟨w2,z2.sameBut hs hcc⟩
   . obtain⟨e,n,ne,nf,d⟩:=I.pin p hp;refine⟨(hs.2 p.1 ?_).trans e,n,ne,nf,d⟩;intro q;rw[q,hoc]at e;have q':oc=p.2:=zzZ e;exact d w' (by rw[<-q'];exact hocd)
def Bu(I:Inv X pins σ H s)(hN:X.N.Nodup)(hi:X.N[i]? = some x)(hx:Loc X.env.scope x)(r:RelV v u)
 (h:∀s',Inv X pins (σ.set i<|some v) H s'->Q () s') (hf:X.fn x=true\/X.env.scope.names.lookup x=some .local:=by first|exact .inl rfl|exact .inr rfl|assumption):wpAny M A (storeName X.env x u) Q E s:=
 N5 I hN hi hx r (λs' I' _=>h s' I') hf
def Inv.call'(I:Inv X pins σ H s)(ho:s'.os=s.os)(u:Un (C_ X.stack) ch H H' s.heap s'.heap)(hok:TM X.prog X.w H' s'.heap)(hg:AllBare s'.gens)
 (hch:∀b ∈ ch,(b ∈ X.ex\/X.s₀.heap.objs.size<=b)/\b≠X.env.locals/\(∀x c,X.env.cells.lookup x=some c->c≠b)/\∀p ∈ X.pn++pins,p.1≠b):Inv X pins σ H' s':=by
 obtain⟨h',g',d',t',o'⟩:=s';have e:=ho;subst e;exact I.call (g':=g') (t':=t') (d':=d') u hok hg hch
end
abbrev XK:=Value->Option Addr->Hp->Prop
abbrev St:=List<|Option V
abbrev VK:=V->Hp->Prop
abbrev TE:=St->Hp->VK->Prop
abbrev TT:=St->Hp->(Bool->Hp->Prop)->Prop
abbrev TA:=St->Hp->(List V->Hp->Prop)->Prop
structure Ends where
 nx:St->Hp->Prop
 rt:VK
 bk:St->Hp->Prop:=λ_ _=>False
 ct:St->Hp->Prop:=λ_ _=>False
abbrev TS:=Ends->St->Hp->Prop
def EP(X:Cx)(pins:List (Addr×Obj))(σ:St)(Q:VK)(u:Value)(s':Shared):Prop:=∃v H',Inv X pins σ H' s'/\RelV v u/\Q v H'
def TP(X:Cx)(pins:List (Addr×Obj))(σ:St)(Q:Bool->Hp->Prop)(b:Bool)(s':Shared):Prop:=∃H',Inv X pins σ H' s'/\Q b H'
def AP(X:Cx)(pins:List (Addr×Obj))(σ:St)(Q:List V->Hp->Prop)(us:List Value)(s':Shared):Prop:=∃vs H',Inv X pins σ H' s'/\zP vs us/\Q vs H'
def SP(X:Cx)(pins:List (Addr×Obj))(D:Ends)(f:Flow)(s':Shared):Prop:=
 match f with
 | .next=>∃σ' H',Inv X pins σ' H' s'/\D.nx σ' H'
 | .brk=>∃σ' H',Inv X pins σ' H' s'/\D.bk σ' H'
 | .cont=>∃σ' H',Inv X pins σ' H' s'/\D.ct σ' H'
 | .ret u=>∃v σ' H',Inv X pins σ' H' s'/\RelV v u/\D.rt v H'
def PE(X:Cx)(e:Expr)(t:TE):Prop:=
 ∀(pins:List (Addr×Obj)) (s:Shared) (σ:St) (H:Hp) (Q:VK),Inv X pins σ H s->t σ H Q->wpAny (model X.prog X.w) X.A (eval e X.env) (EP X pins σ Q) X.xe s
def PT(X:Cx)(e:Expr)(t:TT):Prop:=
 ∀(pins:List (Addr×Obj)) (s:Shared) (σ:St) (H:Hp) (Q:Bool->Hp->Prop),Inv X pins σ H s->t σ H Q->wpAny (model X.prog X.w) X.A (isTrue e X.env<|eval e X.env) (TP X pins σ Q) X.xe s
def PW(X:Cx)(e:Expr)(t:TT):Prop:=
 ∀(whole:Sem Value) (pins:List (Addr×Obj)) (s:Shared) (σ:St) (H:Hp) (Q:Bool->Hp->Prop),Inv X pins σ H s->t σ H Q->wpAny (model X.prog X.w) X.A (isTrue e X.env whole) (TP X pins σ Q) X.xe s
def PW.pt(h:PW X e t):PT X e t:=h _
def PA(X:Cx)(es:List Expr)(t:TA):Prop:=
 ∀(pos:Pos) (pins:List (Addr×Obj)) (s:Shared) (σ:St) (H:Hp) (Q:List V->Hp->Prop),Inv X pins σ H s->t σ H Q->wpAny (model X.prog X.w) X.A (spliced<|backTo pos<|starEach es X.env) (AP X pins σ Q) X.xe s
def PS(X:Cx)(st:Stmt)(t:TS):Prop:=
 ∀(pins:List (Addr×Obj)) (s:Shared) (σ:St) (H:Hp) (D:Ends),Inv X pins σ H s->t D σ H->wpAny (model X.prog X.w) X.A (exec st X.env) (SP X pins D) X.xe s
def M_(X:Cx)(st:List Stmt)(t:TS):Prop:=
 ∀(pins:List (Addr×Obj)) (s:Shared) (σ:St) (H:Hp) (D:Ends),Inv X pins σ H s->t D σ H->wpAny (model X.prog X.w) X.A (execs st X.env) (SP X pins D) X.xe s
def wC(h:wpAny M A t Q E s)(hQ:∀a s,Q a s->Q' a s):wpAny M A t Q' E s:=zxM h hQ λ_ _ x=>x
end L2
namespace L2
open PySem PySem.Spec PyProof.Rows
section
variable{X:Cx}
def UC(i:Nat):TE:=λσ H Q=>∃v,σ[i]? = some (some v)/\Q v H
def tC(v:V):TE:=λ_ H Q=>Q v H
def A9(hN:X.N[i]? = some x)(hv:jO X.env.scope x)(hd:(x==("__debug__":Str))=false:=by decide)(hcd:(x==("__classdict__":Str))=false:=by decide):PE X (.Name x pos) (UC i):=by
 intro pins s σ H Q I h;obtain⟨v,e,h⟩:=h;obtain⟨m,hn,hl⟩:=I.loc;obtain⟨u,r,l⟩:=hl i x v hN e hv;have fin:EP X pins σ Q u s:=⟨v,H,I,r,h⟩
 rcases l with⟨hk,hm⟩|⟨hk,c,hc,hcell⟩
 . exact wpAny_Name (wpAny_loadName_local I.ok.kind hk hn hm fin) hd
 . rcases hk with hk|hk
   . exact wpAny_Name (wpAny_loadName_cell I.ok.kind hk hc hcell fin) hd
   . exact wpAny_Name (wpAny_loadName_free I.ok.kind hk hc hcell fin hcd) hd
def qr:PE X (.Constant (.int i) j pos) (tC<|.int i):=λ_ _ _ H _ I h=>wpAny_Constant_int ⟨.int i,H,I.tok _,⟨_,rfl⟩,h⟩
def jj:PE X (.Constant (.bool b) j pos) (tC<|.bl b):=λ_ _ _ H _ I h=>Constant_bool ⟨.bl b,H,I,rfl,h⟩
def oj:PE X (.Constant .none j pos) (tC .non):=λ_ _ _ H _ I h=>Constant_none ⟨.non,H,I,rfl,h⟩
def p7:PE X (.Constant (.str x) j pos) (tC<|.str x):=λ_ _ _ H _ I h=>Calls.Constant_str ⟨.str x,H,I.tok _,⟨_,rfl⟩,h⟩
def Gl(X:Cx)(x:Str):Prop:=X.env.kindOf x=some .globalImplicit
def MP(I:Inv X pins σ H s)(hg:Gl X x)(hm:X.mg x=some u)(h:Q u s)
 (hd:(x==("__debug__":Str))=false:=by decide):wpAny (model X.prog X.w) X.A (eval (.Name x pos) X.env) Q E s:=
 Calls.Name_function_global I.ok.kind hg (Calls.loadGlobal_global (by rw[I.ok.glob];exact I.mod.glob.keeps I.bk) hm h) hd
def Uu(I:Inv X pins σ H s)(hg:Gl X x)(hm:X.mg x=none)(hv:bootBuiltins x=some u)(h:Q u s)
 (hn:x≠"__name__":=by decide) (hd:(x==("__debug__":Str))=false:=by decide):wpAny (model X.prog X.w) X.A (eval (.Name x pos) X.env) Q E s:=by
 obtain⟨mb,h1,h2⟩:=I.mod.blt;exact Calls.Name_function_global I.ok.kind hg (Calls.loadGlobal_builtin (by rw[I.ok.glob];exact I.mod.glob.keeps I.bk) hm (by rw[I.ok.blt];exact h1.keeps I.bk) ((h2 x hn).trans hv) h) hd
def uX(hg:Gl X x)(hm:X.mg x=some u)(r:RelV v u)(hd:(x==("__debug__":Str))=false:=by decide):PE X (.Name x pos) (tC v):=
 λ_ _ _ H _ I h=>MP I hg hm ⟨v,H,I,r,h⟩ hd
def um(hg:Gl X x)(hm:X.mg x=none)(hv:bootBuiltins x=some u)(r:RelV v u)(hn:x≠"__name__":=by decide)(hd:(x==("__debug__":Str))=false:=by decide):PE X (.Name x pos) (tC v):=
 λ_ _ _ H _ I h=>Uu I hg hm hv ⟨v,H,I,r,h⟩ hn hd
variable{a b:Expr}{ta tb:TE}{pos:Pos}
variable{tA tB':TT}{rest:List Expr}
def iq(t u:TT):TT:=λσ H Q=>t σ H λc H1=>if c=true then u σ H1 Q else Q false H1
def df(t u:TT):TT:=λσ H Q=>t σ H λc H1=>if c=true then Q true H1 else u σ H1 Q
def iD(t:TT):TT:=λσ H Q=>t σ H λc H1=>Q (!c) H1
def uY(ha:PT X a tA):PW X (.BoolOp .And [a] pos) tA:=by
 intro wh pins s σ H Q I h;refine isTrue_and<|wC (ha pins s σ H Q I h) λc s1 e=>?_;cases c with
 |true=>exact isTrue_and_nil e
 |false=>exact e
def qe(ha:PT X a tA):PW X (.BoolOp .Or [a] pos) tA:=by
 intro wh pins s σ H Q I h;refine isTrue_or<|wC (ha pins s σ H Q I h) λc s1 e=>?_;cases c with
 |false=>exact isTrue_or_nil e
 |true=>exact e
def qK(ha:PT X a tA)(hb:PW X (.BoolOp .And (b::rest) pos) tB'):PW X (.BoolOp .And (a::b::rest) pos) (iq tA tB'):=by
 intro wh pins s σ H Q I h;refine isTrue_and<|wC (ha pins s σ H _ I h) λc s1 ⟨H1,I1,q1⟩=>?_;cases c with
 |true=>exact hb wh pins s1 σ H1 Q I1 q1
 |false=>exact⟨H1,I1,q1⟩
def lY(ha:PT X a tA)(hb:PW X (.BoolOp .Or (b::rest) pos) tB'):PW X (.BoolOp .Or (a::b::rest) pos) (df tA tB'):=by
 intro wh pins s σ H Q I h;refine isTrue_or<|wC (ha pins s σ H _ I h) λc s1 ⟨H1,I1,q1⟩=>?_;cases c with
 |true=>exact⟨H1,I1,q1⟩
 |false=>exact hb wh pins s1 σ H1 Q I1 q1
def oY(ha:PT X a tA):PT X (.UnaryOp .Not a pos) (iD tA):=by
 intro pins s σ H Q I h;exact isTrue_not<|ha pins s σ H (λc H1=>Q (!c) H1) I h
def lR(ta tb:TE):TE:=λσ H Q=>ta σ H λx H1=>∃c,x = .bl c/\if c=true then tb σ H1 Q else Q (.bl false) H1
def lM(ta:TE):TE:=λσ H Q=>ta σ H λx H1=>∃c,x = .bl c/\Q (.bl<|!c) H1
def ou(h:PE X a t):PE X (.BoolOp op [a] pos) t:=λpins s σ H Q I hw=>BoolOp_one<|h pins s σ H Q I hw
def o8(ha:PE X a ta)(hb:PE X (.BoolOp .And (b::rest) pos) tb):PE X (.BoolOp .And (a::b::rest) pos) (lR ta tb):=by
 intro pins s σ H Q I h;refine BoolOp_and<|wC (ha pins s σ H _ I h) λv s1 ⟨x,H1,I1,r1,q1⟩=>?_;obtain⟨c,rfl,q1⟩:=q1;cases r1;refine wpAny_truthy_bool ?_;cases c with
 |true=>exact hb pins s1 σ H1 Q I1 q1
 |false=>exact⟨.bl false,H1,I1,rfl,q1⟩
def qD(ha:PE X a ta):PE X (.UnaryOp .Not a pos) (lM ta):=by
 intro pins s σ H Q I h;refine UnaryOp_<|wC (ha pins s σ H _ I h) λv s1 ⟨x,H1,I1,r1,q1⟩=>?_;obtain⟨c,rfl,q1⟩:=q1;cases r1;exact not_of<|wpAny_truthy_bool ⟨.bl<|!c,H1,I1,rfl,q1⟩
def dM(t:TT)(ta tb:TE):TE:=λσ H Q=>t σ H λc H1=>if c=true then ta σ H1 Q else tb σ H1 Q
def JB(hc:PT X c tA)(ha:PE X a ta)(hb:PE X b tb):PE X (.IfExp c a b pos) (dM tA ta tb):=by
 intro pins s σ H Q I h;refine wpAny_IfExp<|wC (hc pins s σ H _ I h) λd s1 ⟨H1,I1,q1⟩=>?_;cases d with
 |true=>exact ha pins s1 σ H1 Q I1 q1
 |false=>exact hb pins s1 σ H1 Q I1 q1
end
end L2
namespace L2
open PySem PySem.Spec PyProof.Rows
def Vp(K:zzA)(H:Hp)(a:Addr)(xs:List V):Prop:=
 Rd H a (.lst xs) \/
  ∃(o:Obj) (its:Array Value) (n:Nat),K.lookup a=some o/\o.cls = .type "list"/\o.dict=none/\o.data = .seq its n/\its.size<=sizeLine/\zP xs its.toList
def AQ(K:zzA)(H:Hp)(a:Addr)(xs:List V):Prop:=
 Rd H a (.lst xs)\/∃(its:Array Value) (n:Nat),K.lookup a=some {cls:=.type "list",data:=.seq its n}/\its.size<=sizeLine/\zP xs its.toList
def UE(K:zzA)(H:Hp)(a:Addr)(xs:List V):Prop:=
 Rd H a (.tup xs) \/
  ∃(o:Obj) (its:Array Value) (n:Nat),K.lookup a=some o/\o.cls = .type "tuple"/\o.data = .seq its n/\its.size<=sizeLine/\zP xs its.toList
noncomputable def iX:Value->Option V
 | .none=>some .non
 | .bool b=>some<|.bl b
 | .int i _=>some<|.int i
 | .str x _=>some<|.str x
 | .bytes b _=>some<|.byt b
 | .float b _=>some<|.flt b
 | .ref a=>some<|.ref a
 | .type n=>some (.ty n)
 |_=>none
def RelV.abs(r:RelV x u):iX u=some x:=by
 cases x with
 |non=>cases r;rfl
 |bl _=>cases r;rfl
 |int _=>obtain⟨t,rfl⟩:=r;rfl
 |str _=>obtain⟨t,rfl⟩:=r;rfl
 |byt _=>obtain⟨t,rfl⟩:=r;rfl
 |flt _=>obtain⟨t,rfl⟩:=r;rfl
 |ref _=>cases r;rfl
 |ty _=>cases r;rfl
def RelV.inj(r:RelV x u)(q:RelV y u):x=y:=zzZ<|r.abs.symm.trans q.abs
theorem zP.inj:∀{xs ys:List V}{us:List Value},zP xs us->zP ys us->xs=ys
 |_,_,_,.nil,.nil=>rfl
 |_,_,_,.cons r t,.cons r' t'=>by rw[r.inj r',zP.inj t t']
section
variable{X:Cx}{pins:List (Addr×Obj)}{σ:St}{H:Hp}{s:Shared}{a:Addr}{xs ys:List V}
def Inv.list(I:Inv X pins σ H s)(h:Vp X.K H a xs):∃its:List Value,zP xs its/\PlainL s.heap a its.toArray/\xs.length<=sizeLine:=by
 rcases h with h|⟨o,its,n,hk,hc,hd,hs,hz,r⟩
 . obtain⟨z,its,n,r,e⟩:=h.ok I.hok;exact⟨its,r,⟨_,n,e,rfl,rfl,rfl⟩,z⟩
 . refine⟨its.toList,r,⟨o,n,I.kIn a o hk,hc,hd,by simpa using hs⟩, ?_⟩;have e:=r.length;simp only[zyT]at e;exact q1T e hz
def Inv.tuple(I:Inv X pins σ H s)(h:UE X.K H a xs):∃its:List Value,zP xs its/\IsTup s.heap a its.toArray/\xs.length<=sizeLine:=by
 rcases h with h|⟨o,its,n,hk,hc,hs,hz,r⟩
 . obtain⟨z,its,r,p⟩:=h.ok I.hok;exact⟨its,r,p,z⟩
 . refine⟨its.toList,r,⟨o,I.kIn a o hk,hc,n,by simpa using hs⟩, ?_⟩;have e:=r.length;simp only[zyT]at e;exact q1T e hz
def Inv.list_inj(I:Inv X pins σ H s)(h:Vp X.K H a xs)(h':Vp X.K H a ys):xs=ys:=by
 obtain⟨its,r,⟨o,n,e,_,_,d⟩,_⟩:=I.list h;obtain⟨its',r',⟨o',n',e',_,_,d'⟩,_⟩:=I.list h';rw[e]at e';cases e';rw[d]at d';injection d' with d1 _
 have:its=its':=by simpa using congrArg Array.toList d1
 subst this;exact r.inj r'
def Inv.tuple_inj(I:Inv X pins σ H s)(h:UE X.K H a xs)(h':UE X.K H a ys):xs=ys:=by
 obtain⟨its,r,⟨o,e,_,n,d⟩,_⟩:=I.tuple h;obtain⟨its',r',⟨o',e',_,n',d'⟩,_⟩:=I.tuple h';rw[e]at e';cases e';rw[d]at d';injection d' with d1 _
 have:its=its':=by simpa using congrArg Array.toList d1
 subst this;exact r.inj r'
end
noncomputable abbrev Cx.wish(X:Cx)(E:Value->Shared->Prop):Cx:={X with xe:=E}
noncomputable abbrev Cx.nox(X:Cx):Cx:=X.wish λ_ _=>False
theorem Cx.Ok.wish{X:Cx}(ok:X.Ok)(E):(X.wish E).Ok:=
 ⟨ok.mod,ok.kind,ok.glob,ok.blt,ok.above,ok.inj,ok.has,ok.cab,ok.hd,ok.frames,ok.stk,ok.exf,ok.bs,ok.bsz,ok.noex,ok.exfs,ok.funs,ok.frf⟩
def Cx.Ok.unwish{X:Cx}{E}(ok:(X.wish E).Ok):X.Ok:=
 ⟨ok.mod,ok.kind,ok.glob,ok.blt,ok.above,ok.inj,ok.has,ok.cab,ok.hd,ok.frames,ok.stk,ok.exf,ok.bs,ok.bsz,ok.noex,ok.exfs,ok.funs,ok.frf⟩
section
variable{X:Cx}{pins:List (Addr×Obj)}{σ:St}{H:Hp}{s:Shared}{E:Value->Shared->Prop}
theorem Inv.wish(I:Inv X pins σ H s)(E:Value->Shared->Prop):Inv (X.wish E) pins σ H s:=⟨I.ok.wish E,I.os,I.bare,I.base,I.loc,I.cell,I.free,I.freeC,I.pin,I.hok,I.len⟩
theorem Inv.unwish(I:Inv (X.wish E) pins σ H s):Inv X pins σ H s:=⟨I.ok.unwish,I.os,I.bare,I.base,I.loc,I.cell,I.free,I.freeC,I.pin,I.hok,I.len⟩
theorem SP.unwish(h:SP (X.wish E) pins D f s'):SP X pins D f s':=by
 cases f with
 |next=>obtain⟨σ',H',I,q⟩:=h;exact⟨σ',H',I.unwish,q⟩
 |brk=>obtain⟨σ',H',I,q⟩:=h;exact⟨σ',H',I.unwish,q⟩
 |cont=>obtain⟨σ',H',I,q⟩:=h;exact⟨σ',H',I.unwish,q⟩
 |ret u=>obtain⟨v,σ',H',I,r,q⟩:=h;exact⟨v,σ',H',I.unwish,r,q⟩
theorem M_.nox{st t}(h:M_ X.nox st t):M_ X st t:=λpins s σ H D I hw=>
 zxM (h pins s σ H D (I.wish _) hw) (λ_ _ q=>q.unwish) λ_ _ z=>False.elim z
end
section
variable{X:Cx}{st:Stmt}{rest:List Stmt}{t u:TS}{e:Expr}{te:TE}{pos:Pos}
def kZ:TS:=λD σ H=>D.nx σ H
def i0(t u:TS):TS:=λD σ H=>t {D with nx:=u D} σ H
def Ek:M_ X [] kZ:=λ_ _ σ H _ I h=>wpAny_execs_nil ⟨σ,H,I,h⟩
def XC(h1:PS X st t)(h2:M_ X rest u):M_ X (st::rest) (i0 t u):=by
 intro pins s σ H D I h;refine wpAny_execs_cons<|wC (h1 pins s σ H {D with nx:=u D} I h) λf s1 q=>?_;cases f with
 |next=>
  obtain⟨σ',H',I',q⟩:=q;exact h2 pins s1 σ' H' D I' q
 |ret v=>exact q
 |brk=>exact q
 |cont=>exact q
def UX(h1:PS X st t):M_ X [st] t:=by
 intro pins s σ H D I h;refine wpAny_execs_cons<|wC (h1 pins s σ H D I h) λf s1 q=>?_;cases f with
 |next=>exact wpAny_execs_nil q
 |ret v=>exact q
 |brk=>exact q
 |cont=>exact q
def Inv.quiet(I:Inv X pins σ H s):interactive X.env=false:=by simp[interactive,I.ok.kind]
def mf(te:TE):TS:=λD σ H=>te σ H λ_ H1=>D.nx σ H1
def U9(he:PE X e te)(hs:swapsWith e none pos.line X.env=pure false:=by rfl):PS X (.Expr e pos) (mf te):=by
 intro pins s σ H D I h;exact wpAny_Expr_any (wC (he pins s σ H _ I h) λv s1 ⟨x,H1,I1,r1,q1⟩=>⟨σ,H1,I1,q1⟩) I.quiet hs
def gG(te:TE):TS:=λD σ H=>te σ H D.rt
def AN(he:PE X e te):PS X (.Return (some e) pos) (gG te):=by
 intro pins s σ H D I h;exact wpAny_Return_some<|wC (he pins s σ H _ I h) λv s1 ⟨x,H1,I1,r1,q1⟩=>⟨x,σ,H1,I1,r1,q1⟩
def mB:TS:=λD _ H=>D.rt .non H
def uD:PS X (.Return none pos) mB:=λ_ _ σ H _ I h=>wpAny_Return_none ⟨.non,σ,H,I,rfl,h⟩
def gQ(c:TT)(t u:TS):TS:=λD σ H=>c σ H λb H1=>if b=true then t D σ H1 else u D σ H1
def An(hc:PT X c tc)(ha:M_ X a t)(hb:M_ X b u):PS X (.If c a b pos) (gQ tc t u):=by
 intro pins s σ H D I h;refine wpAny_If<|wC (hc pins s σ H _ I h) λd s1 ⟨H1,I1,q1⟩=>?_;cases d with
 |true=>exact ha pins s1 σ H1 D I1 q1
 |false=>exact hb pins s1 σ H1 D I1 q1
end
abbrev TG:=V->St->Hp->(St->Hp->Prop)->Prop
abbrev qX:=List V->St->Hp->(St->Hp->Prop)->Prop
def PG(X:Cx)(target:Expr)(t:TG):Prop:=
 ∀(pins:List (Addr×Obj)) (s:Shared) (σ:St) (H:Hp) (v:V) (u:Value) (Q:St->Hp->Prop),Inv X pins σ H s->RelV v u->t v σ H Q->
  wpAny (model X.prog X.w) X.A (assign target X.env u) (λ_ s'=>∃σ' H',Inv X pins σ' H' s'/\Q σ' H') X.xe s
def sx(X:Cx)(ts:List Expr)(t:qX):Prop:=
 ∀(pins:List (Addr×Obj)) (s:Shared) (σ:St) (H:Hp) (vs:List V) (us:List Value) (Q:St->Hp->Prop),Inv X pins σ H s->zP vs us->t vs σ H Q->
  wpAny (model X.prog X.w) X.A (assignInOrder ((assignEach ts X.env).map (·.2)) us) (λ_ s'=>∃σ' H',Inv X pins σ' H' s'/\Q σ' H') X.xe s
section
variable{X:Cx}{pos:Pos}
def Of(i:Nat):TG:=λv σ H Q=>Q (σ.set i<|some v) H
def u5(hN:X.N.Nodup)(hi:X.N[i]? = some x)(hx:Loc X.env.scope x)(hf:X.fn x=true\/X.env.scope.names.lookup x=some .local:=by first|exact .inl rfl|exact .inr rfl|assumption):PG X (.Name x pos) (Of i):=by
 intro pins s σ H v u Q I r h;exact wpAny_assign_Name<|Bu I hN hi hx r (λs' I'=>⟨_,H,I',h⟩) hf
def iF:qX:=λvs σ H Q=>vs=[]/\Q σ H
def nZ(t:TG)(u:qX):qX:=λvs σ H Q=>∃v r,vs=v::r/\t v σ H λσ' H'=>u r σ' H' Q
def D3:sx X [] iF:=by
 intro pins s σ H vs us Q I r h;obtain⟨e,h⟩:=h;subst e;cases r;exact assignInOrder_nil ⟨σ,H,I,h⟩
def J5(h1:PG X e t)(h2:sx X es u)
 (hs:(assignEach (e::es) X.env).map (·.2)=assign e X.env::(assignEach es X.env).map (·.2):=by rfl):sx X (e::es) (nZ t u):=by
 intro pins s σ H vs us Q I r h;obtain⟨v,vr,e1,h⟩:=h;subst e1;cases r with
 |cons r rr=>
  rw[hs];refine assignInOrder_cons<|wC (h1 pins s σ H _ _ _ I r h) λ_ s1 ⟨σ1,H1,I1,q1⟩=>?_;exact h2 pins s1 σ1 H1 _ _ Q I1 rr q1
def gY(K:zzA)(n:Nat)(t:qX):TG:=λv σ H Q=>∃a xs,v = .ref a/\UE K H a xs/\xs.length=n/\t xs σ H Q
def qY(hc:X.calm=true)(h:sx X es t)
 (hn:(assignEach es X.env).length=n:=by rfl) (hst:(assignEach es X.env).findIdx? (·.1)=none:=by rfl):PG X (.Tuple es k pos) (gY X.K n t):=by
 intro pins s σ H v u Q I r hw;obtain⟨a,xs,e1,hq,hl,hw⟩:=hw;subst e1;cases r;obtain⟨its,rv,ht,hz⟩:=I.tuple hq;refine assign_Tuple_tuple (I.ok.hd hc) ht (by simp[hn,<-hl,rv.length]) hst λh' hx=>?_;have I1:=I.kept (t':=s.toks) λb o e=>hx b o (zzQ<|zxI e) e;exact h pins _ σ H xs _ Q I1 (by simpa using rv) hw
def px(te:TE)(g:TG):TS:=λD σ H=>te σ H λx H1=>g x σ H1 D.nx
def pq(he:PE X e te)(hg:PG X tg g)(hs:swapsWithSole [tg] e pos.line X.env=pure false:=by rfl)(hw:swappedStores [tg] e X.env=pure none:=by rfl)
 (h1:(assignEach [tg] X.env).map (·.2)=[assign tg X.env]:=by rfl):PS X (.Assign [tg] e pos) (px te g):=by
 intro pins s σ H D I h;refine wpAny_Assign_stores (wC (he pins s σ H _ I h) λv s1 ⟨x,H1,I1,r1,q1⟩=>?_) hs hw;rw[h1];exact wC (hg pins s1 σ H1 x v _ I1 r1 q1) λ_ s2 q=>q
def Iu(hN:X.N.Nodup)(hi:X.N[i]? = some x)(hx:Loc X.env.scope x)(he:PE X e te)(hs:swapsWith e (some<|.Name x pos') pos.line X.env=pure false:=by rfl)(hf:X.fn x=true\/X.env.scope.names.lookup x=some .local:=by first|exact .inl rfl|exact .inr rfl|assumption):
 PS X (.Assign [.Name x pos'] e pos) (px te<|Of i):=by
 intro pins s σ H D I h;refine wpAny_Assign_Name (wC (he pins s σ H _ I h) λv s1 ⟨y,H1,I1,r1,q1⟩=>?_) hs;exact Bu I1 hN hi hx r1 (λs2 I2=>⟨_,H1,I2,q1⟩) hf
end
structure It where
 go:Nat->Hp->Prop
 yld:Nat->Hp->V->Hp->Prop
 stop:Nat->Hp->Prop
def Gx(X:Cx)(pins:List (Addr×Obj))(H:Hp)(b:Addr):Prop:=
 H b=none/\b≠X.env.locals/\b ∉ X.fs/\(b ∈ X.ex\/X.s₀.heap.objs.size<=b)/\(∀x c,X.env.cells.lookup x=some c->c≠b)/\∀p ∈ X.pn++pins,p.1≠b
def Inv.fpOk(I:Inv X pins σ H s)(hb:s.heap.objs.size<=b)(hn:H' b=none):Gx X pins H' b:=by
 refine⟨hn,Nat.ne_of_gt<|zzK I.lt hb,I.nofs hb,.inr<|zzO I.sz hb,λx c e z=>?_,λp hp z=>?_⟩
 . obtain⟨v,q⟩:=I.cell x c e;exact absurd (zzK q.lt<|by rw[z];exact hb)<|Nat.lt_irrefl _
 . exact absurd (zzK (zxI (I.pin p hp).1)<|by rw[z];exact hb)<|Nat.lt_irrefl _
structure Turn(P:Program)(w:World)(K:zzA)(tg:Expr)(J:It)(fp:List Addr)(it:Addr)(tn:Nat->Heap->Prop):Prop where
 mem:it ∈ fp
 obj:∀i h,tn i h->∀b ∈ fp,∃o,h.get? b=some o/\∀v,o.data ≠ .cell v
 keep:∀i h h',tn i h->(∀b ∈ fp,∀o,h.get? b=some o->h'.get? b=some o)->tn i h'
 item:∀(X:Cx),X.prog=P->X.w=w->X.K=K->X.calm=true->∀(i:Nat) (pins:List (Addr×Obj)) (s:Shared) (σ:St) (H:Hp) (E:Value->Shared->Prop),Inv X pins σ H s->(∀b ∈ fp,Gx X pins H b)->tn i s.heap->J.go i H->
  wpAny (model P w) X.A (pyNext<|.ref it) (λr s1=>∃u,r=some u/\
   wpAny (model P w) X.A (letOwnedTupleGo tg (.ref it) u) (λ_ s2=>∃x H',Inv X pins σ H' s2/\RelV x u/\J.yld i H x H'/\tn (i+1) s2.heap/\∀b ∈ fp,H' b=none) E s1) E s
 done:∀(X:Cx),X.prog=P->X.w=w->X.K=K->X.calm=true->∀(i:Nat) (pins:List (Addr×Obj)) (s:Shared) (σ:St) (H:Hp) (E:Value->Shared->Prop),Inv X pins σ H s->(∀b ∈ fp,Gx X pins H b)->tn i s.heap->J.stop i H->
  wpAny (model P w) X.A (pyNext<|.ref it) (λr s1=>r=none/\Inv X pins σ H s1) E s
 self:∀(A:Around) (i:Nat) (s:Shared) (Q:Value->Shared->Prop) (E:Value->Shared->Prop),tn i s.heap->Q (.ref it) s->wpAny (model P w) A (pyIter<|.ref it) Q E s
abbrev TI:=St->Hp->(It->Hp->Prop)->Prop
def fX(X:Cx)(pins:List (Addr×Obj))(σ:St)(tg:Expr)(R:It->Hp->Prop)(itv:Value)(s2:Shared):Prop:=
 ∃(it:Addr) (fp:List Addr) (tn:Nat->Heap->Prop) (J:It) (H':Hp),itv = .ref it/\Inv X pins σ H' s2/\Turn X.prog X.w X.K tg J fp it tn/\tn 0 s2.heap/\(∀b ∈ fp,Gx X pins H' b)/\R J H'
def PI(X:Cx)(tg iter:Expr)(wi:TI):Prop:=
 ∀(pins:List (Addr×Obj)) (s:Shared) (σ:St) (H:Hp) (R:It->Hp->Prop),Inv X pins σ H s->wi σ H R->
  wpAny (model X.prog X.w) X.A (eval iter X.env) (λv s1=>wpAny (model X.prog X.w) X.A (pyIter v) (fX X pins σ tg R) X.xe s1) X.xe s
def Ae(ho:s.heap.get? it=some o)(hc:o.cls = .type n)(hd:o.data = .fields vs)
 (hn : ["enumerate","zip","dict_itemiterator","dict_reverseitemiterator","odict_iterator","itertools.zip_longest","itertools.pairwise"].contains n=false) (hQ:Q () s):wpAny M A (letOwnedTupleGo tg (.ref it) u) Q E s:=by
 unfold letOwnedTupleGo;cases tg<;>first
  |exact zxG hQ
  |(cases u<;>first
   |exact zxG hQ
   | (refine zxF (wpAny_load ho ?_)
      rw[hc,hd];show wpAny M A (if _=true then _ else _) Q E s;rw[if_neg (by intro h;rw[hn,Bool.false_and]at h;cases h)];exact zxG hQ))
def jZ(K:zzA)(a:Addr):It:=
 ⟨λi H=>∃xs x,Vp K H a xs/\xs[i]? = some x,λi H x H'=>H'=H/\∀xs,Vp K H a xs->xs[i]? = some x,λi H=>∃xs,Vp K H a xs/\xs.length<=i⟩
def j_(K:zzA)(a:Addr):It:=
 ⟨λi H=>∃xs x,UE K H a xs/\xs[i]? = some x,λi H x H'=>H'=H/\∀xs,UE K H a xs->xs[i]? = some x,λi H=>∃xs,UE K H a xs/\xs.length<=i⟩
def nu(lo:Int)(n:Nat):It:=⟨λi _=>i<n,λi H x H'=>H'=H/\x = .int (lo+i),λi _=>n<=i⟩
def Ce{P w K tg}(a it):Turn P w K tg (jZ K a) [it] it (λi h=>h.IsListIter it a i)where
 mem:=by simp
 obj:=λi h st b hb=>by
  have e:b=it:=by simpa using hb
  subst e;obtain⟨o,e,c,d⟩:=st;exact⟨o,e,λv z=>by rw[d]at z;cases z⟩
 keep:=λi h h' st k=>st.at λo e=>k it (by simp) o e
 item:=by
  intro X hP hw hK hc i pins s σ H E I hf st hg;subst hP hw hK;obtain⟨xs,x,hq,hx⟩:=hg;obtain⟨its,rv,p,hz⟩:=I.list hq;obtain⟨u,hu,ru⟩:=rv.get hx;obtain⟨f0,f1,f2,f3,f4,f5⟩:=hf it (by simp);refine wpAny_pyNext_list_item st p.isList (by simpa using hu) λh' st' sb=>?_;have I1:=I.turned (t':=s.toks) (λb o hb e=>(sb.2 b hb).trans e) f0 f1 f3 f4 f5;obtain⟨o,e,c,d⟩:=id st';exact⟨u,rfl,Ae e c d (by decide) ⟨x,H,I1,ru,⟨rfl,λys hy=>by rw[I.list_inj hy hq];exact hx⟩,st',λb hb=>(hf b hb).1⟩⟩
 done:=by
  intro X hP hw hK hc i pins s σ H E I hf st hg;subst hP hw hK;obtain⟨xs,hq,hx⟩:=hg;obtain⟨its,rv,p,hz⟩:=I.list hq;obtain⟨f0,f1,f2,f3,f4,f5⟩:=hf it (by simp);have hl:=rv.length;exact wpAny_pyNext_list_end (I.ok.hd hc) st p.isList (by simp;exact q0n hl hx) λh' eb=>⟨rfl,I.turned (t':=s.toks) (λb o hb e=>eb b o hb e) f0 f1 f3 f4 f5⟩
 self:=λ_ _ _ _ _ st h=>wpAny_pyIter_listiter st h
def Hf{P w K tg}(a it):Turn P w K tg (j_ K a) [it] it (λi h=>h.IsTupleIter it a i)where
 mem:=by simp
 obj:=λi h st b hb=>by
  have e:b=it:=by simpa using hb
  subst e;obtain⟨o,e,c,d⟩:=st;exact⟨o,e,λv z=>by rw[d]at z;cases z⟩
 keep:=λi h h' st k=>st.at λo e=>k it (by simp) o e
 item:=by
  intro X hP hw hK hc i pins s σ H E I hf st hg;subst hP hw hK;obtain⟨xs,x,hq,hx⟩:=hg;obtain⟨its,rv,p,hz⟩:=I.tuple hq;obtain⟨u,hu,ru⟩:=rv.get hx;obtain⟨f0,f1,f2,f3,f4,f5⟩:=hf it (by simp);refine wpAny_pyNext_tuple_item st (p) (x:=u) (by simpa using hu) λh' st' sb=>?_;have I1:=I.turned (t':=s.toks) (λb o hb e=>(sb.2 b hb).trans e) f0 f1 f3 f4 f5;obtain⟨o,e,c,d⟩:=id st';exact⟨u,rfl,Ae e c d (by decide) ⟨x,H,I1,ru,⟨rfl,λys hy=>by rw[I.tuple_inj hy hq];exact hx⟩,st',λb hb=>(hf b hb).1⟩⟩
 done:=by
  intro X hP hw hK hc i pins s σ H E I hf st hg;subst hP hw hK;obtain⟨xs,hq,hx⟩:=hg;obtain⟨its,rv,p,hz⟩:=I.tuple hq;obtain⟨f0,f1,f2,f3,f4,f5⟩:=hf it (by simp);have hl:=rv.length;exact wpAny_pyNext_tuple_end (I.ok.hd hc) st (p) (by simp;exact q0n hl hx) λh' eb=>⟨rfl,I.turned (t':=s.toks) (λb o hb e=>eb b o hb e) f0 f1 f3 f4 f5⟩
 self:=λ_ _ _ _ _ st h=>wpAny_pyIter_tupleiter st h
def Su{P w K tg}(it)(lo)(n:Nat):Turn P w K tg (nu lo n) [it] it (λi h=>IsRangeIter h it (lo+(i:Nat)*1) ((n:Int)-(i:Nat)) 1)where
 mem:=by simp
 obj:=λi h st b hb=>by
  have e:b=it:=by simpa using hb
  subst e;exact⟨_,st,λv z=>by
   have z':Data.fields _=Data.cell v:=z;cases z'⟩
 keep:=λi h h' st k=>k it (by simp) _ st
 item:=by
  intro X hP hw hK hc i pins s σ H E I hf st hg;subst hP hw hK;obtain⟨f0,f1,f2,f3,f4,f5⟩:=hf it (by simp);have W:=Walks.range (prog:=X.prog) (w:=X.w) (I.ok.hd hc) it lo 1 n;refine W.item i s _ _ hg st λv h' tk hv st' kk=>?_;obtain⟨t,rfl⟩:=hv;have I1:Inv X pins σ H {s with heap:=h',toks:=tk}:=I.turned (λb o hb e=>kk b o (by simpa using hb) e) f0 f1 f3 f4 f5;refine⟨_,rfl,Ae st' rfl rfl (by decide) ⟨.int<|lo+i,H,I1,⟨t, ?_⟩,⟨rfl,rfl⟩,st',λb hb=>(hf b hb).1⟩⟩;rw[Int.mul_one]
 done:=by
  intro X hP hw hK hc i pins s σ H E I hf st hg;subst hP hw hK;obtain⟨f0,f1,f2,f3,f4,f5⟩:=hf it (by simp);exact wpAny_pyNext_range_end (I.ok.hd hc) st (by have:n<=i:=hg;omega) λh' eb=>⟨rfl,I.turned (t':=s.toks) (λb o hb e=>eb b o hb e) f0 f1 f3 f4 f5⟩
 self:=λ_ _ _ _ _ st h=>wpAny_pyIter_rangeiter st h
end L2
namespace L2
open PySem PySem.Spec PyProof.Rows
section
variable{X:Cx}{tg:Expr}
def jn(K:zzA)(tl:TE):TI:=λσ H R=>tl σ H λx H1=>∃a,x = .ref a/\(∃xs,Vp K H1 a xs)/\R (jZ K a) H1
def gO(K:zzA)(tl:TE):TI:=λσ H R=>tl σ H λx H1=>∃a,x = .ref a/\(∃xs,UE K H1 a xs)/\R (j_ K a) H1
def EG{l tl}(hl:PE X l tl):PI X tg l (jn X.K tl):=by
 intro pins s σ H R I h;refine wC (hl pins s σ H _ I h) λv s1 ⟨x,H1,I1,r1,q1⟩=>?_;obtain⟨a,e,⟨xs,hq⟩,q⟩:=q1;subst e;cases r1;obtain⟨its,rv,p,hz⟩:=I1.list hq;refine wpAny_pyIter_list p.isList ?_;refine⟨s1.heap.objs.size,[s1.heap.objs.size],_,_,H1,rfl,I1.kept (t':=s1.toks) λb o e=>zxH _ e,Ce a _,⟨_,zxJ _ rfl,rfl,rfl⟩,λb hb=>?_,q⟩;have e:b=s1.heap.objs.size:=by simpa using hb
 subst e;exact I1.fpOk (zzN _)<|I1.hok.fresh<|zzN _
def Sn{l tl}(hl:PE X l tl):PI X tg l (gO X.K tl):=by
 intro pins s σ H R I h;refine wC (hl pins s σ H _ I h) λv s1 ⟨x,H1,I1,r1,q1⟩=>?_;obtain⟨a,e,⟨xs,hq⟩,q⟩:=q1;subst e;cases r1;obtain⟨its,rv,p,hz⟩:=I1.tuple hq;refine wpAny_pyIter_tuple (p) ?_;refine⟨s1.heap.objs.size,[s1.heap.objs.size],_,_,H1,rfl,I1.kept (t':=s1.toks) λb o e=>zxH _ e,Hf a _,⟨_,zxJ _ rfl,rfl,rfl⟩,λb hb=>?_,q⟩;have e:b=s1.heap.objs.size:=by simpa using hb
 subst e;exact I1.fpOk (zzN _)<|I1.hok.fresh<|zzN _
def BD{pins σ H s R E lo hi t u v}{tk:Nat}(I:Inv X pins σ H s)(h1 : -(2 ^ 62)<=lo)(h2:lo<2 ^ 62)(h3 : -(2 ^ 62)<=hi)(h4:hi<2 ^ 62)
 (q:R (nu lo (hi-lo).toNat) H):wpAny (model X.prog X.w) X.A (pyIter<|.ref s.heap.objs.size) (fX X pins σ tg R) E {s with heap:=s.heap.push {cls:=.type "range",data:=.fields #[.int lo t,.int hi u,.int 1 v]},toks:=tk}:=by
 refine wpAny_pyIter_range (IsRange.new ..) (small_one h1 h2 h3 h4) ?_;have I1:Inv X pins σ H {s with heap:=s.heap.push {cls:=.type "range",data:=.fields #[.int lo t,.int hi u,.int 1 v]},toks:=tk}:=I.kept λb o e=>zxH _ e;refine⟨(s.heap.push {cls:=.type "range",data:=.fields #[.int lo t,.int hi u,.int 1 v]}).objs.size,[(s.heap.push {cls:=.type "range",data:=.fields #[.int lo t,.int hi u,.int 1 v]}).objs.size],_,_,H,rfl,
  I1.kept (t':=tk) λb o e=>zxH _ e,Su _ lo (hi-lo).toNat, ?_,λb hb=>?_,q⟩
 . have e1:lo+((0:Nat):Int)*1=lo:=by simp
   have e2:(((hi-lo).toNat:Nat):Int)-((0:Nat):Int)=Builtin.Range.rangeSize lo hi 1:=by rw[rangeSize_one];split<;>omega
   rw[e1,e2];exact zxJ _ rfl
 . have e:b=(s.heap.push {cls:=.type "range",data:=.fields #[.int lo t,.int hi u,.int 1 v]}).objs.size:=by simpa using hb
   subst e;exact I1.fpOk (zzN _)<|I1.hok.fresh<|zzN _
def nQ(ta:TA):TI:=λσ H R=>ta σ H λvs H1=>∃j:Int,vs=[.int j] /\ -(2 ^ 62)<=j/\j<2 ^ 62/\R (nu 0 j.toNat) H1
def m_(ta:TA):TI:=λσ H R=>ta σ H λvs H1=>∃i j:Int,vs=[.int i,.int j]/\(-(2 ^ 62)<=i/\i<2 ^ 62 /\ -(2 ^ 62)<=j/\j<2 ^ 62)/\R (nu i (j-i).toNat) H1
def MD{a ta p pos}(hg:Gl X "range")(hm:X.mg "range"=none)(ha:PA X [a] ta)(hs:starEach [a] X.env=[(false,eval a X.env)]:=by rfl):PI X tg (.Call (.Name "range" p) [a] [] pos) (nQ ta):=by
 intro pins s σ H R I h;refine Call_<|Uu I hg hm boot_range<|PyProof.Rows.callWith_type1 (wC (ha pos pins s σ H _ I h) λus s1 ⟨vs,H1,I1,r1,q1⟩=>?_) hs rfl;obtain⟨j,e,q1,q2,q⟩:=q1;subst e;cases r1 with
 |cons r rr=>
  cases rr;obtain⟨t,rfl⟩:=r;exact call_range_1 (BD I1 (by omega) (by omega) q1 q2<|by simpa using q)
def Cr(hg:Gl X "range")(hm:X.mg "range"=none)(ha:PA X [a,b] ta)(hs:starEach [a,b] X.env=[(false,eval a X.env),(false,eval b X.env)]:=by rfl)(hs2:starEach [b] X.env=[(false,eval b X.env)]:=by rfl):
 PI X tg (.Call (.Name "range" p) [a,b] [] pos) (m_ ta):=by
 intro pins s σ H R I h;refine Call_ (Uu I hg hm boot_range<|PyProof.Rows.callWith_type1 (wC (ha pos pins s σ H _ I h) λus s1 ⟨vs,H1,I1,r1,q1⟩=>?_) (by rw[hs,hs2])<|by rw[hs2];rfl);obtain⟨i,j,e,⟨q1,q2,q3,q4⟩,q⟩:=q1;subst e;cases r1 with
 |cons r rr=>
  cases rr with
  |cons r' rr=>
   cases rr;obtain⟨t,rfl⟩:=r;obtain⟨t',rfl⟩:=r';exact call_range_2<|BD I1 q1 q2 q3 q4 q
def hU(wi:TI)(g:TG)(tb:TS):TS:=λD σ H=>wi σ H λJ H1=>∃W:Nat->Nat->St->Hp->Prop,(∃m,W 0 m σ H1)/\∀i m σ H,W i m σ H->
 (J.stop i H/\D.nx σ H)\/(J.go i H/\∃N:St->Hp->Prop,(∀σ' H',N σ' H'->∃m',m'<m/\W (i+1) m' σ' H')/\∀x H',J.yld i H x H'->g x σ H' λσ2 H2=>tb {D with nx:=N,ct:=N,bk:=D.nx} σ2 H2)
def SB(fp:List Addr)(h:Heap):List (Addr×Obj):=fp.filterMap λb=>(h.get? b).map λo=>(b,o)
def Wm(hb:b ∈ fp)(e:h.get? b=some o):(b,o) ∈ SB fp h:=List.mem_filterMap.mpr ⟨b,hb,by rw[e];rfl⟩
def C5(hp:p ∈ SB fp h):p.1 ∈ fp/\h.get? p.1=some p.2:=by
 obtain⟨b,hb,e⟩:=List.mem_filterMap.mp hp;cases q:h.get? b with
 |none=>rw[q]at e;cases e
 |some o=>
  rw[q]at e;have e':(b,o)=p:=zzZ e;subst e';exact⟨hb,q⟩
def Inv.pinned(I:Inv X pins σ H s)(hf:∀b ∈ fp,Gx X pins H b)(ho:∀b ∈ fp,∃o,s.heap.get? b=some o/\∀v,o.data ≠ .cell v):Inv X (pins++SB fp s.heap) σ H s:=
 I.pins_of λp hp=>(zzM.mp hp).elim (λz=>I.pin p<|zzL _ z) λz=>by
  obtain⟨hb,e⟩:=C5 z;obtain⟨f0,f1,f2,_⟩:=hf p.1 hb;obtain⟨o,e',d⟩:=ho p.1 hb;rw[e]at e';cases e';exact⟨e,f0,f1,f2,d⟩
def Inv.unpinned(I:Inv X (pins++pl) σ H s):Inv X pins σ H s:=I.pins_of λp hp=>I.pin p<|zzL _<|zzP _ hp
def Ij(hp:PassesOwn (model X.prog X.w) X.A X.env X.xe)(hc:X.calm=true)(hi:PI X tg iter wi)(hg:PG X tg g)(hb:M_ X body tb)
 (hs:∀x,foldedSetIterable iter X.env x=pure x:=by intro _;rfl):PS X (.For tg iter body [] pos) (hU wi g tb):=by
 intro pins s σ H D I h;refine wpAny_For (wC (hi pins s σ H _ I h) λv s1 h1=>wC h1 λitv s2 h2=>?_) hs;obtain⟨it,fp,tn,J,H2,e,I2,T,st2,f2,W,⟨m0,w0⟩,turn⟩:=h2;subst e;have stat:∀{H':Hp},(∀b ∈ fp,H' b=none)->∀b ∈ fp,Gx X pins H' b:=λhn b hb=>⟨hn b hb,(f2 b hb).2⟩;refine codeAny_forLoop_any (λn s'=>∃i σ' H',Inv X pins σ' H' s'/\tn i s'.heap/\(∀b ∈ fp,H' b=none)/\W i n σ' H') ?_ m0 ⟨0,σ,H2,I2,st2,λb hb=>(f2 b hb).1,w0⟩
 rintro n s3 ⟨i,σ3,H3,I3,st3,fr3,w3⟩
 rcases turn i n σ3 H3 w3 with⟨stop,qn⟩|⟨go,N,hN,step⟩
 . refine wpAny_passesOwn hp<|wC (T.done X rfl rfl rfl hc i pins s3 σ3 H3 X.xe I3 (stat fr3) st3 stop) λr s4 ⟨hr,I4⟩=>?_;subst hr;exact wpAny_execs_nil ⟨σ3,H3,I4,qn⟩
 . refine wpAny_passesOwn hp<|wC (T.item X rfl rfl rfl hc i pins s3 σ3 H3 X.xe I3 (stat fr3) st3 go) λr s4 ⟨u,hr,h4⟩=>?_;subst hr;refine wpAny_passesOwn hp<|wC h4 λ_ s5 ⟨x,H5,I5,r5,y5,st5,fr5⟩=>?_;have I5':=I5.pinned (stat fr5)<|T.obj _ _ st5;refine wpAny_passesOwn hp<|wC (hg _ s5 σ3 H5 x u _ I5' r5<|step x H5 y5) λ_ s6 ⟨σ6,H6,I6,q6⟩=>?_;refine wpAny_passesOwn hp<|wC (hb _ s6 σ6 H6 _ I6 q6) λf s7 q7=>?_;have again:∀{σ7:St}{H7:Hp},Inv X _ σ7 H7 s7->N σ7 H7->∃m,m<n/\∃i σ' H',Inv X pins σ' H' s7/\tn i s7.heap/\(∀b ∈ fp,H' b=none)/\W i m σ' H':=λ{σ7 H7} I7 n7=>by
    obtain⟨m',hm,w7⟩:=hN σ7 H7 n7;refine⟨m',hm,i+1,σ7,H7,I7.unpinned,T.keep _ _ _ st5 λb hb o e=>(I7.pin (b,o)<|zzL _<|zzL _<|Wm hb e).1,λb hb=>?_,w7⟩;obtain⟨o,e,d⟩:=T.obj _ _ st5 b hb;exact(I7.pin (b,o)<|zzL _<|zzL _<|Wm hb e).2.1
   cases f with
   |next=>obtain⟨σ7,H7,I7,n7⟩:=q7;exact again I7 n7
   |cont=>obtain⟨σ7,H7,I7,n7⟩:=q7;exact again I7 n7
   |brk=>obtain⟨σ7,H7,I7,q7⟩:=q7;exact⟨σ7,H7,I7.unpinned,q7⟩
   |ret v=>obtain⟨x7,σ7,H7,I7,r7,q7⟩:=q7;exact⟨x7,σ7,H7,I7.unpinned,r7,q7⟩
end
end L2
namespace L2
open PySem PySem.Spec PyProof.Rows
abbrev R2:=V->V->Hp->VK->Prop
def PP(X:Cx)(f:Value->Value->Sem Value)(r:R2):Prop:=
 ∀(pins:List (Addr×Obj)) (s:Shared) (σ:St) (H:Hp) (x y:V) (v u:Value) (Q:VK),Inv X pins σ H s->RelV x v->RelV y u->r x y H Q->
  wpAny (model X.prog X.w) X.A (f v u) (EP X pins σ Q) X.xe s
def jN(X:Cx)(f:Value->Sem Value)(r:V->Hp->VK->Prop):Prop:=
 ∀(pins:List (Addr×Obj)) (s:Shared) (σ:St) (H:Hp) (x:V) (v:Value) (Q:VK),Inv X pins σ H s->RelV x v->r x H Q->
  wpAny (model X.prog X.w) X.A (f v) (EP X pins σ Q) X.xe s
def XW(X:Cx)(f:Value)(r:List V->Hp->VK->Prop):Prop:=
 ∀(pins:List (Addr×Obj)) (s:Shared) (σ:St) (H:Hp) (xs:List V) (us:List Value) (Q:VK),Inv X pins σ H s->zP xs us->r xs H Q->
  wpAny (model X.prog X.w) X.A (call f us) (EP X pins σ Q) X.xe s
def gE(X:Cx)(r:V->Hp->(Bool->Hp->Prop)->Prop):Prop:=
 ∀(pins:List (Addr×Obj)) (s:Shared) (σ:St) (H:Hp) (x:V) (v:Value) (Q:Bool->Hp->Prop),Inv X pins σ H s->RelV x v->r x H Q->
  wpAny (model X.prog X.w) X.A (truthy v) (TP X pins σ Q) X.xe s
def jg(r:R2)(ta tb:TE):TE:=λσ H Q=>ta σ H λx H1=>tb σ H1 λy H2=>r x y H2 Q
def d7(r:V->Hp->VK->Prop)(ta:TE):TE:=λσ H Q=>ta σ H λx H1=>r x H1 Q
def rI(C:Int->Int->Prop)(g:Int->Int->V):R2:=λx y H Q=>∃i j,x = .int i/\y = .int j/\C i j/\Q (g i j) H
def sC(g:Int->Int->V):R2:=λx y H Q=>∃i j,x = .int i/\y = .int j/\Q (g i j) H
def rU(g:Int->V):V->Hp->VK->Prop:=λx H Q=>∃i,x = .int i/\Q (g i) H
section
variable{X:Cx}{a b c:Expr}{ta tb tc:TE}{pos:Pos}
def pI(ha:PE X a ta)(hb:PE X b tb){pins s σ H}{R:V->V->Hp->Prop}(I:Inv X pins σ H s)
 (h:ta σ H λx H1=>tb σ H1 λy H2=>R x y H2) {Q:Value->Shared->Prop}{f:Value->Value->Sem Value}
 (hf:∀v u s2 x y H2,Inv X pins σ H2 s2->RelV x v->RelV y u->R x y H2->wpAny (model X.prog X.w) X.A (f v u) Q X.xe s2):
 wpAny (model X.prog X.w) X.A (eval a X.env) (λv s₁=>wpAny (model X.prog X.w) X.A (eval b X.env) (λu s₂=>wpAny (model X.prog X.w) X.A (f v u) Q X.xe s₂) X.xe s₁) X.xe s:=by
 refine wC (ha pins s σ H _ I h) λv s1 ⟨x,H1,I1,r1,q1⟩=>?_;refine wC (hb pins s1 σ H1 _ I1 q1) λu s2 ⟨y,H2,I2,r2,q2⟩=>?_;exact hf v u s2 x y H2 I2 r1 r2 q2
def nH{op}{r:R2}(ho:PP X (binaryOp op) r)(ha:PE X a ta)(hb:PE X b tb):PE X (.BinOp a op b pos) (jg r ta tb):=by
 intro pins s σ H Q I h;exact wpAny_BinOp<|pI ha hb I h λv u s2 x y H2 I2 rx ry q=>ho pins s2 σ H2 x y v u Q I2 rx ry q
def nM(ho:jN X (unaryOp op) r)(ha:PE X a ta):PE X (.UnaryOp op a pos) (d7 r ta):=by
 intro pins s σ H Q I h;exact UnaryOp_<|wC (ha pins s σ H _ I h) λv s1 ⟨x,H1,I1,r1,q1⟩=>ho pins s1 σ H1 x v Q I1 r1 q1
def fY{f C}{g:Int->Int->Int}
 (rule:∀(i j:Int) (t u:Tok) (s:Shared) (Q:Value->Shared->Prop) (E:Value->Shared->Prop),C i j->Q (.int (g i j) s.toks) {s with toks:=s.toks+1}->wpAny (model X.prog X.w) X.A (f (.int i t)<|.int j u) Q E s):
 PP X f (rI C λi j=>.int<|g i j):=by
 intro pins s σ H x y v u Q I rx ry h;obtain⟨i,j,rfl,rfl,hc,q⟩:=h;obtain⟨t,rfl⟩:=rx;obtain⟨t',rfl⟩:=ry;exact rule i j t t' s _ _ hc ⟨.int<|g i j,H,I.tok _,⟨_,rfl⟩,q⟩
def mO{f}{g:Int->Int->Int}
 (rule:∀(i j:Int) (t u:Tok) (s:Shared) (Q:Value->Shared->Prop) (E:Value->Shared->Prop),Q (.int (g i j) s.toks) {s with toks:=s.toks+1}->wpAny (model X.prog X.w) X.A (f (.int i t)<|.int j u) Q E s):
 PP X f (sC λi j=>.int<|g i j):=by
 intro pins s σ H x y v u Q I rx ry h;obtain⟨i,j,rfl,rfl,q⟩:=h;obtain⟨t,rfl⟩:=rx;obtain⟨t',rfl⟩:=ry;exact rule i j t t' s _ _ ⟨.int<|g i j,H,I.tok _,⟨_,rfl⟩,q⟩
def uB{f}{g:Int->Int->Bool}
 (rule:∀(i j:Int) (t u:Tok) (s:Shared) (Q:Value->Shared->Prop) (E:Value->Shared->Prop),Q (.bool<|g i j) s->wpAny (model X.prog X.w) X.A (f (.int i t)<|.int j u) Q E s):
 PP X f (sC λi j=>.bl<|g i j):=by
 intro pins s σ H x y v u Q I rx ry h;obtain⟨i,j,rfl,rfl,q⟩:=h;obtain⟨t,rfl⟩:=rx;obtain⟨t',rfl⟩:=ry;exact rule i j t t' s _ _ ⟨.bl<|g i j,H,I,rfl,q⟩
def gH(i j:Int):Prop:=0<j/\j<1073741824
def gK(i j:Int):Prop:=0<=j/\j<=1000000/\i.natAbs<2 ^ 64
def nj:PP X (binaryOp .Add) (sC λi j=>.int<|i+j):=mO λ_ _ _ _ _ _ _ q=>add_int q
def pB:PP X (binaryOp .Sub) (sC λi j=>.int<|i-j):=mO λ_ _ _ _ _ _ _ q=>sub_int q
def qU:PP X (binaryOp .Mod) (rI (λ_ j=>0<j) λi j=>.int<|i%j):=fY λi j _ _ _ _ _ hc q=>by
 have h1:=hc;exact mod_int' (q1u hc) (by rw[Int.fmod_eq_emod_of_nonneg i<|by omega];exact q)
def nk:PP X (binaryOp .Pow) (rI gK λi j=>.int<|i ^ j.toNat):=fY λ_ _ _ _ _ _ _ hc q=>pow_int_small hc.1 hc.2.1 hc.2.2 q
def dG{f}{g:Int->Int}
 (rule:∀(i:Int) (t:Tok) (s:Shared) (Q:Value->Shared->Prop) (E:Value->Shared->Prop),Q (.int (g i) s.toks) {s with toks:=s.toks+1}->wpAny (model X.prog X.w) X.A (f<|.int i t) Q E s):
 jN X f (rU λi=>.int<|g i):=by
 intro pins s σ H x v Q I rx h;obtain⟨i,rfl,q⟩:=h;obtain⟨t,rfl⟩:=rx;exact rule i t s _ _ ⟨.int<|g i,H,I.tok _,⟨_,rfl⟩,q⟩
def q8:jN X (unaryOp .USub) (rU λi=>.int (-i)):=dG λ_ _ _ _ _ q=>neg_int q
end
section
variable{X:Cx}{a b c:Expr}{ta tb tc:TE}{pos:Pos}
def wD(I:Inv X pins σ H s)(q:Q (.bl k) H)(e:k=k'):EP X pins σ Q (.bool k') s:=by
 subst e;exact⟨.bl k,H,I,rfl,q⟩
def jA:PP X (compareOp .Lt) (sC λi j=>.bl<|decide (i<j)):=uB λ_ _ _ _ _ _ _ q=>lt_int q
def mD:PP X (compareOp .LtE) (sC λi j=>.bl<|decide (i<=j)):=uB λ_ _ _ _ _ _ _ q=>le_int q
def nS:PP X (compareOp .Gt) (sC λi j=>.bl<|decide (j<i)):=uB λ_ _ _ _ _ _ _ q=>gt_int q
def jh:PP X (compareOp .GtE) (sC λi j=>.bl<|decide (j<=i)):=uB λ_ _ _ _ _ _ _ q=>ge_int q
def Cw:PP X (compareOp .In) (λx y H Q=>∃i j,x = .str i/\y = .str j/\Q (.bl<|!(Builtin.Str.occurrences j i 0 j.length 1).isEmpty) H):=by
 intro pins s σ H x y v u Q I rx ry h;obtain⟨i,j,rfl,rfl,q⟩:=h;obtain⟨t,rfl⟩:=rx;obtain⟨t',rfl⟩:=ry;exact in_str<|wD I q rfl
def qk:PP X (compareOp .Is) (λx y H Q=>y = .non/\Q (.bl<|decide (x = .non)) H):=by
 intro pins s σ H x y v u Q I rx ry h;obtain⟨rfl,q⟩:=h;cases ry;refine is_none_gen<|wD I q ?_;cases x<;>first
  |(cases rx;rfl)
  |(obtain⟨t,rfl⟩:=rx;rfl)
def uT:PP X (compareOp .IsNot) (λx y H Q=>y = .non/\Q (.bl<|!decide (x = .non)) H):=by
 intro pins s σ H x y v u Q I rx ry h;obtain⟨rfl,q⟩:=h;cases ry;refine isnot_none_gen<|wD I q ?_;cases x<;>first
  |(cases rx;rfl)
  |(obtain⟨t,rfl⟩:=rx;rfl)
def MQ:PP X (compareOp .NotIn) (λx y H Q=>∃i j,x = .str i/\y = .str j/\Q (.bl<|!(!(Builtin.Str.occurrences j i 0 j.length 1).isEmpty)) H):=by
 intro pins s σ H x y v u Q I rx ry h;obtain⟨i,j,rfl,rfl,q⟩:=h;obtain⟨t,rfl⟩:=rx;obtain⟨t',rfl⟩:=ry;exact notIn_str<|wD I q rfl
def J3(b)(h:op ≠ .In:=by decide)(h2:op ≠ .NotIn:=by decide):behindInMarks op b=false:=by
 have e1:(op==CmpOp.In)=false:=by cases op<;>first|rfl|exact absurd rfl h
 have e2:(op==CmpOp.NotIn)=false:=by cases op<;>first|rfl|exact absurd rfl h2
 cases b<;>simp[behindInMarks,e1,e2]
def u_{op}{r:R2}(ho:PP X (compareOp op) r)(ha:PE X a ta)(hb:PE X b tb)(hm:behindInMarks op b=false):PE X (.Compare a [op] [b] pos) (jg r ta tb):=by
 intro pins s σ H Q I h;exact wpAny_Compare1 (pI ha hb I h λv u s2 x y H2 I2 rx ry q=>ho pins s2 σ H2 x y v u Q I2 rx ry q) hm
def nW(t:TE):TT:=λσ H Q=>t σ H λx H'=>∃k,x = .bl k/\Q k H'
def sk(ho:PP X (compareOp op) r)(ha:PE X a ta)(hb:PE X b tb)(hm:behindInMarks op b=false):PT X (.Compare a [op] [b] pos) (nW<|jg r ta tb):=by
 intro pins s σ H Q I h;refine wpAny_isTrue_Compare1 (wC (ha pins s σ H _ I h) λv s1 ⟨x,H1,I1,r1,q1⟩=>wC (hb pins s1 σ H1 _ I1 q1) λu s2 ⟨y,H2,I2,r2,q2⟩=>
  wC (ho pins s2 σ H2 x y v u _ I2 r1 r2 q2) λc s3 ⟨z,H3,I3,r3,k,e,q3⟩=>?_) hm
 subst e;cases r3;exact wpAny_truthy_bool ⟨H3,I3,q3⟩
def oT(r r':R2)(ta tb tc:TE):TE:=λσ H Q=>ta σ H λx H1=>tb σ H1 λy H2=>r x y H2 λz H3=>∃k,z = .bl k/\
 (if k=true then tc σ H3 λw' H4=>r' y w' H4 Q else Q (.bl false) H3)
def IX(ho:PP X (compareOp op) r)(ho':PP X (compareOp op') r')(ha:PE X a ta)(hb:PE X b tb)(hc:PE X c tc)
 (hm:lastMarks [op,op'] [b,c]=false:=by with_unfolding_all rfl):PE X (.Compare a [op,op'] [b,c] pos) (oT r r' ta tb tc):=by
 intro pins s σ H Q I h;refine Compare_chain (wC (ha pins s σ H _ I h) λv s1 ⟨x,H1,I1,r1,q1⟩=>chain_link<|wC (hb pins s1 σ H1 _ I1 q1) λu s2 ⟨y,H2,I2,r2,q2⟩=>
  wC (ho pins s2 σ H2 x y v u _ I2 r1 r2 q2) λd s3 ⟨z,H3,I3,r3,k,e,q3⟩=>?_) hm
 subst e;cases r3;refine wpAny_truthy_bool ?_;cases k with
 |false=>exact ite_ff ⟨.bl false,H3,I3,rfl,q3⟩
 |true=>exact ite_tt (chain_last<|wC (hc pins s3 σ H3 _ I3 q3) λw' s4 ⟨z',H4,I4,r4,q4⟩=>ho' pins s4 σ H4 y z' u w' Q I4 r2 r4 q4)
def oh(K:zzA)(x:V)(H:Hp)(k:Bool):Prop:=
 match x with
 | .non=>k=false
 | .bl b=>k=b
 | .int i=>k=(i != 0)
 | .str y=>y.length<=sizeLine/\k=((y.length:Int) != 0)
 | .byt y=>y.size<=sizeLine/\k=((y.size:Int) != 0)
 | .ref p=>(∃xs,Vp K H p xs/\k = !xs.isEmpty)\/(∃xs,UE K H p xs/\k = !xs.isEmpty)\/∃kvs,H p=some (.dK kvs)/\k = !kvs.isEmpty
 |_=>False
def Sy(r:KV kvs vs):(!vs.isEmpty) = !kvs.isEmpty:=by
 cases r<;>rfl
def Lm(r:zP xs its):(!its.toArray.isEmpty) = !xs.isEmpty:=by
 cases r<;>simp
def Uw:(sizeLine:Nat)<2 ^ 63:=by rw[sizeLine_eq];decide
def qO:gE X (λx H Q=>∃k,oh X.K x H k/\Q k H):=by
 intro pins s σ H x v Q I rx h;obtain⟨k,e,q⟩:=h;have hl:=Uw;have hs:=sizeLine_eq;cases x with
 |non=>
  cases rx;have e':k=false:=e;subst e';exact truthy_none ⟨H,I,q⟩
 |bl b=>
  cases rx;have e':k=b:=e;subst e';exact wpAny_truthy_bool ⟨H,I,q⟩
 |int i=>
  obtain⟨t,rfl⟩:=rx;have e':k=(i != 0):=e;subst e';exact PySem.P.truthy_int ⟨H,I,q⟩
 |str y=>
  obtain⟨t,rfl⟩:=rx;obtain⟨hy,e'⟩:y.length<=sizeLine/\k=_:=e;subst e';exact PySem.P.truthy_str (q2p hs hy) ⟨H,I.tok _,q⟩
 |byt y=>
  obtain⟨t,rfl⟩:=rx;obtain⟨hy,e'⟩:y.size<=sizeLine/\k=_:=e;subst e';exact W.truthy_bytes (q2s hs hy) ⟨H,I.tok _,q⟩
 |ref p=>
  cases rx;have e':_\/_\/∃kvs,H p=some (.dK kvs)/\k = !kvs.isEmpty:=e
  rcases e' with⟨xs,hx,e'⟩|⟨xs,hx,e'⟩|⟨kvs,hx,e'⟩
  . subst e';obtain⟨its,r,pl,hz⟩:=I.list hx;have hlen:=r.length;exact wpAny_truthy_list pl.isList (by simp only[zzH];exact q0N hs hlen hz) ⟨H,I.tok _,by rw[Lm r];exact q⟩
  . subst e';obtain⟨its,r,pl,hz⟩:=I.tuple hx;have hlen:=r.length;exact truthy_tuple pl (by simp only[zzH];exact q0N hs hlen hz) ⟨H,I.tok _,by rw[Lm r];exact q⟩
  . subst e';obtain⟨hz,hS,vs,r,m⟩:kvs.length<=sizeLine/\_=false/\∃vs,KV kvs vs/\s.heap.DictOf _ p vs:=I.hok p _ hx;have hlen:=Paired.length r;exact wpAny_truthy_dict hS m (q0N hs hlen hz) ⟨H,I.tok _,by rw[Sy r];exact q⟩
 |_=>exact(e).elim
def J2(ha:PE X a ta)(he:∀whole,isTrue a X.env whole=(do let v <-whole;standAt a.pos;holding [v] (truthy v))):
 PT X a (λσ H Q=>ta σ H λx H'=>∃k,oh X.K x H' k/\Q k H'):=by
 intro pins s σ H Q I h;exact isTrue_plain (wC (ha pins s σ H _ I h) λv s1 ⟨x,H1,I1,r1,q1⟩=>qO pins s1 σ H1 x v Q I1 r1 q1)<|he _
def SL:PP X (binaryOp .Add) (λx y H Q=>∃i j,x = .str i/\y = .str j/\i.length+j.length<=sizeLine/\Q (.str<|i++j) H):=by
 intro pins s σ H x y v u Q I rx ry h;obtain⟨i,j,rfl,rfl,hz,q⟩:=h;obtain⟨t,rfl⟩:=rx;obtain⟨t',rfl⟩:=ry;exact add_str (λt' tk=>⟨.str<|i++j,H,I.tok _,⟨_,rfl⟩,q⟩) hz
def vals1(r:zP [x] us):∃u,us=[u]/\RelV x u:=by
 cases r with
 |cons r1 r2=>cases r2;exact⟨_,rfl,r1⟩
def vals2(r:zP [x,y] us):∃u w',us=[u,w']/\RelV x u/\RelV y w':=by
 cases r with
 |cons r1 r2=>
  cases r2 with
  |cons r3 r4=>cases r4;exact⟨_,_,rfl,r1,r3⟩
def Cz(hc:X.calm=true):XW X (.builtin "max") (λxs H Q=>∃i j,xs=[.int i,.int j]/\Q (.int (if j > i then j else i)) H):=by
 intro pins s σ H xs us Q I r h;obtain⟨i,j,rfl,q⟩:=h;obtain⟨u,w',rfl,⟨t,rfl⟩,⟨t',rfl⟩⟩:=vals2 r;refine max_two_ints (I.ok.hd hc) λh' tk k=>⟨_,H,I.kept k, ?_,q⟩
 by_cases hj:j > i
 . rw[if_pos hj,if_pos hj];exact⟨_,rfl⟩
 . rw[if_neg hj,if_neg hj];exact⟨_,rfl⟩
def O1(hc:X.calm=true):XW X (.builtin "min") (λxs H Q=>∃i j,xs=[.int i,.int j]/\Q (.int (if j<i then j else i)) H):=by
 intro pins s σ H xs us Q I r h;obtain⟨i,j,rfl,q⟩:=h;obtain⟨u,w',rfl,⟨t,rfl⟩,⟨t',rfl⟩⟩:=vals2 r;refine min_two_ints (I.ok.hd hc) λh' tk k=>⟨_,H,I.kept k, ?_,q⟩
 by_cases hj:j<i
 . rw[if_pos hj,if_pos hj];exact⟨_,rfl⟩
 . rw[if_neg hj,if_neg hj];exact⟨_,rfl⟩
def NT:XW X (.type "int") (λxs H Q=>(∃i,xs=[.int i]/\Q (.int i) H)\/∃k,xs=[.bl k]/\Q (.int (if k then 1 else 0)) H):=by
 intro pins s σ H xs us Q I r h
 rcases h with⟨i,rfl,q⟩|⟨k,rfl,q⟩
 . obtain⟨u,rfl,t,rfl⟩:=vals1 r;exact call_int_int ⟨.int i,H,I,⟨_,rfl⟩,q⟩
 . obtain⟨u,rfl,r1⟩:=vals1 r;cases r1;exact call_int_bool ⟨.int _,H,I.tok _,⟨_,rfl⟩,q⟩
def ic(K:zzA)(x:V)(H:Hp)(n:Nat):Prop:=
 match x with
 | .str y=>y.length<=sizeLine/\n=y.length
 | .byt y=>y.size<=sizeLine/\n=y.size
 | .ref p=>(∃xs,Vp K H p xs/\n=xs.length)\/∃xs,UE K H p xs/\n=xs.length
 |_=>False
def AV:XW X (.builtin "len") (λxs H Q=>∃x n,xs=[x]/\ic X.K x H n/\Q (.int n) H):=by
 intro pins s σ H xs us Q I r h;obtain⟨x,n,rfl,e,q⟩:=h;obtain⟨u,rfl,rx⟩:=vals1 r;have hl:=Uw;have hs:=sizeLine_eq;cases x with
 |str y=>
  obtain⟨t,rfl⟩:=rx;obtain⟨hy,e'⟩:y.length<=sizeLine/\n=y.length:=e;subst e';exact len_str (q2p hs hy) ⟨.int _,H,I.tok _,⟨_,rfl⟩,q⟩
 |byt y=>
  obtain⟨t,rfl⟩:=rx;obtain⟨hy,e'⟩:y.size<=sizeLine/\n=y.size:=e;subst e';exact W.len_bytes (q2s hs hy) ⟨.int _,H,I.tok _,⟨_,rfl⟩,q⟩
 |ref p=>
  cases rx;have e':_\/∃xs,UE X.K H p xs/\n=xs.length:=e
  rcases e' with⟨xs,hx,e'⟩|⟨xs,hx,e'⟩
  . subst e';obtain⟨its,r',pl,hz⟩:=I.list hx;have hlen:=r'.length;exact Calls.call_len_list pl.isList (by simp only[zzH];exact q0N hs hlen hz) ⟨.int xs.length,H,I.tok _,⟨_,by simp only[zzH];rw[hlen]⟩,q⟩
  . subst e';obtain⟨its,r',pl,hz⟩:=I.tuple hx;have hlen:=r'.length;exact len_tuple pl (by simp only[zzH];exact q0N hs hlen hz) ⟨.int xs.length,H,I.tok _,⟨_,by simp only[zzH];rw[hlen]⟩,q⟩
 |_=>exact(e).elim
def Br:XW X (.builtin "divmod") (λxs H Q=>∃i j,xs=[.int i,.int j]/\gH i j/\∀p,H p=none->Q (.ref p) (upd H p<|.tup [.int<|i/j,.int<|i%j])):=by
 intro pins s σ H xs us Q I r h;obtain⟨i,j,rfl,⟨h1,h2⟩,q⟩:=h;obtain⟨u,w',rfl,⟨t,rfl⟩,⟨t',rfl⟩⟩:=vals2 r;refine divmod_int (by omega) ?_ (.inl<|PyProof.noPylong_small<|by omega);rw[Int.fdiv_eq_ediv_of_nonneg i<|q2w h1 h2,Int.fmod_eq_emod_of_nonneg i<|q2w h1 h2];have hn:=I.hok.fresh<|zzN _;refine⟨.ref s.heap.objs.size,_, ?_,rfl,q _ hn⟩;refine I.laid (λb o e=>zxH _ e) (zzN _) ⟨by simp only[zzT,List.length_nil];rw[sizeLine_eq];decide,[.int (i/j) s.toks,.int (i%j)<|s.toks+1],.cons ⟨_,rfl⟩<|.cons ⟨_,rfl⟩ .nil, ?_⟩;exact⟨_,zxJ s.heap rfl,rfl,0,rfl⟩
end
end L2
namespace L2
open PySem PySem.Spec PyProof.Rows
structure ObjM(h:Heap)(x dx C:Addr)(mA:Str->Option Value):Prop where
 obj:h.get? x=some (W.instObj C dx)
 ns:h.Ns1 dx mA
 ne:dx≠x
def Cb{h:Heap}{dx mA}(n:h.Ns1 dx mA):∃od,h.get? dx=some od/\∀name,W.lookIn name od=some (mA name):=by
 obtain⟨o,es,ep,ho,hd,hk,_,hm⟩:=n;refine⟨o,ho,λname=>?_⟩;have e:=hm name;unfold nsFind findBy at e;rw[<-Array.find?_toList]at e;unfold W.lookIn;rw[hd];dsimp only
 split
 . rename_i y q;rw[q]at e;exact congrArg some e
 . rename_i q;rw[q]at e;have a:es.toList.any (·.refKey)=false:=by
    rw[List.any_eq_false];intro y hy;obtain⟨z,t,hkey⟩:=hk y<|Array.mem_toList_iff.mp hy;simp[DictEntry.refKey,hkey]
   have a':¬es.toList.any (·.refKey)=true:=by rw[a];exact zyV
   rw[if_neg a'];exact congrArg some e
def ObjM.look(I:ObjM h x dx C mA):∃od,PySem.W.InstAt h x (W.instObj C dx) C (some od)/\∀name,W.lookIn name od=some (mA name):=
 let⟨od,ho,hl⟩:=Cb I.ns
 ⟨od,⟨I.obj,rfl,rfl,ho⟩,hl⟩
section
variable{prog:Program}{w:World}{A:Around}{E:Value->Shared->Prop}{s:Shared}{K:zzA}{x dx C f:Addr}{mA:Str->Option Value}{name:Str}{v:Value}
def tu(X:K.In s.heap)(I:ObjM s.heap x dx C mA)(hg:W.plainGet K C name=true)(hh:W.hasDictIn K C=true)
 (ha:W.findIn K (.ref C) name=some none) (hv:mA name=some v) (hv':W.handedIn v=true) (h:Q v {s with toks:=s.toks+1}):
 wpAny (model prog w) A (getAttr (.ref x) name expr) Q E s:=by
 obtain⟨od,J,hl⟩:=I.look;exact W.get_value X J (W.plainGet_of hg).1 (W.findObj_own hh ha rfl<|by rw[hl,hv]) hv' h
def JE(X:K.In s.heap)(I:ObjM s.heap x dx C mA)(hg:W.plainGet K C name=true)
 (hf:W.findIn K (.ref C) name=some (some<|.ref f)) (ht:W.isFn K (.ref f)=true) (hv:mA name=none) (h:Q (.ref f,[.ref x]) s):
 wpAny (model prog w) A (getMethod (.ref x) name pl) Q E s:=by
 obtain⟨od,J,hl⟩:=I.look;exact W.method_fn X J (W.plainGet_of hg).1 (W.plainGet_of hg).2 hf (beq_iff_eq.mp ht) (by show(W.lookIn name od).map _=some false;rw[hl,hv];rfl) h
def tQ(X:K.In s.heap)(I:ObjM s.heap x dx C mA)
 (hs:W.findIn K (.ref C) "__setattr__"=some (some<|.builtin "object.__setattr__")) (hp:W.plainOver K C=true) (ht:W.takerIn K C name=some none) (hh:W.hasDictIn K C=true)
 (hw:PySem.Within mA ns) (hsz:ns.length<=sizeLine)
 (h:∀h',ObjM h' x dx C (λy=>if y=name then some v else mA y)->Heap.SameBut dx s.heap h'->Q () {s with heap:=h',toks:=s.toks+2}):
 wpAny (model prog w) A (setAttr (.ref x) name v) Q E s:=by
 obtain⟨od,J,hl⟩:=I.look;refine W.set_plain X J hs<|W.osa_open X J hp ht λb=>?_;obtain⟨cd,hc,hd'⟩:=W.any_some hh;have hx:=I.obj;refine zxF<|zxG<|zxF<|zxF<|wpAny_loadPart hx<|zxF<|PySem.W.Looks.here (W.looks_clsIn X hc) ?_;rw[hd'];refine zxG<|zxF<|zxG<|zxF ?_;refine wpAny_nsSet1 I.ns λh' hn2 hs2=>?_;obtain⟨oD,esD,epD,hoD,hdD,hcD⟩:=hn2.count<|PySem.Within.cons name v hw;refine zxF<|wpAny_lookBehind hoD (by rw[hdD];exact pastItsLine_dict<|zzO hcD<|by rw[zzT];omega) ?_;exact zxG<|h _ ⟨(hs2.2 _<|Ne.symm I.ne).trans I.obj,hn2,I.ne⟩ hs2
def IS(X:K.In s.heap)(hm:W.makesIn K C=true)
 (hi:W.findIn K (.ref C) "__init__"=some (some<|.ref f)) (hf:W.typeIn K (.ref f)=some (.type "function"))
 (h:codeAny (model prog w) (A.under<|.builtin "type.__call__" ⟨.ref C::vs,kw⟩) (.call (.ref f) ⟨.ref (s.heap.objs.size+1)::vs,kw⟩) (PySem.W.InitBack (s.heap.objs.size+1) R)
  {s with heap:=(s.heap.push W.emptyDict).push (W.instObj C s.heap.objs.size)}):
 codeAny (model prog w) A (.call (.ref C) ⟨vs,kw⟩) R s:=by
 obtain⟨hh,g,d,t,os⟩:=s;exact W.make_core (W.makes_of X hm) (W.looks_findIn X hi) (λself=>W.bind_fn X self hf) (.inl rfl) h
end
noncomputable def VL(f:Str)(v:V):List (Str×V)->List (Str×V)
 | []=>[(f,v)]
 |(g,x)::r=>if g=f then(g,v)::r else(g,x)::VL f v r
theorem P8(f g)(v):∀fs:List (Str×V),(VL f v fs).lookup g=if g=f then some v else fs.lookup g
 | []=>by
  show List.lookup g [_]=_
  by_cases h:g=f
  . have hb:=beq_iff_eq.mpr h;simp only[List.lookup,hb,if_pos h]
  . have hb:=beq_eq_false_iff_ne.mpr h;simp only[List.lookup,hb,if_neg h]
 |(k,x)::r=>by
  have ih:=P8 f g v r;rw[show VL f v _=(if k=f then(k,v)::r else(k,x)::VL f v r)from rfl]
  by_cases hk:k=f
  . rw[if_pos hk]
    by_cases h:g=k
    . have hb:=beq_iff_eq.mpr h;simp only[List.lookup,hb,if_pos<|h.trans hk]
    . have hb:=beq_eq_false_iff_ne.mpr h;simp only[List.lookup,hb,if_neg (λe:g=f=>h<|e.trans hk.symm)]
  . rw[if_neg hk]
    by_cases h:g=k
    . have hb:=beq_iff_eq.mpr h;simp only[List.lookup,hb,if_neg (λe:g=f=>hk<|h.symm.trans e)]
    . have hb:=beq_eq_false_iff_ne.mpr h;simp only[List.lookup,hb];exact ih
theorem Pq(f)(v):∀fs:List (Str×V),f ∈ (VL f v fs).map (·.1)/\∀g,g ∈ fs.map (·.1)->g ∈ (VL f v fs).map (·.1)
 | []=>⟨by simp[VL],λg h=>by simp at h⟩
 |(k,x)::r=>by
  obtain⟨i1,i2⟩:=Pq f v r;rw[show VL f v _=(if k=f then(k,v)::r else(k,x)::VL f v r)from rfl]
  by_cases hk:k=f
  . rw[if_pos hk];subst hk;exact⟨by simp,λg h=>by simpa using h⟩
  . rw[if_neg hk];refine⟨?_,λg h=>?_⟩
    . rw[zyS];exact zzD _ i1
    . rw[zyS]at h ⊢
      rcases zzC.mp h with e|e
      . exact zzC.mpr<|.inl e
      . exact zzD _<|i2 g e
theorem Ti(f)(v):∀fs:List (Str×V),(VL f v fs).length<=fs.length+1
 | []=>by simp[VL]
 |(k,x)::r=>by
  have ih:=Ti f v r;rw[show VL f v _=(if k=f then(k,v)::r else(k,x)::VL f v r)from rfl]
  by_cases hk:k=f
  . rw[if_pos hk,zzT,zzT];omega
  . rw[if_neg hk,zzT,zzT];omega
def RB.some_of(r:RB (some v) o):∃u,o=some u/\RelV v u:=by
 cases o with
 |none=>exact(r).elim
 |some u=>exact⟨u,rfl,r⟩
def RB.none_of(r:RB none o):o=none:=by
 cases o with
 |none=>rfl
 |some u=>exact(r).elim
def CW(r:RelV v u):W.handedIn u=true:=by
 cases v with
 |non=>cases(r);rfl
 |bl b=>cases(r);rfl
 |int i=>obtain⟨t,e⟩:=(r);cases e;rfl
 |str x=>obtain⟨t,e⟩:=(r);cases e;rfl
 |byt b=>obtain⟨t,e⟩:=(r);cases e;rfl
 |flt b=>obtain⟨t,e⟩:=(r);cases e;rfl
 |ref a=>cases(r);rfl
 |ty n=>cases(r);rfl
section
variable{P:Program}{w:World}{H H':Hp}{h h':Heap}{a C dx:Addr}{fs fs':List (Str×V)}
def Fo(hok:TM P w H h)(e:H a=some (.ins C dx fs)):∃mA,ObjM h a dx C mA/\(∀f,RB (fs.lookup f)<|mA f)/\PySem.Within mA (fs.map (·.1))/\fs.length<=1000/\H dx=some (.own a):=by
 obtain⟨d,z,ne,ob,mA,n,r,q⟩:=(hok a _ e);exact⟨mA,⟨ob,n,ne⟩,r,q,z,d⟩
end
structure Cls(K:zzA)(C:Addr):Prop where
 pg:W.plainGet K C Str.empty=true
 hd:W.hasDictIn K C=true
 po:W.plainOver K C=true
 sa:W.findIn K (.ref C) "__setattr__"=some (some<|.builtin "object.__setattr__")
def Cls.get{K C}(c:Cls K C)(f):W.plainGet K C f=true:=c.pg
def yC(K:zzA)(C:Addr)(f:Str):Prop:=W.findIn K (.ref C) f=some none
def yC.taker{K C f}(n:yC K C f):W.takerIn K C f=some none:=by
 unfold W.takerIn;rw[show W.findIn K (.ref C) f=some none from n];rfl
structure Con(K:zzA)(C:Addr)(f:Str)(v:V)(u:Value):Prop where
 at_:W.findIn K (.ref C) f=some (some u)
 rel:RelV v u
 get:W.specialIn K u "__get__"=some none
 cp:W.copiedNames.contains f=false
structure Meth(K:zzA)(C:Addr)(m:Str)(f:Addr):Prop where
 at_:W.findIn K (.ref C) m=some (some<|.ref f)
 fn:W.isFn K (.ref f)=true
 kp:W.keepIn K (.ref f)=true
section
variable{X:Cx}{pins:List (Addr×Obj)}{σ:St}{H:Hp}{s:Shared}{a C dx:Addr}{fs:List (Str×V)}{f:Str}{v:V}{A:Around}{E:Value->Shared->Prop}
def SX(I:Inv X pins σ H s)(e:H a=some (.ins C dx fs))(c:Cls X.K C)(n:yC X.K C f)(l:fs.lookup f=some v)
 (h:∀u s',Inv X pins σ H s'->RelV v u->Q u s'):wpAny (model X.prog X.w) A (getAttr (.ref a) f b) Q E s:=by
 obtain⟨mA,O,r,_,_,_⟩:=Fo I.hok e;obtain⟨u,hu,ru⟩:=RB.some_of (by rw[<-l];exact r f);exact tu I.kIn O (c.get f) c.hd n hu (CW ru)<|h u _ (I.tok _) ru
def S5(I:Inv X pins σ H s)(e:H a=some (.ins C dx fs))(c:Cls X.K C)(k:Meth X.K C m g)(l:fs.lookup m=none)
 (h:Q (.ref g,[.ref a]) s):wpAny (model X.prog X.w) A (getMethod (.ref a) m pl) Q E s:=by
 obtain⟨mA,O,r,_,_,_⟩:=Fo I.hok e;have hn:=RB.none_of (by rw[<-l];exact r m);exact JE I.kIn O (c.get m) k.at_ k.fn hn h
def Hu(I:Inv X pins σ H s)(e:H a=some (.ins C dx fs))(c:Cls X.K C)(n:yC X.K C f)(hl:fs.length<1000)(ry:RelV y u)
 (h:∀s',Inv X pins σ (upd H a<|.ins C dx<|VL f y fs) s'->Q () s'):wpAny (model X.prog X.w) A (setAttr (.ref a) f u) Q E s:=by
 obtain⟨mA,O,r,wi,_,ho⟩:=Fo I.hok e;have hz:(fs.map (·.1)).length<=sizeLine:=by rw[zzB,sizeLine_eq];omega
 refine tQ I.kIn O c.sa c.po n.taker c.hd wi hz λh' O' sb=>h _ ?_;have hd:∃o,h'.get? dx=some o:=let⟨o,_,_,e',_⟩:=O'.ns;⟨o,e'⟩;refine I.write (by rw[e];exact True.intro) (.inr ho) (λb q hb z=>(sb.2 b hb).trans z) hd ?_;refine⟨by rw[zH O.ne];exact ho, ?_,O.ne,O'.obj,_,O'.ns,λg=>?_,λg hg=>?_⟩
 . have:=Ti f y fs;omega
 . show RB _ _;rw[P8]
   by_cases q:g=f
   . rw[if_pos q,if_pos q];exact ry
   . rw[if_neg q,if_neg q];exact r g
 . by_cases q:g=f
   . rw[q];exact(Pq f y fs).1
   . refine(Pq f y fs).2 g<|wi g λz=>hg ?_;show(if g=f then some u else mA g)=_;rw[if_neg q];exact z
def Inv.made(I:Inv X pins σ H s):Inv X pins σ (upd (upd H s.heap.objs.size<|.own<|s.heap.objs.size+1) (s.heap.objs.size+1)<|.ins C s.heap.objs.size [])
 {s with heap:=(s.heap.push W.emptyDict).push (W.instObj C s.heap.objs.size)}:=by
 have e1:(s.heap.push W.emptyDict).get? s.heap.objs.size=some W.emptyDict:=zxJ s.heap rfl;have e2:((s.heap.push W.emptyDict).push<|W.instObj C s.heap.objs.size).get? (s.heap.objs.size+1)=some (W.instObj C s.heap.objs.size):=by
  have:=zxJ (s.heap.push W.emptyDict) (o:=W.instObj C s.heap.objs.size) rfl
  rwa [zxL]at this
 have e3:(s.heap.push W.emptyDict).Ns s.heap.objs.size (λ_=>none):=⟨W.emptyDict,#[],_,e1,rfl,(λe he=>absurd he<|by simp),λ_=>rfl⟩;have I1:=I.laid (o:=.own<|s.heap.objs.size+1) (h':=s.heap.push W.emptyDict) (t':=s.toks) (λb u q=>zxH _ q) (zzN _) ⟨_,e1⟩;refine I1.laid (t':=s.toks) (λb u q=>zxH _ q) (Nat.le_of_eq<|zxL _ _) ?_;have ne:s.heap.objs.size≠s.heap.objs.size+1:=zzQ<|Nat.lt_succ_self _;refine⟨by rw[zH ne,ye],Nat.zero_le _,ne,e2,λ_=>none,(Heap.Ns1.of_empty e3).at λo q=>zxH _ q,λ_=>True.intro,λy hy=>absurd rfl hy⟩
def uL(hb:attributeBase e f env (eval e env)=eval e env)
 (h:wpAny (model prog w) A (eval e env) (λo s₁=>wpAny (model prog w) A (getAttr o f true) Q E s₁) E s):wpAny (model prog w) A (eval (.Attribute e f pos) env) Q E s:=
 Attribute_any_ h (by rw[arm_eval_Attribute,hb])
end
def gS(K:zzA)(ta:TE)(f:Str):TE:=λσ H Q=>ta σ H λx H1=>∃a C dx fs v,x = .ref a/\H1 a=some (.ins C dx fs)/\Cls K C/\yC K C f/\fs.lookup f=some v/\Q v H1
def iH(K:zzA)(ta tv:TE)(f:Str):TS:=λD σ H=>tv σ H λy H1=>ta σ H1 λx H2=>∃a C dx fs,x = .ref a/\H2 a=some (.ins C dx fs)/\Cls K C/\yC K C f/\fs.length<1000/\
 D.nx σ (upd H2 a<|.ins C dx<|VL f y fs)
section
variable{X:Cx}{o e value:Expr}{f:Str}{pos pos' tpos:Pos}{ta tv:TE}
def Ec(he:PE X e ta)(hb:attributeBase e f X.env (eval e X.env)=eval e X.env):PE X (.Attribute e f pos) (gS X.K ta f):=by
 intro pins s σ H Q I h;refine uL hb<|wC (he pins s σ H _ I h) λu s1 ⟨x,H1,I1,rx,a,C,dx,fs,v,ex,ea,c,n,l,q⟩=>?_;subst ex;obtain rfl:u=Value.ref a:=rx;exact SX I1 ea c n l λu' s2 I2 ru=>⟨v,H1,I2,ru,q⟩
def IE(ha:PE X o ta)(hv:PE X value tv)(hs:swapsWith value (some<|.Attribute o f pos') pos.line X.env=pure false):PS X (.Assign [.Attribute o f pos'] value pos) (iH X.K ta tv f):=by
 intro pins s σ H D I h;refine plainObj_wpAny_Assign_Attribute (wC (hv pins s σ H _ I h) λu s1 ⟨y,H1,I1,ry,q⟩=>wC (ha pins s1 σ H1 _ I1 q) λov s2 ⟨x,H2,I2,rx,a,C,dx,fs,ex,ea,c,n,l,q2⟩=>?_) hs;subst ex;obtain rfl:ov=Value.ref a:=rx;exact Hu I2 ea c n l ry λs3 I3=>⟨σ,_,I3,q2⟩
end
section
variable{X:Cx}{pins:List (Addr×Obj)}{σ:St}{H:Hp}{s:Shared}{A:Around}{E:Value->Shared->Prop}{Q:Value->Shared->Prop}{c:Value}{b:Bool}
inductive TyOf(K:zzA)(H:Hp):V->Value->Prop where
 |non:TyOf K H .non (.type "NoneType")
 |bl (x:Bool):TyOf K H (.bl x) (.type "bool")
 |int (i:Int):TyOf K H (.int i) (.type "int")
 |str (x:Str):TyOf K H (.str x) (.type "str")
 |flt (x:UInt64):TyOf K H (.flt x) (.type "float")
 |lst {a:Addr}{xs:List V}(e:H a=some (.lst xs)):TyOf K H (.ref a) (.type "list")
 |frz {a:Addr}{o:Obj}{xs:List V}(e:H a=some (.frz o (.lst xs))):TyOf K H (.ref a) (.type "list")
 |tup {a:Addr}{xs:List V}(e:H a=some (.tup xs)):TyOf K H (.ref a) (.type "tuple")
 |dK {a:Addr}{kvs:List (Key×V)}(e:H a=some (.dK kvs)):TyOf K H (.ref a) (.type "dict")
 |dT {a:Addr}{kvs:List (List Key×V)}(e:H a=some (.dT kvs)):TyOf K H (.ref a) (.type "dict")
 |ins {a C dx:Addr}{fs:List (Str×V)}(e:H a=some (.ins C dx fs)) (cl:Cls K C) (ha:W.findIn K (.ref C) "__class__"=some (some (.builtin "object.__class__")))
  (hn:W.specialIn K (.builtin "object.__class__") "__get__"=some (some<|.builtin "getset_descriptor.__get__")) (htk:W.takesIn K (.builtin "object.__class__")=some true)
  (hm:W.mroIn K C (.type "object")=some true):TyOf K H (.ref a) (.ref C)
end
end L2
namespace L2
open PySem PySem.Spec PyProof.Rows
structure Room(k:Nat)(A:Around):Prop where
 hd:A.handled=none
 dp:A.depth+3*k+5<recursionLimit
 un:A.units+16*k+200<cLine
 gd:A.guards=some []
def Room.mono(r:Room k A)(h:j<=k):Room j A:=⟨r.hd,by have:=r.dp;omega,by have:=r.un;omega,r.gd⟩
theorem Room.deeper(r:Room (k+1) A)(env):Room k (A.deeper env):=
 ⟨r.hd,by have:=r.dp;show A.depth+1+3*k+5<_;exact q1c this,by have:=r.un;show A.units+3+16*k+200<_;omega,r.gd⟩
def S8{A:Around}{C us kw}:(A.under<|.builtin "type.__call__" ⟨.ref C::us,kw⟩).depth=A.depth+1:=by
 first|rfl|simp[Around.under,Code.weight,Code.isCreation,Code.isGuard,Code.isCaller,Code.frames,Code.isFrame,guardIds]
def Hr{A:Around}{C us kw}:(A.under<|.builtin "type.__call__" ⟨.ref C::us,kw⟩).units=A.units+1:=by
 first|rfl|simp[Around.under,Code.cUnits,Code.frames,Code.isFrame]
def BI{A:Around}{C us kw}:(A.under<|.builtin "type.__call__" ⟨.ref C::us,kw⟩).guards=A.guards:=by
 first|rfl|simp[Around.under,Code.guards,Code.isGuard,guardIds,PySem.pushGuards]
def Room.make{k:Nat}{A:Around}(r:Room (k+1) A)(C)(us)(kw):Room k (A.under<|.builtin "type.__call__" ⟨.ref C::us,kw⟩):=
 ⟨r.hd,by have:=r.dp;rw[S8];exact q1c this,by have:=r.un;rw[Hr];omega,by rw[BI];exact r.gd⟩
theorem Room.depth(r:Room k A):A.depth<recursionLimit:=by have:=r.dp;omega
def iu:TA:=λ_ H Q=>Q [] H
def kO(ta:TE)(tr:TA):TA:=λσ H Q=>ta σ H λx H1=>tr σ H1 λxs H2=>Q (x::xs) H2
section
variable{X:Cx}{e:Expr}{es:List Expr}{te:TE}{t:TA}{pos:Pos}
def Lu:PA X [] iu:=λ_ _ _ _ H Q I h=>Calls.spliced_nil ⟨[],H,I,.nil,h⟩
def Qp(ha:PE X e te)(hr:PA X es t)(hs:starEach (e::es) X.env=(false,eval e X.env)::starEach es X.env:=by rfl):PA X (e::es) (kO te t):=by
 intro pos pins s σ H Q I h;rw[hs];refine Calls.spliced_cons<|wC (ha pins s σ H _ I h) λu s1 ⟨x,H1,I1,r1,q1⟩=>?_;exact wC (hr pos pins s1 σ H1 _ I1 q1) λus s2 ⟨xs,H2,I2,r2,q2⟩=>⟨x::xs,H2,I2,.cons r1 r2,q2⟩
def gb(t:TA):TE:=λσ H Q=>t σ H λxs H1=>xs.length<=sizeLine/\∀p,H1 p=none->Q (.ref p) (upd H1 p<|.tup xs)
def iI(t:TA):TE:=λσ H Q=>t σ H λxs H1=>xs.length<=sizeLine/\∀p,H1 p=none->Q (.ref p) (upd H1 p<|.lst xs)
def q_(h:PA X es t):PE X (.Tuple es x1 pos) (gb t):=by
 intro pins s σ H Q I hq;refine wpAny_Tuple_spliced<|wC (h pos pins s σ H _ I hq) λus s1 ⟨xs,H1,I1,r,z,q⟩=>⟨by rw[<-r.length];exact z, ?_⟩;have hf:=I1.hok.fresh<|zzN _;refine⟨.ref s1.heap.objs.size,upd H1 s1.heap.objs.size _,I1.laid (t':=s1.toks) (λb u e=>zxH _ e) (zzN _) ?_,rfl,q _ hf⟩;exact⟨z,us,r,⟨_,zxJ _ rfl,rfl,_,rfl⟩⟩
def qz(h:PA X es t):PE X (.List es pos) (iI t):=by
 intro pins s σ H Q I hq;refine wpAny_List_spliced<|wC (h pos pins s σ H _ I hq) λus s1 ⟨xs,H1,I1,r,z,q⟩=>⟨by rw[<-r.length];exact z, ?_⟩;have hf:=I1.hok.fresh<|zzN _;refine⟨.ref s1.heap.objs.size,upd H1 s1.heap.objs.size _,I1.laid (t':=s1.toks) (λb u e=>zxH _ e) (zzN _) ?_,rfl,q _ hf⟩;exact⟨z,us,0,r,zxJ _ rfl⟩
end
abbrev Sp:=List V->Hp->VK->XK->Prop
abbrev rf:=List Env->Hp->Shared->XK->Value->Shared->Prop
structure Env0(P:Program)(w:World)(K:zzA)(mg:Str->Option Value)(base:Heap)(A:Around)(outer:List Env)(s:Shared)(H:Hp):Prop where
 frames:A.frames=some outer
 mod:Mod K mg base
 bs:∀b o,base.get? b=some o->s.heap.get? b=some o/\H b=none
 bsz:base.objs.size<=s.heap.objs.size
 funs:s.heap.FunFrames base outer
 frf:∀b ∈ C_ outer,H b=none
 hok:TM P w H s.heap
 bare:AllBare s.gens
def CE(outer:List Env)(P:Program)(w:World)(H:Hp)(s:Shared)(Q:VK)(u:Value)(s':Shared):Prop:=
 ∃v H',s'.os=s.os/\AllBare s'.gens/\Un (C_ outer) [] H H' s.heap s'.heap/\TM P w H' s'.heap/\RelV v u/\Q v H'
def CR(CX:rf)(outer:List Env)(P:Program)(w:World)(H:Hp)(s:Shared)(Q:VK)(E:XK)(r:Result)(s':Shared):Prop:=
 match r with
 | .ok (.ret u)=>CE outer P w H s Q u s'
 | .ok _=>False
 | .error e=>CX outer H s E e s'
structure FnOk(P:Program)(w:World)(K:zzA)(mg:Str->Option Value)(base:Heap)(CX:rf)(k:Nat)(f:Addr)(fd:FuncData)(ps:List Str)(sp:Sp):Prop where
 len:∀vs H Q E,sp vs H Q E->vs.length=ps.length
 run:∀(A:Around) (outer:List Env) (s:Shared) (H:Hp) (args:Args) (us:List Value) (vs:List V) (Q:VK) (E:XK),Room k A->Env0 P w K mg base A outer s H->BindsTo s fd args (ps.zip us)->zP vs us->sp vs H Q E->
  codeAny (model P w) A (.call (.ref f) args) (CR CX outer P w H s Q E) s
def FnOk.imp{P w K mg base CX}{k:Nat}{f fd ps sp sp'}(F:FnOk P w K mg base CX k f fd ps sp)
 (h:∀vs H Q E,sp' vs H Q E->sp vs H Q E):FnOk P w K mg base CX k f fd ps sp':=
 ⟨λvs H Q E q=>F.len vs H Q E<|h _ _ _ _ q,λA outer s H args us vs Q E hr he hb hv hs=>F.run A outer s H args us vs Q E hr he hb hv<|h _ _ _ _ hs⟩
def Env0.make{P w K mg base A outer s H}(e:Env0 P w K mg base A outer s H)(C)(us)(kw):
 Env0 P w K mg base (A.under<|.builtin "type.__call__" ⟨.ref C::us,kw⟩) outer s H:=⟨by first|exact e.frames|(simpa[Around.under,Code.envs,Code.isFrame,pushEnvs]using e.frames),e.mod,e.bs,e.bsz,e.funs,e.frf,e.hok,e.bare⟩
section
variable{X:Cx}{pins:List (Addr×Obj)}{σ:St}{H:Hp}{s s':Shared}
def Inv.env0(I:Inv X pins σ H s):Env0 X.prog X.w X.K X.mg X.base X.A X.stack s H:=
 ⟨I.ok.frames,I.ok.mod,I.bs,zzO I.ok.bsz I.sz,I.stack,I.stkFree,I.hok,I.bare⟩
def Inv.after(I:Inv X pins σ H s)(h:CE X.stack X.prog X.w H s Q u s'):EP X pins σ Q u s':=by
 obtain⟨v,H',os,bare,un,hok,r,q⟩:=h;obtain⟨hh,g,d,t,os'⟩:=s';obtain rfl:os'=s.os:=os;exact⟨v,H',I.call (h':=hh) (g':=g) (d':=d) (t':=t) un hok bare (λb z=>absurd z<|by simp),r,q⟩
end
def su(sp:Sp)(dvs:List V)(E:XK)(t:TA):TE:=λσ H Q=>t σ H λvs H1=>sp (vs++dvs) H1 Q E
def rH(C:Addr)(sp:Sp)(dvs:List V)(E:XK)(t:TA):TE:=λσ H Q=>t σ H λvs H1=>∀x dx,H1 x=none->H1 dx=none->dx≠x->
 sp (.ref x::(vs++dvs)) (upd (upd H1 dx<|.own x) x<|.ins C dx []) (λv H2=>v = .non/\Q (.ref x) H2) E
def Binds(K:zzA)(fd:FuncData)(ps:List Str)(ds:List Value):Prop:=
 ∀(s:Shared) (us:List Value),K.In s.heap->(us++ds).length=ps.length->BindsTo s fd ⟨us,[]⟩ (ps.zip<|us++ds)
def Binds.all{K fd ps}(h:∀us:List Value,us.length=ps.length->bindArgs fd ⟨us,[]⟩=pure (ps.zip us)):Binds K fd ps []:=λs us _ hl=>by
 rw[zyE]at hl ⊢;exact .of_eq<|h us hl
def Zc(CX:rf)(X:Cx)(E:XK):Prop:=∀(pins:List (Addr×Obj)) (σ:St) (H:Hp) (s:Shared) (e:Value) (s':Shared),Inv X pins σ H s->CX X.stack H s E e s'->X.xe e s'
section
variable{X:Cx}{CX:rf}{k:Nat}{f C:Addr}{fd:FuncData}{ps:List Str}{sp:Sp}{dvs:List V}{ds:List Value}{E:XK}{x m:Str}{p pos apos:Pos}{e o:Expr}{es:List Expr}{ta:TE}{t:TA}
def JP(F:FnOk X.prog X.w X.K X.mg X.base CX k f fd ps sp)(hr:Room k X.A)(hb:Binds X.K fd ps ds)(hd:zP dvs ds)(hx:Zc CX X E)
 (I:Inv X pins σ H s) (r:zP vs us) (h:sp (vs++dvs) H Q E):wpAny (model X.prog X.w) X.A (call (.ref f) us) (EP X pins σ Q) X.xe s:=by
 have r2:=r.append hd;have hl:(us++ds).length=ps.length:=by rw[<-r2.length];exact F.len _ _ _ _ h
 refine wpAny_call<|codeAny_mono (F.run X.A X.stack s H ⟨us,[]⟩ _ _ Q E hr I.env0 (hb s us I.kIn hl) r2 h) λr s' hq=>?_;cases r with
 |error e=>exact hx pins σ H s e s' I hq
 |ok fl=>
  cases fl with
  |ret u=>exact I.after hq
  |next=>exact False.elim hq
  |brk=>exact False.elim hq
  |cont=>exact False.elim hq
def Om(F:FnOk X.prog X.w X.K X.mg X.base CX k f fd ps sp)(hr:Room k X.A)(hg:Gl X x)(hm:X.mg x=some (.ref f))(hk:W.keepIn X.K (.ref f)=true)(hb:Binds X.K fd ps ds)(hd:zP dvs ds)(hx:Zc CX X E)
 (ha:PA X (e::es) t) (hdb:(x==("__debug__":Str))=false:=by decide) (he:starEach (e::es) X.env=(false,eval e X.env)::starEach es X.env:=by rfl) (hpl:(backTo pos<|starEach es X.env).any (·.1)=false:=by rfl):
 PE X (.Call (.Name x p) (e::es) [] pos) (su sp dvs E t):=by
 intro pins s σ H Q I h;refine wpAny_Call_Name_kw<|MP I hg hm ?_ hdb;refine W.callWith_K I.ok.mod.kin hk (wC (ha pos pins s σ H _ I h) λus s1 ⟨vs,H1,I1,r,q⟩=>⟨I1.kIn, ?_⟩) he hpl;exact JP F hr hb hd hx I1 r q
structure Mk(K:zzA)(C f:Addr):Prop where
 makes:W.makesIn K C=true
 init:W.findIn K (.ref C) "__init__"=some (some<|.ref f)
 fn:W.isFn K (.ref f)=true
 kp:W.keepIn K (.ref C)=true
def Aa(M:Mk X.K C f)(F:FnOk X.prog X.w X.K X.mg X.base CX k f fd ps sp)(hr:Room (k+1) X.A)(hb:Binds X.K fd ps ds)(hd:zP dvs ds)
 (hx:Zc CX X E) (I:Inv X pins σ H s) (r:zP vs us)
 (h:∀x dx,H x=none->H dx=none->dx≠x->sp (.ref x::(vs++dvs)) (upd (upd H dx<|.own x) x<|.ins C dx []) (λv H2=>v = .non/\Q (.ref x) H2) E):
 wpAny (model X.prog X.w) X.A (call (.ref C) us) (EP X pins σ Q) X.xe s:=by
 have hq:=h _ s.heap.objs.size (I.hok.fresh<|zyW _) (I.hok.fresh<|zzN _)<|zzQ<|Nat.lt_succ_self _;have I2:=Inv.made (C:=C) I;have r2:zP (V.ref (s.heap.objs.size+1)::_) _:=.cons rfl<|r.append hd;have hl:(Value.ref (s.heap.objs.size+1)::us++ds).length=ps.length:=by
  have e:=r2.length;rw[F.len _ _ _ _ hq]at e;exact e.symm
 refine wpAny_call<|IS I.kIn M.makes M.init (beq_iff_eq.mp M.fn)<|codeAny_mono (F.run _ X.stack _ _ ⟨Value.ref _::us,[]⟩ _ _ _ E (hr.make C us [])
  (I2.env0.make C us []) (hb _ _ I2.kIn hl) r2 hq) λr s' hq'=>?_
 cases r with
 |error e=>exact hx pins σ _ _ e s' I2 hq'
 |ok fl=>
  cases fl with
  |ret u=>
   obtain⟨v,H',I3,rv,ev,q3⟩:=I2.after hq';subst ev;exact⟨rv,⟨V.ref _,H',I3,rfl,q3⟩⟩
  |next=>exact False.elim hq'
  |brk=>exact False.elim hq'
  |cont=>exact False.elim hq'
def uO(M:Mk X.K C f)(F:FnOk X.prog X.w X.K X.mg X.base CX k f fd ps sp)(hr:Room (k+1) X.A)(hg:Gl X x)(hm:X.mg x=some (.ref C))(hb:Binds X.K fd ps ds)(hd:zP dvs ds)(hx:Zc CX X E)
 (ha:PA X (e::es) t) (hdb:(x==("__debug__":Str))=false:=by decide) (he:starEach (e::es) X.env=(false,eval e X.env)::starEach es X.env:=by rfl) (hpl:(backTo pos<|starEach es X.env).any (·.1)=false:=by rfl):
 PE X (.Call (.Name x p) (e::es) [] pos) (rH C sp dvs E t):=by
 intro pins s σ H Q I h;refine wpAny_Call_Name_kw<|MP I hg hm ?_ hdb;refine W.callWith_K I.ok.mod.kin M.kp (wC (ha pos pins s σ H _ I h) λus s1 ⟨vs,H1,I1,r,q⟩=>⟨I1.kIn, ?_⟩) he hpl;exact Aa M F hr hb hd hx I1 r q
end
section
variable{X:Cx}{CX:rf}{k:Nat}{f C:Addr}{fd:FuncData}{ps ks:List Str}{sp:Sp}{E:XK}{x m:Str}{p pos apos kpos:Pos}{e o:Expr}{es:List Expr}{kws:List Keyword}{te ta:TE}{t tk:TA}{nm:Option Str}
structure KBinds(K:zzA)(fd:FuncData)(ps ks:List Str)(g:List Value->List Value->List Value)(gV:List V->List V->List V):Prop where
 to:∀(s:Shared) (us ws:List Value),K.In s.heap->(g us ws).length=ps.length->BindsTo s fd ⟨us,ks.zip ws⟩ (ps.zip<|g us ws)
 rel:∀{vs:List V}{us:List Value}{zs:List V}{ws:List Value},zP vs us->zP zs ws->zP (gV vs zs) (g us ws)
variable{g:List Value->List Value->List Value}{gV:List V->List V->List V}
end
structure FnScope(N P:List Str)(sc:Scope):Prop where
 kind:sc.kind = .function
 co:sc.isCoroutine=false
 gen:sc.isGenerator=false
 nd:N.Nodup
 pre:N.take P.length=P
 par:∀x ∈ P,sc.names.lookup x=some .local\/sc.names.lookup x=some .cell
 nofree:∀y ∈ sc.names,y.2 ≠ .free
theorem Mc{kindOf x}:∀{binds:List (Str×Value)}{m:Str->Option Value},(∀v,(x,v) ∉ binds)->bindL kindOf binds m x=m x
 | [],_,_=>rfl
 |(n,v)::r,m,h=>by
  unfold bindL;rw[Mc λw hw=>h w<|zzD _ hw]
  split
  . have:x≠n:=by rintro rfl;exact h v zzF
    simp[this]
  . rfl
theorem MB{kindOf x}:∀{binds:List (Str×Value)}{m:Str->Option Value},(∀v,(x,v) ∉ binds)->bindC kindOf binds m x=m x
 | [],_,_=>rfl
 |(n,v)::r,m,h=>by
  unfold bindC;rw[MB λw hw=>h w<|zzD _ hw]
  split
  . rfl
  . have:x≠n:=by rintro rfl;exact h v zzF
    simp[this]
theorem N9{kindOf x v}:∀{P:List Str}{vs:List Value}{i:Nat}{m:Str->Option Value},P.Nodup->P[i]? = some x->vs[i]? = some v->kindOf x=some .local->
 bindL kindOf (P.zip vs) m x=some v
 | [],_,_,_,_,h,_,_=>by simp at h
 |_::_,[],_,_,_,_,h,_=>by simp at h
 |p::P,w::vs,0,m,nd,h1,h2,hk=>by
  simp at h1 h2;subst h1;subst h2;show bindL kindOf (_::P.zip vs) m p=_;unfold bindL;rw[Mc λv hv=>(zzW.mp nd).1 (List.of_mem_zip hv).1,if_pos hk];simp
 |p::P,w::vs,i+1,m,nd,h1,h2,hk=>by
  unfold bindL;exact N9 (zzW.mp nd).2 (by simpa using h1) (by simpa using h2) hk
theorem NM{kindOf x v}:∀{P:List Str}{vs:List Value}{i:Nat}{m:Str->Option Value},P.Nodup->P[i]? = some x->vs[i]? = some v->kindOf x≠some .local->
 bindC kindOf (P.zip vs) m x=some v
 | [],_,_,_,_,h,_,_=>by simp at h
 |_::_,[],_,_,_,_,h,_=>by simp at h
 |p::P,w::vs,0,m,nd,h1,h2,hk=>by
  simp at h1 h2;subst h1;subst h2;show bindC kindOf (_::P.zip vs) m p=_;unfold bindC;rw[MB λv hv=>(zzW.mp nd).1 (List.of_mem_zip hv).1,if_neg hk];simp
 |p::P,w::vs,i+1,m,nd,h1,h2,hk=>by
  unfold bindC;exact NM (zzW.mp nd).2 (by simpa using h1) (by simpa using h2) hk
noncomputable def start(N:List Str)(vs:List V):St:=vs.map some++List.replicate (N.length-vs.length) none
noncomputable def LM(CX:rf)(P:Program)(w:World)(K:zzA)(mg:Str->Option Value)(base:Heap)(N:List Str)(qual:Str)(scope:Scope)(f:Addr)(cd:Value)(A:Around)(outer:List Env)(s:Shared)(H:Hp)(E:XK):Cx where
 prog:=P
 w:=w
 K:=K
 mg:=mg
 base:=base
 A:=A.deeper (envOfC qual scope s.heap.objs.size f cd)
 N:=N
 s₀:=s
 H₀:=H
 env:=envOfC qual scope s.heap.objs.size f cd
 outer:=outer
 stack:=envOfC qual scope s.heap.objs.size f cd::outer
 ex:=[]
 calm:=true
 fn:=λ_=>true
 pn:=[]
 xe:=λe s'=>wpAny (model P w) (A.deeper<|envOfC qual scope s.heap.objs.size f cd) (leaving (envOfC qual scope s.heap.objs.size f cd) e) (λ_ s''=>CX outer H s E e s'') (λe' s''=>CX outer H s E e' s'') s'
def BF{sc:Scope}{n:Nat}{x}(h:sc.names.lookup x=some .cell):∃c,(cellsFrom n sc.names []).lookup x=some c:=by
 have q:=W.cellsFrom_some sc.names n []<|.inl h;exact Option.isSome_iff_exists.mp q
def CA{CX P w K mg base N ps qual scope f cd A outer s s1 H E us vs}
 (S:FnScope N ps scope) (hd:A.handled=none) (e0:Env0 P w K mg base A outer s H) (hl:vs.length=ps.length) (r:zP vs us)
 (x:InCallC s s.heap.objs.size (bindL (envOfC qual scope s.heap.objs.size f cd).kindOf (ps.zip us) λ_=>none) (cellsFrom (s.heap.objs.size+1) scope.names []) (bindC (envOfC qual scope s.heap.objs.size f cd).kindOf (ps.zip us) λ_=>none) s1):
 Inv (LM CX P w K mg base N qual scope f cd A outer s H E) [] (start N vs) H s1:=by
 have hpl:ps.length<=N.length:=by have:=congrArg List.length S.pre;rw[zzS]at this;omega
 obtain⟨h1,tk,rfl,hk⟩:=x.done;have noA:∀b:Addr,b ∉ (LM CX P w K mg base N qual scope f cd A outer s H E).ex:=λb z=>absurd (show b ∈ ([]:List Addr)from z) (by simp);refine⟨⟨e0.mod,S.kind,rfl,rfl,zzN _,λy z c h1 h2=>?_,λy hy=>?_,λy c _ h=>?_,λ_=>hd,Around.frames_deeper e0.frames,.inr ⟨rfl,rfl⟩,λb z=>absurd z<|noA b,e0.bs,e0.bsz,λb _ _=>noA b,λb z=>absurd z<|noA b,e0.funs,e0.frf⟩,
  rfl,e0.bare,Un.kept hk,⟨_,x.toInCall.ns,λi y v h1 h2 h3=>?_⟩,λy c h=>⟨_,x.cell y c h⟩,e0.hok.fresh<|zzN _,λy c h=>?_,λp hp=>absurd (show p ∈ ([]:List _)from hp) (by simp),e0.hok.kept hk, ?_⟩
 . exact name_of_addr x.apart (PySem.mem_of_lookup h1)<|PySem.mem_of_lookup h2
 . have hy:=hy
   rcases hy with hy|hy
   . exact BF hy
   . exact absurd rfl<|S.nofree _<|PySem.mem_of_lookup hy
 . exact Nat.le_of_lt<|x.above y c<|PySem.mem_of_lookup h
 . have hi:i<vs.length:=by
    unfold start at h2
    by_cases hi:i<vs.length
    . exact hi
    . rw[zyR<|by simpa using hi]at h2;rw[List.getElem?_replicate]at h2
      split at h2<;>cases h2
   have ha:vs[i]? = some v:=by
    unfold start at h2;rw[zyP (by simpa using hi),zzI]at h2;cases e:vs[i]? with
    |none=>rw[e]at h2;cases h2
    |some a=>rw[e]at h2;cases h2;rfl
   obtain⟨u,hu,rv⟩:=r.get ha;have hp:ps[i]? = some y:=by
    rw[<-S.pre,List.getElem?_take_of_lt<|q0T hi hl];exact h1
   have ndP:ps.Nodup:=by rw[<-S.pre];exact S.nd.sublist<|List.take_sublist _ _
   refine⟨u,rv, ?_⟩
   rcases S.par y (zyA hp)with k|k
   . exact .inl ⟨k,N9 ndP hp hu k⟩
   . obtain⟨c,e⟩:=BF k;refine .inr ⟨.inl k,c,e, ?_⟩;have q:=x.cell y c e;rw[NM ndP hp hu (by show scope.names.lookup y≠_;rw[k];decide)]at q;exact q
 . exact e0.hok.fresh<|Nat.le_of_lt<|x.above y c<|PySem.mem_of_lookup h
 . unfold start;show _=N.length;rw[zzJ,zzB,List.length_replicate];omega
def lE{CX P w K mg base}{k:Nat}{f name qual params body scope dV kV doc pm cdv ct oc an od}
 {osl N ps sp}(lk:K.lookup f=some ⟨oc,od,.func<|W.fnOf name qual params body scope dV kV doc pm an cdv ct,osl⟩) (hcd:W.codeIn K cdv qual=true) (S:FnScope N ps scope)
 (len:∀vs H Q E,sp vs H Q E->vs.length=ps.length)
 (hbody:∀(A:Around) (outer:List Env) (s:Shared) (H:Hp) (vs:List V) (Q:VK) (E:XK),Room k (A.deeper<|envOfC qual scope s.heap.objs.size f cdv)->sp vs H Q E->
  ∃t,M_ (LM CX P w K mg base N qual scope f cdv A outer s H E) body t/\t {nx:=λ_ H'=>Q .non H',rt:=Q} (start N vs) H):
 FnOk P w K mg base CX (k+1) f (W.fnOf name qual params body scope dV kV doc pm an cdv ct) ps sp:=by
 refine⟨len,λA outer s H args us vs Q E hr e0 hb r hsp=>?_⟩;have hl:=len _ _ _ _ hsp;have KX:=e0.mod.kin.keeps λb o e=>(e0.bs b o e).1;have lim:=e0.mod.nolimit.keeps λb o e=>(e0.bs b o e).1;have hkind:∀y ∈ ps.zip us,scope.names.lookup y.1=some .local\/(scope.names.lookup y.1=some .cell/\((cellsFrom (s.heap.objs.size+1) scope.names []).lookup y.1).isSome=true):=λ⟨n,v⟩ hy=>by
  rcases S.par n (List.of_mem_zip hy).1 with q|q
  . exact .inl q
  . exact .inr ⟨q,W.cellsFrom_some _ _ _<|.inl q⟩
 refine codeAny_call_function hr.depth (KX _ _ lk) rfl S.co S.gen rfl (W.codeRec_of KX hcd)<|hb _ _ _ _ ?_;refine wpAny_newFunctionEnv_cells S.kind hkind λenv he s1 x=>?_;subst he;refine⟨lim.keeps x.toInCall.keep,codeAny_func ?_⟩;obtain⟨t,ht,hq⟩:=hbody A outer s H vs Q E (hr.deeper _) hsp;have I:Inv (LM CX P w K mg base N qual scope f cdv A outer s H E) [] _ H s1:=CA S hr.hd e0 hl r x;refine zxM (ht [] s1 _ H _ I hq) (λfl s' hs=>?_) λe s' hs=>hs;have fin:∀{σ':St}{H':Hp}{v:V}{u:Value},Inv (LM CX P w K mg base N qual scope f cdv A outer s H E) [] σ' H' s'->RelV v u->Q v H'->CE outer P w H s Q u s':=
  λ{σ' H' v u} J rv q=>⟨v,H',J.os,J.bare,J.base,J.hok,rv,q⟩
 cases fl with
 |ret u=>
  obtain⟨v,σ',H',J,rv,q⟩:=hs;exact fin J rv q
 |next=>
  obtain⟨σ',H',J,q⟩:=hs;exact fin (v:=V.non) J rfl q
 |brk=>
  obtain⟨_,_,_,q⟩:=hs;exact False.elim q
 |cont=>
  obtain⟨_,_,_,q⟩:=hs;exact False.elim q
end L2
namespace L2
open PySem PySem.Spec PyProof.Rows
section
variable{X:Cx}{x:Str}{p pos:Pos}{e:Expr}{es:List Expr}{t:TA}{id T:String}{r:List V->Hp->VK->Prop}
def eJ(r:List V->Hp->VK->Prop)(t:TA):TE:=λσ H Q=>t σ H λvs H1=>r vs H1 Q
def Lp(hc:XW X (.builtin id) r)(hg:Gl X x)(hm:X.mg x=none)(hv:bootBuiltins x=some (.builtin id))(ha:PA X (e::es) t)(hn:x≠"__name__":=by decide)(hdb:(x==("__debug__":Str))=false:=by decide)
 (he:starEach (e::es) X.env=(false,eval e X.env)::starEach es X.env:=by rfl) (hpl:(backTo pos<|starEach es X.env).any (·.1)=false:=by rfl):PE X (.Call (.Name x p) (e::es) [] pos) (eJ r t):=by
 intro pins s σ H Q I h;refine wpAny_Call_Name_kw<|Uu I hg hm hv ?_ hn hdb;exact PyProof.Rows.callWith_builtin1 (wC (ha pos pins s σ H _ I h) λus s1 ⟨vs,H1,I1,r1,q1⟩=>hc pins s1 σ H1 vs us Q I1 r1 q1) he hpl
def Cd(hc:XW X (.type T) r)(hg:Gl X x)(hm:X.mg x=none)(hv:bootBuiltins x=some (.type T))(ha:PA X (e::es) t)(hn:x≠"__name__":=by decide)(hdb:(x==("__debug__":Str))=false:=by decide)
 (he:starEach (e::es) X.env=(false,eval e X.env)::starEach es X.env:=by rfl) (hpl:(backTo pos<|starEach es X.env).any (·.1)=false:=by rfl):PE X (.Call (.Name x p) (e::es) [] pos) (eJ r t):=by
 intro pins s σ H Q I h;refine wpAny_Call_Name_kw<|Uu I hg hm hv ?_ hn hdb;exact PyProof.Rows.callWith_type1 (wC (ha pos pins s σ H _ I h) λus s1 ⟨vs,H1,I1,r1,q1⟩=>hc pins s1 σ H1 vs us Q I1 r1 q1) he hpl
end
end L2
namespace L2
open PySem PySem.Spec PyProof.Rows
section
variable{κ:Type}[DecidableEq κ]
noncomputable def PH(kvs:List (κ×V))(k:κ):Option V:=(kvs.find? λkv=>decide (kv.1=k)).map (·.2)
def A6{p r}{k:κ}(e:p.1=k):PH (p::r) k=some p.2:=by simp[PH,List.find?_cons,e]
def Ie{p r}{k:κ}(e:¬p.1=k):PH (p::r) k=PH r k:=by simp[PH,List.find?_cons,e]
def RB.isSome_eq(r:RB o u):o.isSome=u.isSome:=by
 cases o with
 |none=>cases u with
  |none=>rfl
  |some _=>exact(r).elim
 |some _=>cases u with
  |none=>exact(r).elim
  |some _=>rfl
def KV.val{kvs vs}(r:KV kvs vs)(k:κ):RB (PH kvs k) (valueAt vs k):=by
 unfold KV at r
 induction r with
 |nil=>exact True.intro
 | @cons p q ps qs h t ih=>
  obtain⟨h1,h2⟩:=h
  by_cases e:p.1=k
  . have e':q.1=k:=h1.symm.trans e;have b:valueAt (q::qs) k=some q.2:=by simp[valueAt,List.find?_cons,e']
    rw[A6 e,b];exact h2
  . have e':¬q.1=k:=λz=>e<|h1.trans z;have b:valueAt (q::qs) k=valueAt qs k:=by simp[valueAt,List.find?_cons,e']
    rw[Ie e,b];exact ih
theorem KV.length(r:KV kvs vs):kvs.length=vs.length:=Paired.length r
end
def HJ(r:RelV (kV k) u):(x6 P w).is k u=true:=by
 cases k with
 |inl i=>obtain⟨t,e⟩:=(r);subst e;exact Bw P w i t
 |inr x=>obtain⟨t,e⟩:=(r);subst e;exact VW P w x t
section
variable{P:Program}{w:World}{H:Hp}{h:Heap}{a:Addr}
def lF(ok:TM P w H h)(e:Rd H a u):v_ P w H h a u:=e.ok ok
def m9(ok:TM P w H h)(e:Rd H a (.dK kvs)):kvs.length<=sizeLine/\(a==sysModules)=false/\∃vs,KV kvs vs/\h.DictOf (x6 P w) a vs:=
 show v_ P w H h a _ from lF ok e
end
section
variable{X:Cx}{pins:List (Addr×Obj)}{σ:St}{H:Hp}{s:Shared}{a:Addr}{y v:V}{u r:Value}{o:Option V}{A:Around}{E:Value->Shared->Prop}
def Inv.big(I:Inv X pins σ H s):sysModules<s.heap.objs.size:=by
 have h:=(I.mod.glob.keeps I.bk).lt;exact Nat.lt_trans (by decide) h
def J7(z:kvs.length<=sizeLine)(hd:(a==sysModules)=false)(rel:KV kvs vs)(dd:h'.DictOf (x6 P w) a vs):
 v_ P w H' h' a (.dK kvs):=⟨z,hd,vs,rel,dd⟩
end
structure M1(X:Cx)(o:Expr)(m:Str)(apos:Pos)(e:Expr)(cpos:Pos):Prop where
 base:attributeBase o m X.env (eval o X.env)=eval o X.env
 few:((backTo cpos<|starEach [e] X.env).all (λx=>!x.1)&&(backToKw cpos<|keywordEach [] X.env).all (λx=>x.1.isSome)
  && decide (([e]:List Expr).length+([]:List Keyword).length+(if([]:List Keyword).isEmpty then 0 else 1)<30))=true
 line:(apos.endLine==cpos.line)=true
 trees:backTo cpos (starEach [e] X.env)=[(false,eval e X.env)]
structure M2(X:Cx)(o:Expr)(m:Str)(apos:Pos)(e f:Expr)(cpos:Pos):Prop where
 base:attributeBase o m X.env (eval o X.env)=eval o X.env
 few:((backTo cpos<|starEach [e,f] X.env).all (λx=>!x.1)&&(backToKw cpos<|keywordEach [] X.env).all (λx=>x.1.isSome)
  && decide (([e,f]:List Expr).length+([]:List Keyword).length+(if([]:List Keyword).isEmpty then 0 else 1)<30))=true
 line:(apos.endLine==cpos.line)=true
 trees:backTo cpos (starEach [e,f] X.env)=[(false,eval e X.env),(false,eval f X.env)]
end L2
namespace HT
open PySem PyProof.Rows
section
variable{prog:Program}{w:World}{A:Around}{E:Value->Shared->Prop}{s:Shared}
def uJ(ht:IsTup s.heap t vs.toArray)(hb:IsTup s.heap b ws.toArray)(hv:vs≠[])
 (h1:ws=[]->Q (.ref t) s) (h2:ws≠[]->Q (.ref s.heap.objs.size) {s with heap:=s.heap.push {cls:=.type "tuple",data:=.seq (vs++ws).toArray}})
 (hsz:vs.length+ws.length<=sizeLine):wpAny (model prog w) A (binaryOp .Add (.ref t)<|.ref b) Q E s:=by
 obtain⟨⟨cls,dd,data,sl⟩,ho,hc,n,hd⟩:=id ht;obtain⟨⟨cls2,dd2,data2,sl2⟩,ho2,hc2,n2,hd2⟩:=id hb;simp only at hc hd hc2 hd2;subst hc hd hc2 hd2;have e:vs.toArray++ws.toArray=(vs++ws).toArray:=by simp
 by_cases hw:ws=[]
 . exact concat_meets ⟨_,ho,rfl⟩ ⟨_,ho2,rfl⟩ noFill_tuple_add seq_tuple_add PySem.F.slot_tuple_add PySem.F.entry_tuple_add (PySem.F.args_tuple_add_2 _ _)
    (tuple_addW1 t b vs.toArray ws.toArray n n2 dd dd2 sl sl2 (by simpa using hv)<|by simp[hw]) ⟨ho,ho2,h1 hw⟩
 . refine concat_meets ⟨_,ho,rfl⟩ ⟨_,ho2,rfl⟩ noFill_tuple_add seq_tuple_add PySem.F.slot_tuple_add PySem.F.entry_tuple_add (PySem.F.args_tuple_add_2 _ _)
    (tuple_addW2 t b vs.toArray ws.toArray n n2 dd dd2 sl sl2 (by simpa using hv) (by simpa using hw)<|by rw[zzH,zzH];exact hsz) ⟨ho,ho2, ?_⟩
   rw[e];exact h2 hw
noncomputable def sIx(n d:Nat):Option Int->Nat
 |none=>d
 |some v=>if v<0 then(v+(n:Int)).toNat else min v.toNat n
def K0(n d:Nat):sIx n d none=d:=rfl
def WB(n d k:Nat):sIx n d (some (k:Int))=min k n:=by
 show(if(k:Int)<0 then((k:Int)+(n:Int)).toNat else min (k:Int).toNat n)=_;rw[if_neg (by omega),zyI]
def nt(n d:Nat)(hd:d<=n)(o):sIx n d o<=n:=by
 cases o with
 |none=>exact hd
 |some v=>
  show(if v<0 then(v+_).toNat else min v.toNat n)<=n
  by_cases hv:v<0
  . rw[if_pos hv];omega
  . rw[if_neg hv];exact Nat.min_le_right _ _
def HH(v)(n d:Nat):(if v<0 then max (v+(n:Int)) 0 else min v (n:Int))=((sIx n d (some v):Nat):Int):=by
 show _=(((if v<0 then(v+_).toNat else min v.toNat n):Nat):Int)
 by_cases hv:v<0
 . simp only[if_pos hv];omega
 . simp only[if_neg hv];omega
def SW(lo hi)(n:Nat):Builtin.Slice.sliceAdjust lo hi 1 (n:Int)=(((sIx n 0 lo:Nat):Int),((sIx n n hi:Nat):Int)):=by
 have h1:¬((1:Int)<0):=by omega
 unfold Builtin.Slice.sliceAdjust;simp only[h1,if_false];refine Prod.ext ?_ ?_
 . cases lo with
   |none=>rfl
   |some v=>exact HH v n 0
 . cases hi with
   |none=>rfl
   |some v=>exact HH v n n
def Hh(i j:Nat):Builtin.Slice.slicePlaces (i:Int) (j:Int) 1=j-i:=by
 unfold Builtin.Slice.slicePlaces;have h1:(1:Int) > 0:=by omega
 simp only[h1,if_true,Int.ediv_one]
 split<;>omega
def G3(p:IsPart v o)(h:Q o s):wpAny (model prog w) A (Builtin.Slice.slicePartIndex v) Q E s:=by
 cases p with
 |none=>exact slicePart_none h
 |int i t=>exact slicePart_int h
def Pk{sl vl vu lo hi}{n:Nat}{Q}(hs:s.heap.IsSliceOf sl vl vu .none)(pl:IsPart vl lo)(pu:IsPart vu hi)
 (h:Q (((sIx n 0 lo:Nat):Int),1,sIx n n hi-sIx n 0 lo) s):wpAny (model prog w) A (Builtin.Slice.sliceApplied (.ref sl)<|pure (n:Int)) Q E s:=by
 obtain⟨os,hos,hcs,hds⟩:=id hs;unfold Builtin.Slice.sliceApplied Builtin.Slice.sliceFields;refine zxF<|zxF<|wpAny_field hos hds rfl<|zxF<|wpAny_field hos hds rfl<|zxF<|wpAny_field hos hds rfl<|zxG ?_;refine zxF<|slicePart_none ?_;rw[if_neg<|by decide];refine zxF<|G3 pl<|zxF<|G3 pu<|zxF<|zxG ?_;show wpAny _ _ (match Builtin.Slice.sliceAdjust lo hi 1 _ with|(lo,hi)=>pure (lo,_,Builtin.Slice.slicePlaces lo hi 1)) _ _ s;rw[SW lo hi n];show wpAny _ _ (pure _) _ _ s;rw[Hh];exact zxG h
def JA(xs:Array Value)(i k:Nat):((List.range k).filterMap λ(m:Nat)=>xs[((i:Int)+(m:Int)*1).toNat]?).toArray=((xs.toList.drop i).take k).toArray:=by
 have e:(λ(m:Nat)=>xs[((i:Int)+(m:Int)*1).toNat]?)=λm=>xs[i+m]? := by
  funext m;have:(i+(m:Int)*1).toNat=i+m:=by omega
  rw[this]
 rw[e];have:=pick_run xs i k;rw[List.filterMap_map]at this;have e2:((λx=>xs[x]?)∘λx=>i+x)=λm=>xs[i+m]? := rfl;rw[e2]at this;rw[this]
def Rx{t sl items vl vu lo hi Q}(ht:IsTup s.heap t items)(hs:s.heap.IsSliceOf sl vl vu .none)(pl:IsPart vl lo)(pu:IsPart vu hi)
 (hw:¬(sIx items.size 0 lo=0/\sIx items.size items.size hi=items.size))
 (h:Q (.ref s.heap.objs.size) {s with heap:=s.heap.push {cls:=.type "tuple",data:=.seq ((items.toList.drop<|sIx items.size 0 lo).take<|sIx items.size items.size hi-sIx items.size 0 lo).toArray}})
 (hsz:items.size<=sizeLine):wpAny (model prog w) A (getItem (.ref t)<|.ref sl) Q E s:=by
 have htake:sizeOk (.seq ((items.toList.drop<|sIx items.size 0 lo).take<|sIx items.size items.size hi-sIx items.size 0 lo).toArray):=by
  show((items.toList.drop _).take _).toArray.size<=sizeLine;rw[zzH,zzS,List.length_drop,zyT];omega
 have hj:sIx items.size items.size hi<=items.size:=nt _ _ (zzN _) hi;obtain⟨os,hos,hcs,hds⟩:=id hs;have hTs:s.TypeIs (.ref sl) "slice":=⟨os,hos,hcs⟩;unfold getItem
 try with_reducible refine zxK ?_
 first|refine zxF (zxG ?_)|skip
 refine zxF<|wpAny_sequenceKey ht.typeIs (by decide) ?_;refine zxF<|wpAny_callSpecial?_slot ht.typeIs PyProof.Rows.slot_tuple_getitem
  (zxN PyProof.Rows.slot_tuple_getitem ht.typeIs entry_tuple_getitem ?_<|args_tuple_getitem _ _)
 show wpAny _ _ (Builtin.Tuple.tupleItemsOf (.ref t) >>= _) _ _ s;refine zxF<|tupleItemsOf_ ht ?_;refine zxF<|wpAny_typeOf hTs ?_;rw[if_pos<|by decide];refine zxF<|Pk hs pl pu ?_;have hno:¬((((sIx items.size 0 lo:Nat):Int)==0&&(1:Int)==1&&(sIx items.size items.size hi-sIx items.size 0 lo)==items.size)=true):=by
  intro q;rw[zyC,zyC]at q;have q1:=eq_of_beq q.1.1;have q2:=eq_of_beq q.2;exact hw ⟨by omega,by omega⟩
 show wpAny _ _ (if _=true then _ else _) _ _ s;rw[if_neg hno,JA]
 first
  |exact zxF (wpAny_newObj_type (zxG ⟨_,rfl,zxG h⟩) htake)
  |exact zxF _
  |exact zxF _
  |exact zxF _
end
end HT
namespace L2
open PySem PySem.Spec PyProof.Rows
abbrev TO:=St->Hp->(Option Int->Hp->Prop)->Prop
def PO(X:Cx)(e:Option Expr)(t:TO):Prop:=
 ∀(pins:List (Addr×Obj)) (s:Shared) (σ:St) (H:Hp) (Q:Option Int->Hp->Prop),Inv X pins σ H s->t σ H Q->
  wpAny (model X.prog X.w) X.A (evalPart e X.env) (λu s'=>∃o H',Inv X pins σ H' s'/\IsPart u o/\Q o H') X.xe s
def Oq:TO:=λ_ H Q=>Q none H
def jk(t:TE):TO:=λσ H Q=>t σ H λx H1=>∃i,x = .int i/\Q (some i) H1
def intsAre_of:∀{us:List Value},zP (ns.map V.int) us->IntsAre us ns:=by
 induction ns with
 |nil=>intro us r;rw[List.map_nil]at r;cases r;exact .nil
 |cons n ns ih=>
  intro us r;rw[zyS]at r;cases r with
  |cons r1 r2=>
   obtain⟨t,e⟩:=r1;subst e;exact .cons n t<|ih r2
section
variable{X:Cx}{e:Expr}{te:TE}{lo hi:Option Expr}{tl th:TO}{pos p2:Pos}
def t9:PO X none Oq:=by
 intro pins s σ H Q I h;rw[evalPart_none];exact zxG ⟨none,H,I,.none,h⟩
def uE(h:PE X e te):PO X (some e) (jk te):=by
 intro pins s σ H Q I hw;rw[evalPart_some];refine wC (h pins s σ H _ I hw) λu s1 ⟨x,H1,I1,r1,q1⟩=>?_;obtain⟨i,rfl,q⟩:=q1;obtain⟨t,rfl⟩:=r1;exact⟨some i,H1,I1,.int i t,q⟩
def jT(X:Cx)(r:V->Option Int->Option Int->Hp->VK->Prop):Prop:=
 ∀(pins:List (Addr×Obj)) (s:Shared) (σ:St) (H:Hp) (x:V) (v vl vu:Value) (lo hi:Option Int) (sl:Addr) (Q:VK),Inv X pins σ H s->RelV x v->s.heap.IsSliceOf sl vl vu .none->IsPart vl lo->IsPart vu hi->r x lo hi H Q->
  ∃T id,typeLookup (.type T) "__getitem__"=pure (some<|.builtin id)/\s.TypeIs v T/\wpAny (model X.prog X.w) X.A (getItem v<|.ref sl) (EP X pins σ Q) X.xe s
def eH(r:V->Option Int->Option Int->Hp->VK->Prop)(te:TE)(tl th:TO):TE:=λσ H Q=>te σ H λx H1=>tl σ H1 λl H2=>th σ H2 λu H3=>r x l u H3 Q
def JY(hr:jT X r)(he:PE X e te)(hl:PO X lo tl)(hu:PO X hi th):PE X (.Subscript e (.Slice lo hi none p2) pos) (eH r te tl th):=by
 intro pins s σ H Q I h;refine Subscript_<|wC (he pins s σ H _ I h) λv s1 ⟨x,H1,I1,r1,q1⟩=>?_;refine wpAny_Slice<|wC (hl pins s1 σ H1 _ I1 q1) λvl s2 ⟨l,H2,I2,pl,q2⟩=>wC (hu pins s2 σ H2 _ I2 q2) λvu s3 ⟨u,H3,I3,pu,q3⟩=>?_;rw[evalPart_none];refine zxG ?_;have I4:Inv X pins σ H3 {s3 with heap:=s3.heap.push {cls:=.type "slice",data:=.fields #[vl,vu,.none]}}:=I3.kept (t':=s3.toks) λb ob q=>zxH _ q;obtain⟨T,id,hT,ht,hg⟩:=hr pins {s3 with heap:=s3.heap.push {cls:=.type "slice",data:=.fields #[vl,vu,.none]}} σ H3 x v vl vu l u s3.heap.objs.size Q I4 r1 (Heap.IsSliceOf.new ..) pl pu q3;exact tail_any ht hT hg (by with_unfolding_all rfl)
def CU(xs:List V)(lo hi:Option Int):List V:=(xs.drop<|HT.sIx xs.length 0 lo).take<|HT.sIx xs.length xs.length hi-HT.sIx xs.length 0 lo
def Tp(xs)(lo hi):(CU xs lo hi).length<=xs.length:=by
 unfold CU;rw[zzS,List.length_drop];omega
def iQ(K:zzA):V->Option Int->Option Int->Hp->VK->Prop:=λx lo hi H Q=>∃a xs,x = .ref a/\UE K H a xs/\
 ¬(HT.sIx xs.length 0 lo=0/\HT.sIx xs.length xs.length hi=xs.length)/\∀p,H p=none->Q (.ref p) (upd H p<|.tup<|CU xs lo hi)
def r6:jT X (iQ X.K):=by
 intro pins s σ H x v vl vu lo hi sl Q I rx hs pl pu h;obtain⟨a,xs,rfl,hx,hw,q⟩:=h;cases rx;obtain⟨its,r,ht,hz⟩:=I.tuple hx;have hlen:its.toArray.size=xs.length:=by rw[zzH];exact r.length.symm
 refine⟨"tuple",_,PyProof.Rows.slot_tuple_getitem.lookup,ht.typeIs, ?_⟩;refine HT.Rx ht hs pl pu (by rw[hlen];exact hw) ?_ (by rw[hlen];exact hz);rw[hlen];refine⟨.ref s.heap.objs.size,_,I.laid (t':=s.toks) (λb ob q=>zxH _ q) (zzN _) ?_,rfl,q _<|I.hok.fresh<|zzN _⟩;exact⟨zzO (Tp xs lo hi) hz,_,(r.drop _).take _,IsTup.new _ _⟩
def mV(K:zzA):R2:=λx y H Q=>∃a b xs ys,x = .ref a/\y = .ref b/\UE K H a xs/\UE K H b ys/\xs≠[]/\xs.length+ys.length<=sizeLine/\
 (ys=[]->Q (.ref a) H)/\(ys≠[]->∀p,H p=none->Q (.ref p) (upd H p<|.tup<|xs++ys))
def zP.nil_iff(r:zP xs us):us=[] ↔ xs=[]:=by
 cases r with
 |nil=>simp
 |cons _ _=>simp
def sh:PP X (binaryOp .Add) (mV X.K):=by
 intro pins s σ H x y v u Q I rx ry h;obtain⟨a,b,xs,ys,rfl,rfl,ha,hb,hx,hz,q1,q2⟩:=h;cases rx;cases ry;obtain⟨its,r1,p1,_⟩:=I.tuple ha;obtain⟨its2,r2,p2,_⟩:=I.tuple hb;refine HT.uJ p1 p2 (λz=>hx<|r1.nil_iff.mp z) (λz=>⟨.ref a,H,I,rfl,q1<|r2.nil_iff.mp z⟩) (λz=>?_) (by rw[<-r1.length,<-r2.length];exact hz);refine⟨.ref s.heap.objs.size,_,I.laid (t':=s.toks) (λb ob q=>zxH _ q) (zzN _) ?_,rfl,q2 (λw=>z<|r2.nil_iff.mpr w) _<|I.hok.fresh<|zzN _⟩;exact⟨by rw[zzJ];exact hz,_,r1.append r2,IsTup.new _ _⟩
end
end L2
namespace L2
open PySem PySem.Spec PyProof.Rows
noncomputable def ixN(n:Nat)(i:Int):Option Nat:=if 0<=i then(if i<n then some i.toNat else none)else if -(n:Int)<=i then some (i+n).toNat else none
def atI{α:Type}(xs:List α)(i:Int):Option α:=(ixN xs.length i).bind λj=>xs[j]?
def u9(h:ixN n i=some j):seqIndex? i n=some j/\j<n /\ -(n:Int)<=i/\i<n:=by
 unfold ixN at h
 by_cases h0:0<=i
 . rw[if_pos h0]at h
   by_cases h1:i<n
   . rw[if_pos h1]at h;have e:=zzZ h;exact⟨by rw[seqIndex_of h0 h1,e],by omega,by omega,h1⟩
   . rw[if_neg h1]at h;cases h
 . rw[if_neg h0]at h
   by_cases h1 : -n<=i
   . rw[if_pos h1]at h;have e:=zzZ h;exact⟨by rw[seqIndex_neg (q1b h0) h1,e],by omega,h1,by omega⟩
   . rw[if_neg h1]at h;cases h
def E8(h:atI xs i=some v):∃j,seqIndex? i xs.length=some j/\xs[j]? = some v/\j<xs.length /\ -(xs.length:Int)<=i/\i<xs.length:=by
 unfold atI at h;cases e:ixN xs.length i with
 |none=>rw[e]at h;cases h
 |some j=>
  rw[e]at h;obtain⟨h1,h2,h3,h4⟩:=u9 e;exact⟨j,h1,h,h2,h3,h4⟩
def RW{α:Type}{xs}{j:Nat}{v:α}(h:xs[j]? = some v):atI xs (j:Int)=some v:=by
 have hj:=(zzG.mp h).1;have e:ixN xs.length (j:Int)=some j:=by
  unfold ixN;rw[if_pos<|q0a,if_pos<|q0h hj];simp
 unfold atI;rw[e];exact h
def MO(b:Expr):Prop:=∀o i,subscripted b false o i=operate [o,i] (getItem o i)
def mZ(X:Cx)(r:R2):Prop:=
 ∀(value slice:Expr) (pins:List (Addr×Obj)) (s:Shared) (σ:St) (H:Hp) (x y:V) (v u:Value) (Q:VK),Inv X pins σ H s->RelV x v->RelV y u->r x y H Q->
  subscripted slice false v u=operate [v,u] (getItem v u)->wpAny (model X.prog X.w) X.A (subscriptTail value slice v u) (EP X pins σ Q) X.xe s
def iS(X:Cx)(id:String)(r:V->List V->Hp->VK->Prop):Prop:=
 ∀(pins:List (Addr×Obj)) (s:Shared) (σ:St) (H:Hp) (x:V) (xs:List V) (v:Value) (us:List Value) (Q:VK),Inv X pins σ H s->RelV x v->zP xs us->r x xs H Q->
  wpAny (model X.prog X.w) X.A (call (.builtin id) (v::us)) (EP X pins σ Q) X.xe s
section
variable{X:Cx}{a b:Expr}{ta tb:TE}{pos:Pos}
def m7(hr:mZ X r)(ha:PE X a ta)(hb:PE X b tb)(hs:MO b):PE X (.Subscript a b pos) (jg r ta tb):=by
 intro pins s σ H Q I h;exact Subscript_<|pI ha hb I h λv u s2 x y H2 I2 rx ry q=>hr a b pins s2 σ H2 x y v u Q I2 rx ry q<|hs _ _
def iR(K:zzA):R2:=λx y H Q=>∃p xs i v,x = .ref p/\y = .int i/\Vp K H p xs/\atI xs i=some v/\Q v H
def ir(K:zzA):R2:=λx y H Q=>∃p xs i v,x = .ref p/\y = .int i/\UE K H p xs/\atI xs i=some v/\Q v H
def hW:R2:=λx y H Q=>∃z i c,x = .str z/\y = .int i/\z.length<=sizeLine/\atI z.cps.toList i=some c/\Q (.str ⟨#[c]⟩) H
def Dw:mZ X (iR X.K):=by
 intro value slice pins s σ H x y v u Q I rx ry h hs;obtain⟨p,xs,i,z,rfl,rfl,hq,he,q⟩:=h;cases rx;obtain⟨t,rfl⟩:=ry;obtain⟨its,r,pl,hz⟩:=I.list hq;obtain⟨j,h1,h2,h3,h4,h5⟩:=E8 he;obtain⟨w,ew,rw'⟩:=r.get h2;have hl:=r.length;have hn:=Uw;have fin:EP X pins σ Q w s:=⟨z,H,I,rw',q⟩
 by_cases h0:0<=i
 . have hj:i.toNat=j:=by
    rw[seqIndex_of h0 h5]at h1;exact zzZ h1
   exact item_listR pl.isList h0 (by omega) (by rw[hj];simpa using ew) fin hs
 . have hj:(i+(its.toArray.size:Int)).toNat=j:=by
    rw[seqIndex_neg (q1b h0) h4]at h1;rw[zzH,<-hl];exact zzZ h1
   exact subscriptTail_builtinR pl.isList.typeIs slot_list_getitem.lookup
    (wpAny_getItem_list_neg pl.isList (q1b h0) (by rw[zzH]<;>omega) (by omega) (by rw[hj];simpa using ew) ⟨rfl,fin⟩) hs
def og:mZ X (ir X.K):=by
 intro value slice pins s σ H x y v u Q I rx ry h hs;obtain⟨p,xs,i,z,rfl,rfl,hq,he,q⟩:=h;cases rx;obtain⟨t,rfl⟩:=ry;obtain⟨its,r,pl,hz⟩:=I.tuple hq;obtain⟨j,h1,h2,h3,h4,h5⟩:=E8 he;obtain⟨w,ew,rw'⟩:=r.get h2;have hl:=r.length;have hn:=Uw;have fin:EP X pins σ Q w s:=⟨z,H,I,rw',q⟩;exact subscriptTail_builtinR pl.typeIs slot_tuple_getitem.lookup
  (getItem_tuple pl (by omega) (by omega) (by rw[zzH,<-hl];exact h1) (by simpa using ew) ⟨rfl,fin⟩) hs
def pZ:mZ X hW:=by
 intro value slice pins s σ H x y v u Q I rx ry h hs;obtain⟨z,i,c,rfl,rfl,hz,he,q⟩:=h;obtain⟨t,rfl⟩:=rx;obtain⟨t',rfl⟩:=ry;obtain⟨j,h1,h2,h3,h4,h5⟩:=E8 he;have hl:z.cps.toList.length=z.length:=by simp[Str.length]
 rw[hl]at h1 h4 h5;have hn:=Uw;exact tail_any (typeIs_str s z t) slot_str_getitem.lookup (getItem_str (by
  have e1:decide (i < -(2 ^ 63:Int))=false:=zyG (by omega);have e2:decide (i ≥ 2 ^ 63)=false:=zyG (by omega);rw[e1,e2,Bool.or_false]) (by rw[h1];simpa using h2) ⟨.str ⟨#[c]⟩,H,I.tok _,⟨_,rfl⟩,q⟩) hs
def Eb(lo hi)(n:Nat):(sliceBounds lo hi none n).1=((HT.sIx n 0 lo:Nat):Int)/\(sliceBounds lo hi none n).2.1=((HT.sIx n n hi:Nat):Int)/\(sliceBounds lo hi none n).2.2=1:=by
 refine⟨?_, ?_,rfl⟩
 . cases lo with
   |none=>simp[sliceBounds,HT.sIx]
   |some i=>
    simp only[sliceBounds,HT.sIx,Option.getD_none,show 1 > 0 by decide,if_true]
    by_cases h:i<0
    . simp only[h,if_true]<;>omega
    . simp only[h,if_false]<;>omega
 . cases hi with
   |none=>simp[sliceBounds,HT.sIx]
   |some i=>
    simp only[sliceBounds,HT.sIx,Option.getD_none,show 1 > 0 by decide,if_true]
    by_cases h:i<0
    . simp only[h,if_true]<;>omega
    . simp only[h,if_false]<;>omega
def Nc(its:List Value)(lo hi):slicePick its.toArray lo hi none=((its.drop<|HT.sIx its.length 0 lo).take<|HT.sIx its.length its.length hi-HT.sIx its.length 0 lo).toArray:=by
 obtain⟨h1,h2,h3⟩:=Eb lo hi its.toArray.size;unfold slicePick;rw[h1,h2,h3];simp only[sliceRange_one,pick_run,zzH]<;>rfl
def gp(K:zzA):V->Option Int->Option Int->Hp->VK->Prop:=λx lo hi H Q=>∃a xs,x = .ref a/\Vp K H a xs/\∀p,H p=none->Q (.ref p) (upd H p<|.lst<|CU xs lo hi)
def t8:jT X (gp X.K):=by
 intro pins s σ H x v vl vu lo hi sl Q I rx hs pl pu h;obtain⟨a,xs,rfl,hx,q⟩:=h;cases rx;obtain⟨its,r,ht,hz⟩:=I.list hx;have hlen:=r.length;refine⟨"list",_,slot_list_getitem.lookup,ht.isList.typeIs, ?_⟩;refine wpAny_getItem_list_slice ht.isList hs pl pu .none (by simp) ?_ (by rw[zzH]<;>omega);rw[Nc,<-hlen];refine⟨.ref s.heap.objs.size,_,I.laid (t':=s.toks) (λb ob q=>zxH _ q) (zzN _) ?_,rfl,q _<|I.hok.fresh<|zzN _⟩;exact⟨zzO (Tp xs lo hi) hz,_,0,(r.drop _).take _,zxJ _ rfl⟩
def Ru:XW X (.builtin "len") (λxs H Q=>∃p ys,xs=[.ref p]/\(Vp X.K H p ys\/UE X.K H p ys)/\Q (.int ys.length) H):=by
 intro pins s σ H xs us Q I r h;obtain⟨p,ys,rfl,hq,q⟩:=h;obtain⟨u,rfl,rx⟩:=vals1 r;cases rx;have hn:=Uw
 rcases hq with hq|hq
 . obtain⟨its,r',pl,hz⟩:=I.list hq;have hlen:=r'.length;exact Calls.call_len_list pl.isList (by simp only[zzH]<;>omega) ⟨.int ys.length,H,I.tok _,⟨s.toks+1,by rw[zzH,hlen]⟩,q⟩
 . obtain⟨its,r',pl,hz⟩:=I.tuple hq;have hlen:=r'.length;exact len_tuple pl (by simp only[zzH]<;>omega) ⟨.int ys.length,H,I.tok _,⟨s.toks+1,by rw[zzH,hlen]⟩,q⟩
def E7:XW X (.builtin "len") (λxs H Q=>∃z,xs=[.str z]/\z.length<=sizeLine/\Q (.int z.length) H):=by
 intro pins s σ H xs us Q I r h;obtain⟨z,rfl,hz,q⟩:=h;obtain⟨u,rfl,t,rfl⟩:=vals1 r;have hn:=Uw;exact len_str (by omega) ⟨.int z.length,H,I.tok _,⟨_,rfl⟩,q⟩
def UJ:XW X (.type "list") (λxs H Q=>∃p ys,xs=[.ref p]/\(Vp X.K H p ys\/UE X.K H p ys)/\∀l,H l=none->Q (.ref l) (upd H l<|.lst ys)):=by
 intro pins s σ H xs us Q I r h;obtain⟨p,ys,rfl,hq,q⟩:=h;obtain⟨u,rfl,rx⟩:=vals1 r;cases rx;have fin:∀its,zP ys its->ys.length<=sizeLine->∀h' c',_->
  h'.get? s.heap.objs.size=some {cls:=.type "list",dict:=none,data:=.seq its.toArray c',slots:=#[]}->EP X pins σ Q _ {s with heap:=h'}:=λits r' hz h' c' kp e=>
  ⟨.ref s.heap.objs.size,_,I.laid (t':=s.toks) kp (zzN _) (show v_ X.prog X.w _ h' _ (.lst ys)from⟨hz,its,c',r',e⟩),rfl,q _<|I.hok.fresh<|zzN _⟩
 rcases hq with hq|hq
 . obtain⟨its,r',pl,hz⟩:=I.list hq;have hlen:=r'.length;obtain⟨o,ho,hc,n,hd⟩:=pl.isList;exact call_list_seq p (.inl rfl) ho hc hd (λh' c' kp e=>fin its r' hz h' c' kp e) (by simp only[zzH]<;>omega)
 . obtain⟨its,r',pl,hz⟩:=I.tuple hq;have hlen:=r'.length;obtain⟨o,ho,hc,n,hd⟩:=pl;exact call_list_seq p (.inr rfl) ho hc hd (λh' c' kp e=>fin its r' hz h' c' kp e) (by simp only[zzH]<;>omega)
def QO:XW X (.type "tuple") (λxs H Q=>∃p ys,xs=[.ref p]/\((Vp X.K H p ys/\∀l,H l=none->Q (.ref l) (upd H l<|.tup ys))\/(UE X.K H p ys/\Q (.ref p) H))):=by
 intro pins s σ H xs us Q I r h;obtain⟨p,ys,rfl,h⟩:=h;obtain⟨u,rfl,rx⟩:=vals1 r;cases rx
 rcases h with⟨hq,q⟩|⟨hq,q⟩
 . obtain⟨its,r',pl,hz⟩:=I.list hq;have hlen:=r'.length;refine call_tuple_list pl.isList (λh' kp=>?_) (by simp only[zzH]<;>omega);have I1:=I.kept (t':=s.toks) kp;have I2:=
    I1.laid (t':=s.toks) (λb o e=>zxH _ e) (zzN _) (show v_ X.prog X.w _ _ _ (.tup ys)from⟨hz,its,r',IsTup.new _ _⟩)
   exact⟨.ref h'.objs.size,_,I2,rfl,q _<|I1.hok.fresh<|zzN _⟩
 . obtain⟨its,r',pl,hz⟩:=I.tuple hq;exact call_tuple_same pl ⟨.ref p,H,I,rfl,q⟩
def fM(K:zzA)(T:String)(x:V)(H:Hp):Prop:=match x with
 | .str _=>T="str"
 | .int _=>T="int"
 | .ref p=>(T="list"/\∃xs,Vp K H p xs)\/(T="tuple"/\∃o,K.lookup p=some o/\o.cls = .type "tuple"/\o.dict=none) \/
  (T="dict"/\((∃kvs,H p=some (.dK kvs))\/∃kvs,H p=some (.dT kvs)))\/(T="set"/\∃S n,H p=some (.set S n))
 |_=>False
def om(I:Inv X pins σ H s)(r:RelV x v)(ty:fM X.K T x H):
 s.TypeIs v T/\∀a,v = .ref a->∃ob,s.heap.get? a=some ob/\ob.dict=none:=by
 cases x with
 |str z=>
  obtain⟨t,rfl⟩:=r;cases(ty);exact⟨typeIs_str s z t,λ_ e=>nomatch e⟩
 |int i=>
  obtain⟨t,rfl⟩:=r;cases(ty);exact⟨typeIs_int s i t,λ_ e=>nomatch e⟩
 |ref p=>
  cases r
  rcases ty with⟨rfl,xs,hq⟩|⟨rfl,o,hk,hc,hd⟩|⟨rfl,hk⟩|⟨rfl,S,n,hk⟩
  . obtain⟨its,_,pl,_⟩:=I.list hq;refine⟨pl.isList.typeIs,λa e=>?_⟩;cases e;obtain⟨o,n,e,c,hd,_⟩:=pl;exact⟨o,e,hd⟩
  . refine⟨⟨o,I.kIn p o hk,hc⟩,λa e=>?_⟩;cases e;exact⟨o,I.kIn _ o hk,hd⟩
  . have z:∃o,s.heap.get? p=some o/\o.ExactDict:=by
     rcases hk with⟨kvs,hk⟩|⟨kvs,hk⟩
     . obtain⟨_,_,_,_,o,_,_,e,ex,_⟩:=I.hok p _ hk;exact⟨o,e,ex⟩
     . obtain⟨_,_,_,_,o,_,_,e,ex,_⟩:=I.hok p _ hk;exact⟨o,e,ex⟩
    obtain⟨o,e,ex⟩:=z;refine⟨⟨o,e,ex.1⟩,λa e2=>?_⟩;cases e2;exact⟨o,e,ex.2.1⟩
  . obtain⟨o,_,_,_,e,ex,_⟩:=I.hok p _ hk;refine⟨⟨o,e,ex.1⟩,λa e2=>?_⟩;cases e2;exact⟨o,e,ex.2.1⟩
 |_=>exact False.elim ty
def fz(K:zzA)(T:String)(r:V->List V->Hp->VK->Prop)(to:TE)(t:TA):TE:=λσ H Q=>to σ H λx H1=>fM K T x H1/\t σ H1 λxs H2=>r x xs H2 Q
variable{o e:Expr}{es:List Expr}{to:TE}{t:TA}{name:Str}{apos cpos:Pos}{T id:String}{r:V->List V->Hp->VK->Prop}
def sE(pa:PlainAttrs T)(slot:Slot T name id)(hty:typeOf (.builtin id)=pure (.type "method_descriptor"))(hm:iS X id r)(ho:PE X o to)(ha:PA X (e::es) t)
 (hbase:attributeBase o name X.env (eval o X.env)=eval o X.env:=by rfl)
 (hfew:((backTo cpos<|starEach (e::es) X.env).all (λx=>!x.1)&&(backToKw cpos<|keywordEach [] X.env).all (λx=>x.1.isSome)
  && decide ((e::es).length+([]:List Keyword).length+(if([]:List Keyword).isEmpty then 0 else 1)<30))=true:=by rfl)
 (hline:(apos.endLine==cpos.line)=true:=by rfl) (hs:starEach (e::es) X.env=(false,eval e X.env)::starEach es X.env:=by rfl) (hplain:(backTo cpos<|starEach es X.env).any (·.1)=false:=by rfl):
 PE X (.Call (.Attribute o name apos) (e::es) [] cpos) (fz X.K T r to t):=by
 intro pins s σ H Q I h;refine wpAny_Call_method_late hbase hfew hline rfl<|wC (ho pins s σ H _ I h) λv s1 ⟨x,H1,I1,r1,ty,q1⟩=>?_;obtain⟨h1,h2⟩:=om I1 r1 ty;refine⟨T,id,pa,slot,hty,h1,h2, ?_⟩;have hA:=ha cpos pins s1 σ H1 _ I1 q1;rw[hs]at hA ⊢;refine Calls.callWith_builtin (by show(false||(backTo cpos _).any (·.1))=false;rw[hplain]<;>rfl)<|Calls.evalArgs_plain ?_;exact wC hA λus s2 ⟨vs,H2,I2,r2,q2⟩=>hm pins s2 σ H2 x vs v us Q I2 r1 r2 q2
end
end L2
namespace L2
open PySem PySem.Spec PyProof.Rows
def iJ(X:Cx)(id:String)(r:V->List V->Hp->VK->Prop):Prop:=
 ∀(pins:List (Addr×Obj)) (s:Shared) (σ:St) (H:Hp) (x:V) (xs:List V) (v:Value) (us:List Value) (Q:VK),Inv X pins σ H s->RelV x v->zP xs us->r x xs H Q->
  wpAny (model X.prog X.w) X.A (call (.builtin id) (v::us)) (EP X pins σ Q) X.xe s
def zP.one:∀{x:V}{us:List Value},zP [x] us->∃u,us=[u]/\RelV x u
 |_,_,.cons r .nil=>⟨_,rfl,r⟩
def zP.two:∀{x y:V}{us:List Value},zP [x,y] us->∃u v,us=[u,v]/\RelV x u/\RelV y v
 |_,_,_,.cons r (.cons q .nil)=>⟨_,_,rfl,r,q⟩
theorem zP.reverse(h:zP xs us):zP xs.reverse us.reverse:=by
 induction h with
 |nil=>exact .nil
 |cons r t ih=>rw[List.reverse_cons,List.reverse_cons];exact zP.append ih<|.cons r .nil
theorem zP.rep(h:zP xs us):∀k:Nat,zP (List.replicate k xs).flatten (List.replicate k us).flatten
 |0=>.nil
 |k+1=>by
  rw[List.replicate_succ,List.replicate_succ,List.flatten_cons,List.flatten_cons];exact zP.append h<|zP.rep h k
theorem foldl_rep(its):∀(k:Nat) (acc:List Value),
 List.foldl (λx1 x2=>x1++x2) acc.toArray (List.replicate k its.toArray)=(acc++(List.replicate k its).flatten).toArray
 |0,acc=>by simp
 |k+1,acc=>by
  have e:acc.toArray++its.toArray=(acc++its).toArray:=by simp
  have e2:(acc++its)++(List.replicate k its).flatten=acc++(List.replicate (k+1) its).flatten:=by
   rw[List.replicate_succ,List.flatten_cons,zxC]
  rw[<-e2,<-foldl_rep its k _,<-e,List.replicate_succ,List.foldl_cons]
section
variable{X:Cx}{pins:List (Addr×Obj)}{σ:St}{H:Hp}{s:Shared}{l b:Addr}{xs ys zs:List V}
def Inv.lset{its its':List Value}{n:Nat}{f}{t':Nat}(I:Inv X pins σ H s)(hH:H l=some (.lst xs))
 (e:s.heap.get? l=some {cls:=.type "list",data:=.seq its.toArray n}) (hf:f its.toArray=its'.toArray) (hv:zP ys its') (hz:ys.length<=sizeLine):
 Inv X pins σ (upd H l<|.lst ys) {s with heap:=s.heap.update l<|Obj.mapSeq f,toks:=t'}:=by
 have q:=PySem.IsL.update e f;rw[hf]at q;refine I.write (by rw[hH];exact trivial) (.inl rfl) (λb' u hb hu=>(Heap.get?_update_other s.heap _<|Ne.symm hb).trans hu) ⟨_,q⟩ ?_;exact⟨hz,its',_,hv,q⟩
def Inv.lnew(I:Inv X pins σ H s)(hv:zP ys its)(hz:ys.length<=sizeLine):
 Inv X pins σ (upd H s.heap.objs.size<|.lst ys) {s with heap:=s.heap.push {cls:=.type "list",data:=.seq its.toArray},toks:=t'}:=
 I.laid (λ_ _ q=>zxH _ q) (zzN _) ⟨hz,its,0,hv,zxJ _ rfl⟩
theorem Inv.fresh(I:Inv X pins σ H s):H s.heap.objs.size=none:=I.hok.fresh<|zzN _
def Inv.lstM(I:Inv X pins σ H s)(hH:H l=some (.lst xs)):xs.length<=sizeLine/\∃(its:List Value) (n:Nat),zP xs its/\xs.length=its.length/\s.heap.get? l=some {cls:=.type "list",data:=.seq its.toArray n}:=by
 obtain⟨z,its,n,r,e⟩:=I.hok l _ hH;exact⟨z,its,n,r,r.length,e⟩
def IM(h:n<=sizeLine):Builtin.List.listTooLong n=false:=by
 unfold Builtin.List.listTooLong;exact zyG (by omega)
end
section
variable{X:Cx}
def OB:V->List V->Hp->VK->Prop:=λx vs H Q=>∃l xs y,x = .ref l/\vs=[y]/\H l=some (.lst xs)/\xs.length<sizeLine/\Q .non (upd H l<|.lst<|xs++[y])
def Ph:iJ X "list.append" OB:=by
 intro pins s σ H x vs v us Q I rx rv h;obtain⟨l,xs,y,rfl,rfl,hH,hz,q⟩:=h;cases rx;obtain⟨u,rfl,ru⟩:=rv.one;obtain⟨z,its,n,r,hl,e⟩:=I.lstM hH;refine call_meets F.slot_list_append ⟨_,e,rfl⟩ F.entry_list_append (F.args_list_append_2 _ _) (PySem.list_append l its.toArray n u<|by rw[zzH];exact q0P hz hl) ⟨e, ?_⟩;refine⟨.non,_,I.lset (its':=its++[u]) hH e (by simp) (r.append<|.cons ru .nil) ?_,rfl,q⟩;rw[zzJ,List.length_singleton];omega
def len_rep(xs:List α)(k:Nat):(List.replicate k xs).flatten.length=k*xs.length:=by
 induction k with
 |zero=>simp
 |succ k ih=>rw[List.replicate_succ,List.flatten_cons,zzJ,ih,Nat.succ_mul,Nat.add_comm]
end
end L2
namespace Att
open PySem PySem.W PySem.Calls PyProof.Rows
def Gm:∀(ns:List Int) (vs:List Value),WellAll P h vs (ns.map WData.int)->IntsAre vs ns:=by
 intro ns
 induction ns with
 |nil=>
  intro vs w;rw[List.map_nil]at w;cases w;exact .nil
 |cons n ns ih=>
  intro vs w;rw[zyS]at w;cases w with
  |cons a b=>
   cases a;exact .cons _ _<|ih _ b
def CN{l:OpenLaw}{n:Nat}(hn:l.most=some n){P h args vals}
 (hpre:l.row.toRowW.claim.pre args=true) (hwl:WellAll P h vals args):
 ∃a vs ns,vals=[Value.ref a]/\args=[WData.list<|ns.map WData.int]/\h.get? a=some {cls:=.type "list",data:=.seq vs.toArray}/\IntsAre vs ns/\ns.length<=n:=by
 have hsh:=(pre_splitW hpre).1;have hc:l.pre.holds [] {args:=args}=true:=(pre_splitW hpre).2;obtain⟨d,r,rfl,h1,h2⟩:=hasAllW_cons hsh;obtain rfl:=hasAllW_nil h2;obtain⟨xs,rfl,h3⟩:=hasW_list h1;obtain⟨ns,rfl⟩:=items_int h3;have hlen:ns.length<=n:=by
  unfold OpenLaw.pre at hc;have h4:(WTm.not<|.lt (.lit<|.int (n:Int))<|.len<|.arg 0).holds [] {args:=[.list<|ns.map .int]}=true:=by
   have h4:=(holds_andW hc).1;rw[hn]at h4;exact h4
  have h5:=condW_of h4<|w_not<|w_lt w_lit<|w_len_list<|w_arg rfl;rw[zzB]at h5;refine Nat.le_of_not_lt λq=>?_;have q':n<(ns.length:Int):=q0h q
  first
   |(rw[zyO q']at h5;exact absurd h5 (by decide))
   |(simp at h5;omega)
 cases hwl with
 |cons w1 w2=>
  cases w2;cases w1 with
  |list ho hall=>exact⟨_,_,ns,rfl,rfl,ho,Gm ns _ hall,hlen⟩
def O4(l:OpenLaw)(args):l.row.toRowW.claim.post args (.bool true) args=true:=
 postW_of
  (show WShape.has [] _ .bool=true by first|rfl|decide|simp[WShape.has,WShape.arms,WShape.armsAll])
  (w_eq_bool (w_res rfl) w_lit) rfl
def BK{l:OpenLaw}{n:Nat}{q loose XP YP d}
 (hn:l.most=some n) (hdf:d.params.defaults=[])
 (call:∀(w:World) (s₀ s₁:Shared) (mg mb:Str->Option Value) (fa:Addr) (o:Obj) (pm cd doc:Value) (a:Addr) (vs:List Value) (ns:List Int),
  Ground q loose [] XP w s₀ mg mb s₁.heap->YP w s₁.heap->
  s₁.heap.get? fa=some o->o.data = .func (docDef d.name d.params d.body d.scope pm cd doc)->s₁.heap.CodeRec cd d.name->mg d.name=some (.ref fa)->
  s₁.heap.get? a=some {cls:=.type "list",data:=.seq vs.toArray}->IntsAre vs ns->ns.length<=n->s₁.gens = #[]->
  codeAny (model l.prog w) callerA (.call (.ref fa) ⟨[.ref a],[]⟩) (λr s'=>r = .ok (.ret<|.bool true)/\OldK s₁.heap s'.heap/\s'.os=s₁.os/\AllBare s'.gens) s₁):
 WalkO q loose XP YP l.row.toRowW d [] (λf vs=>PySem.call f vs):=by
 intro w s₀ s₁ mg mb G Y fa o pm cd doc dV kV ho hd hcd hD hmg hg args vals as hpre hlay hrd hwl hlo;obtain rfl:dV = .none:=Dflts.none hD hdf;obtain rfl:kV = .none:=Dflts.noKw hD;obtain⟨a,vs,ns,rfl,rfl,hobj,hints,hlen⟩:=CN hn hpre hwl;refine enter_call<|codeAny_mono (call w s₀ s₁ mg mb fa o pm cd doc a vs ns G Y ho (fd_plain hd) hcd hmg hobj hints hlen hg) λr s' hq=>?_;obtain⟨rfl,h2,h3,h4⟩:=hq;exact⟨.inl ⟨.bool true,.bool true,[],rfl,λ_=>rfl,.bool true,O4 l _,λ_=>⟨List.Pairwise.nil,λ_ hm=>(nomatch hm)⟩⟩,h2,h3,h4⟩
end Att
namespace L2
open PySem PySem.Spec PyProof.Rows
theorem Mv:∀{vs:List Value}{ns:List Int},IntsAre vs ns->zP (ns.map V.int) vs
 |_,_,.nil=>.nil
 |_,_,.cons n t h=>.cons ⟨t,rfl⟩<|Mv h
def pA(H:Hp):Prop:=∀b,H b=none\/∃o xs,H b=some (.frz o<|.lst xs)
def IL{P w K mg mb CX}{k:Nat}{fa a fd x sp s₁ vs ns}
 (KX:K.In s₁.heap) (hns:s₁.heap.Ns mainGlobals mg) (hb:s₁.heap.Ns builtinsNs mb) (hbb:∀x:Str,x≠"__name__"->mb x=bootBuiltins x) (hlim:s₁.heap.NoLimit) (hg:s₁.gens = #[])
 (ha:s₁.heap.get? a=some {cls:=.type "list",data:=.seq vs.toArray}) (hi:IntsAre vs ns) (hl:ns.length<=sizeLine) (hr:Room k callerA)
 (F:∀base:Heap,K.In base->base.Ns mainGlobals mg->FnOk P w K mg base CX k fa fd [x] sp) (hbind:∀(s:Shared) (u:Value),BindsTo s fd ⟨[u],[]⟩ [(x,u)])
 (hsp:∀H:Hp,pA H->AQ K H a (ns.map V.int)->sp [.ref a] H (λv _=>v = .bl true) λ_ _ _=>False)
 (hCX:∀H e s',CX [] H s₁ (λ_ _ _=>False) e s'->False):
 codeAny (model P w) callerA (.call (.ref fa) ⟨[.ref a],[]⟩) (λr s'=>r = .ok (.ret<|.bool true)/\OldK s₁.heap s'.heap/\s'.os=s₁.os/\AllBare s'.gens) s₁:=by
 have rv:=Mv hi;have lenV:=hi.length;have core:∀H:Hp,pA H->AQ K H a (ns.map V.int)->TM P w H s₁.heap->(∀b,H b≠none->b=a)->(H a≠none->K.lookup a=none)->
  codeAny (model P w) callerA (.call (.ref fa) ⟨[.ref a],[]⟩) (λr s'=>r = .ok (.ret<|.bool true)/\OldK s₁.heap s'.heap/\s'.os=s₁.os/\AllBare s'.gens) s₁:=by
  intro H hO hS hok hA hK;have base_of:∀{b:Addr}{o:Obj},s₁.heap.get? b=some o->H b=none->(OZ s₁.heap H).get? b=some o:=λe n=>J4 e n;have noA:∀{b:Addr}{o:Obj}{es:Array DictEntry}{ep:Nat},s₁.heap.get? b=some o->o.data = .dict es ep->H b=none:=λ{b o es ep} e d=>by
   cases q:H b with
   |none=>rfl
   |some u=>
    have e':b=a:=hA b (by rw[q];simp);subst e';rw[ha]at e;cases e;have d':Data.seq vs.toArray _=Data.dict es ep:=d;cases d'
  have nsK:∀{b:Addr}{m:Str->Option Value},s₁.heap.Ns b m->(OZ s₁.heap H).Ns b m:=λ{b m} ⟨o,es,ep,e,d,r⟩=>⟨o,es,ep,base_of e<|noA e d,d,r⟩;have hKb:=λb o e=>base_of (KX b o e) (by
   cases q:H b with
   |none=>rfl
   |some u=>
    have e':b=a:=hA b (by rw[q];simp);subst e';rw[hK<|by rw[q];simp]at e;cases e)
  have hM:Mod K mg _:=⟨hKb,nsK hns,⟨mb,nsK hb,hbb⟩,let⟨mc,h1,h2⟩:=hlim;⟨mc,nsK h1,h2⟩⟩;have e0:Env0 P w K mg _ callerA [] s₁ H:=⟨rfl,hM,λb o e=>Dy e,Nat.le_of_eq<|O_ _ _,trivial,λb hb=>absurd (show b ∈ ([]:List Addr)from hb) (by simp),hok,.of_eq hg⟩;refine codeAny_mono ((F _ hKb<|nsK hns).run callerA [] s₁ H ⟨_,[]⟩ [.ref a] [.ref a] _ _ hr e0 (hbind s₁<|.ref a) (.cons rfl .nil)<|hsp H hO hS) λr s' h=>?_;cases r with
  |error e=>exact(hCX H e s' h).elim
  |ok fl=>
   cases fl with
   |next=>exact False.elim h
   |brk=>exact False.elim h
   |cont=>exact False.elim h
   |ret u=>
    obtain⟨v,H',os,bare,un,hok',r',q⟩:=h;have q':v = .bl true:=q;subst q';obtain rfl:u=Value.bool true:=r';refine⟨rfl,OldK.of_keep λb o e=>?_,os,bare⟩;cases q:H b with
    |none=>exact un.keep b o e q (by intro z;exact absurd (show b ∈ ([]:List Addr)from z)<|by simp) (by simp)
    |some u=>
     rcases hO b with z|⟨ob,xs,z⟩
     . rw[q]at z;cases z
     . have z2:=un.frzs b ob _ z;obtain⟨e1,_⟩:=hok b _ z;obtain⟨e2,_⟩:=hok' b _ z2;rw[e]at e1;cases e1;exact e2
 cases hk:K.lookup a with
 |some o=>
  have e:=KX a o hk;rw[ha]at e;cases e;refine core (λ_=>none) (λ_=>.inl rfl) (.inr ⟨vs.toArray,_,hk,by rw[zzH,lenV];exact hl,by simpa using rv⟩) (λb u z=>by have z':none=some u:=z;cases z') (λb z=>absurd rfl z) λz=>absurd rfl z
 |none=>
  refine core (λb=>if b=a then some _ else none) (λb=>?_) (.inl<|.inr ⟨{cls:=.type "list",data:=.seq vs.toArray},if_pos rfl⟩) (λb u z=>?_) (λb z=>?_) λ_=>hk
  . by_cases hb:b=a
    . exact .inr ⟨_,_,if_pos hb⟩
    . exact .inl<|if_neg hb
  . by_cases hb:b=a
    . have z':=(if_pos hb).symm.trans z;cases z';subst hb;exact⟨ha,by rw[zzB];exact hl,vs,_,rv,ha⟩
    . have z':=(if_neg hb).symm.trans z;cases z'
  . by_cases hb:b=a
    . exact hb
    . exact absurd (if_neg hb) z
end L2
namespace L2
open PySem PySem.Spec PyProof.Rows
def walk_of{l:PySem.W.OpenLaw}{n k:Nat}{q loose XP YP d}{K:Params->zzA}{CX:World->rf}{sp:World->Sp}{x}
 (hn:l.most=some n) (hn2:n<=sizeLine) (hdf:d.params.defaults=[]) (hr:Room k callerA)
 (hY:∀(w:World) (h:Heap),YP w h->(K w.params).In h)
 (F:∀(w:World) (mg:Str->Option Value) (fa:Addr) (h:Heap),(K w.params).In h->h.Ns mainGlobals mg->mg d.name=some (.ref fa)->
  ∃fd:FuncData,(∀(s:Shared) (u:Value),BindsTo s fd ⟨[u],[]⟩ [(x,u)])/\
   ∀base:Heap,(K w.params).In base->base.Ns mainGlobals mg->FnOk l.prog w (K w.params) mg base (CX w) k fa fd [x] (sp w))
 (hsp:∀(w:World) (H:Hp) (a:Addr) (ns:List Int),ns.length<=n->pA H->AQ (K w.params) H a (ns.map V.int)->sp w [.ref a] H (λv _=>v = .bl true) λ_ _ _=>False)
 (hCX:∀(w:World) (H:Hp) (s:Shared) (e:Value) (s':Shared),CX w [] H s (λ_ _ _=>False) e s'->False):
 PySem.W.WalkO q loose XP YP l.row.toRowW d [] (λf vs=>PySem.call f vs):=by
 refine Att.BK hn hdf λw s₀ s₁ mg mb fa o pm cd doc a vs ns G Y ho hd hcd hmg hobj hints hlen hg=>?_;have KX:=hY w _ Y;obtain⟨fd,hb,hF⟩:=F w mg fa _ KX G.T.g hmg;exact IL KX G.T.g G.T.b G.T.builtins G.T.nolimit hg hobj hints (zzO hlen hn2) hr hF hb (λH hO hS=>hsp w H a ns hlen hO hS) λH e s'=>hCX w H s₁ e s'
end L2
namespace L2
open PySem PySem.Spec PyProof.Rows
noncomputable def inClass(s:Stmt)(j:Nat):Stmt:=match s with
 | .ClassDef _ _ _ body _ _ _ _ _ _ _=>body.getD j (.Pass ⟨0,0,0,0⟩)
 |_=>.Pass ⟨0,0,0,0⟩
def GQ(s:Stmt):Arguments:=match s with
 | .FunctionDef _ a _ _ _ _ _ _ _ _=>a
 |_=>{posonlyargs:=[],args:=[],vararg:=none,kwonlyargs:=[],kw_defaults:=[],kwarg:=none,defaults:=[]}
def Zo(s:Stmt):List Stmt:=match s with
 | .FunctionDef _ _ b _ _ _ _ _ _ _=>b
 |_=>[]
noncomputable def zd(s:Stmt):Scope:=match s with
 | .FunctionDef _ _ _ _ _ _ sc _ _ _=>sc
 |_=>{kind:=.function,names:=[],isGenerator:=false,isCoroutine:=false}
abbrev vI:rf:=λ_ _ _ _ _ _=>False
abbrev E0:XK:=λ_ _ _=>False
def Xw:Zc vI X E0:=λ_ _ _ _ _ _ _ h=>h.elim
structure Fun(K:zzA)(x qual:Str)(st:Stmt)(f:Addr)(fd:FuncData):Prop where
 ex:∃(oc:Value) (od:Option Addr) (kV doc pm:Value) (an:Option Addr) (cdv ct:Value) (osl:Array (Option Value)),
  fd=W.fnOf x qual (GQ st) (Zo st) (zd st) .none kV doc pm an cdv ct/\K.lookup f=some ⟨oc,od,.func fd,osl⟩/\W.codeIn K cdv qual=true
 kp:W.keepIn K (.ref f)=true
section
variable{P:Program}{w:World}{K:zzA}{mg:Str->Option Value}{base:Heap}
def Fun.ok{x qual st f fd N ps}{k:Nat}{sp}(F:Fun K x qual st f fd)(S:FnScope N ps (zd st))(len:∀vs H Q E,sp vs H Q E->vs.length=ps.length)
 (hbody:∀(cdv:Value) (A:Around) (outer:List Env) (s:Shared) (H:Hp) (vs:List V) (Q:VK) (E:XK),Room k (A.deeper<|envOfC qual (zd st) s.heap.objs.size f cdv)->sp vs H Q E->
  ∃t,M_ (LM vI P w K mg base N qual (zd st) f cdv A outer s H E).nox (Zo st) t/\t {nx:=λ_ H'=>Q .non H',rt:=Q} (start N vs) H):FnOk P w K mg base vI (k+1) f fd ps sp:=by
 obtain⟨oc,od,kV,doc,pm,an,cdv,ct,osl,rfl,lk,hcd⟩:=F.ex;refine lE lk hcd S len λA outer s H vs Q E hr hsp=>?_;obtain⟨t,h,q⟩:=hbody cdv A outer s H vs Q E hr hsp;exact⟨t,h.nox,q⟩
def Fun.binds{x qual st f fd ps}(F:Fun K x qual st f fd)
 (h:∀(kV doc pm:Value) (an:Option Addr) (cdv ct:Value) (us:List Value),us.length=ps.length->bindArgs (W.fnOf x qual (GQ st) (Zo st) (zd st) .none kV doc pm an cdv ct) ⟨us,[]⟩=pure (ps.zip us)):Binds K fd ps []:=by
 obtain⟨oc,od,kV,doc,pm,an,cdv,ct,osl,rfl,lk,hcd⟩:=F.ex;exact .all<|h kV doc pm an cdv ct
end
def Pe(h:n<=1000):n<sizeLine:=Nat.lt_of_le_of_lt h (by decide)
section
variable{X:Cx}
def pv(i:Nat)(hN:X.N[i]? = some x:=by rfl)(hv:jO X.env.scope x:=by first|exact Or.inl rfl|exact Or.inr (Or.inl rfl)|exact Or.inr (Or.inr rfl))(hd:(x==("__debug__":Str))=false:=by decide)
 (hcd:(x==("__classdict__":Str))=false:=by decide):PE X (.Name x pos) (UC i):=A9 hN hv hd hcd
end
end L2
end
section
namespace G41
open PySem PySem.W PyProof.Rows L2
noncomputable def top(i:Nat):Stmt:=PySem.Challenge.pw_stretchdeeds_k41_deeds_on_stretches.main.body.getD i<|.Pass ⟨0,0,0,0⟩
abbrev Wh:Stmt:=top 10
abbrev Y1:Stmt:=top 12
abbrev wW:Stmt:=top 13
abbrev va:Stmt:=top 14
abbrev Zs:Stmt:=top 15
abbrev Z_:Stmt:=top 16
abbrev Z4:Stmt:=top 17
abbrev vO:Stmt:=top 18
abbrev wR:Stmt:=inClass (top 20) 0
abbrev Qu:Stmt:=top 21
abbrev YY:Stmt:=inClass (top 43) 5
abbrev Qn:Stmt:=top 22
abbrev Qo:Stmt:=top 23
abbrev Qr:Stmt:=top 24
abbrev Zn:Stmt:=inClass (top 43) 9
abbrev Z9:Stmt:=top 25
abbrev YZ:Stmt:=inClass (top 43) 10
abbrev Wp:Stmt:=top 26
abbrev Z5:Stmt:=top 27
abbrev WH:Stmt:=top 28
abbrev RO:Stmt:=top 29
abbrev UH:Stmt:=top 30
abbrev Zt:Stmt:=top 31
abbrev vL:Stmt:=top 32
abbrev Rh:Stmt:=top 33
abbrev vp:Stmt:=top 34
abbrev Y0:Stmt:=top 35
abbrev Zm:Stmt:=top 38
abbrev Yd:Stmt:=top 39
abbrev MK:Stmt:=top 42
abbrev X9:Stmt:=top 45
abbrev Yi:Stmt:=top 46
abbrev YX:Stmt:=top 47
abbrev w_:Stmt:=top 48
abbrev vb:Stmt:=top 49
abbrev Y6:Stmt:=top 50
abbrev Xc:Stmt:=top 51
abbrev Wc:Stmt:=top 52
abbrev Y7:Stmt:=top 53
abbrev Zk:Stmt:=top 54
abbrev wO:Stmt:=top 55
abbrev X7:Stmt:=top 57
abbrev Zp:Stmt:=top 56
abbrev Qx:Stmt:=top 58
abbrev Wi:Stmt:=top 59
abbrev Wj:Stmt:=top 60
abbrev Qm:Stmt:=top 61
abbrev Zu:Stmt:=top 62
abbrev wM:Stmt:=top 63
abbrev Yb:Stmt:=top 64
abbrev x5:Stmt:=inClass (top 40) 0
abbrev yS:Stmt:=inClass (top 43) 0
abbrev Yh:Stmt:=inClass (top 40) 1
abbrev vc:Stmt:=inClass (top 43) 1
abbrev y_:Stmt:=inClass (top 40) 3
abbrev Z7:Stmt:=inClass (top 40) 6
abbrev wY:Stmt:=inClass (top 40) 2
abbrev xa:Stmt:=inClass (top 40) 4
abbrev vF:Stmt:=inClass (top 43) 2
abbrev vQ:Stmt:=inClass (top 43) 8
abbrev yD:Stmt:=inClass (top 40) 5
abbrev Z8:Stmt:=inClass (top 40) 7
abbrev vB:Stmt:=inClass (top 40) 13
abbrev OK:Stmt:=top 65
noncomputable abbrev hpg:=PySem.Challenge.pw_stretchdeeds_k41_deeds_on_stretches
abbrev hva:Value:=.str "__main__" 164
abbrev hvb:Value:=.str "stretchdeeds.errors" 194
abbrev hvc:Value:=.str "stretchdeeds.terms" 319
abbrev hvd:Value:=.str "stretchdeeds.algebras" 328
abbrev hve:Value:=.str "stretchdeeds.trees" 404
abbrev hvf:Value:=.str "stretchdeeds.makes" 594
abbrev hvg:Value:=.str "stretchdeeds.ways" 797
abbrev hvh:Value:=.str "law_stretchdeeds_k41_deeds_on_stretches" 917
abbrev hem:List Value:=[(.type "ValueError"), (.type "Exception"), (.type "BaseException"), (.type "object")]
abbrev kF(n q:Str)(s:Stmt)(pm hcd:Value):Obj:=⟨.type "function",none,.func<|fnOf n q (GQ s) (Zo s) (zd s) .none .none .none pm none hcd .none,#[]⟩
abbrev kD(es:List DictEntry)(n:Nat):Obj:=⟨.type "dict",none,.dict es.toArray n,#[]⟩
abbrev kE(P:Params)(x:Str)(t:Nat)(v:Value):DictEntry:=⟨PyData.keyHash P x,.str x t,v⟩
abbrev kR(P:Params)(x:Str)(t:Nat)(a:Addr):DictEntry:=kE P x t<|.ref a
noncomputable abbrev hfl(c:Value)(l:List Value):Obj:=⟨c,none,.fields l.toArray,#[]⟩
abbrev hco(n q:Str)(t u:Nat)(l k g:Int)(b:Bool)(a:Nat)(r s v:Value):Obj:=hfl (.type "code") [.str n t,.str q<|t+1,.str "/claim/cut.py" (t+2),.int l 0,.int k 0,.int 0 0,.int 0 0,.int g 0,.ref a,.bool b,.int 181 0,.ref<|a+1,.none,r,s,v,.int u 0,.int l 0,.str "/claim/cut.py" (u+1)]
abbrev hc7(n q:Str)(t u:Nat)(l k:Int)(a:Nat):=hco n q t u l k 3 true a (.ref<|a+2) (.ref<|a+3)<|.ref<|a+4
abbrev hc5(n q:Str)(t:Nat)(l k:Int)(a:Nat):=hco n q t (t+3) l k 3 true a .none .none<|.ref<|a+2
noncomputable abbrev hen(P:Params):List DictEntry:=[kE P "__doc__" 166 .none,kE P "__package__" 167 .none,kE P "__loader__" 168<|.builtin "__main__.__loader__#opaque",kE P "__spec__" 169 .none,kR P "__annotations__" 170 6,kR P "__builtins__" 171 4,kE P "__file__" 173<|.str "/claim/cut.py" 172,kE P "__cached__" 174 .none,kR P "_wall" 193 21,kR P "StretchError" 213 31,kR P "NotLetBy" 238 51,kR P "NoMake" 254 63,kR P "NoStretch" 270 75,kR P "NoValue" 286 87,kR P "NoDeed" 302 99,kR P "TooGreat" 318 111,kR P "is_whole" 327 120,kR P "is_within" 338 127,kR P "nothing_fails" 348 134,kR P "parting_fails" 360 141,kR P "doing_fails" 376 148,kR P "deeds_fail" 387 155,kR P "what_fails" 395 162,kR P "check_let_by" 403 169,kR P "Knot" 446 186,kR P "leaf_of" 453 197,kR P "knot_of" 462 204,kR P "tree_of" 471 211,kR P "size_of" 478 218,kR P "both_waits" 487 225,kR P "done_all" 498 232,kR P "turned_all" 506 239,kR P "parts_of" 516 246,kR P "gather" 531 253,kR P "row_of" 540 260,kR P "leaned_left" 551 267,kR P "leaned_right" 562 274,kR P "evened" 571 281,kR P "put_together" 581 288,kR P "parted_at" 593 295,kE P "MOST_IN_ROW" 597<|.int (300) 596,kR P "check_place" 606 302,kR P "check_size" 613 309,kR P "Makes" 796 438,kR P "firm" 804 447,kR P "Ways" 916 530,kR P "_law_draw" 930 541,kR P "_law_digits" 940 548,kR P "_law_names" 957 555,kR P "_law_part_join" 968 562,kR P "_law_part_done" 974 567,kR P "_law_parts" 982 574,kR P "_law_split" 993 581,kR P "_law_laid" 1004 588,kR P "_law_order" 1014 595,kR P "_law_algebra" 1020 600,kR P "_law_by_digits" 1026 605,kR P "_law_is_good" 1032 610,kR P "_law_does" 1047 617,kR P "_law_any" 1055 624,kR P "_law_copy" 1061 629,kR P "_law_deed" 1067 634,kR P "_law_row" 1077 641,kR P "_law_is_list" 1083 646,kR P "_law_is_number" 1091 653,kR P "_law_places" 1102 660,kR P "law" 1108 665]
def K(P:Params):Frag:=
 (nat_lit 3,kD (kE P "__name__" 165 hvh::hen P) 68)::
 (nat_lit 119,hc7 "is_whole" "is_whole" 321 325 23 1 114)::
 (nat_lit 120,kF "is_whole" "is_whole" Wh hvc<|.ref 119)::
 (nat_lit 126,hc7 "is_within" "is_within" 330 336 26 3 121)::
 (nat_lit 127,kF "is_within" "is_within" Y1 hvd<|.ref 126)::
 (nat_lit 133,hc7 "nothing_fails" "nothing_fails" 339 346 28 1 128)::
 (nat_lit 134,kF "nothing_fails" "nothing_fails" wW hvd<|.ref 133)::
 (nat_lit 140,hc7 "parting_fails" "parting_fails" 349 358 35 1 135)::
 (nat_lit 141,kF "parting_fails" "parting_fails" va hvd<|.ref 140)::
 (nat_lit 147,hc7 "doing_fails" "doing_fails" 361 374 44 3 142)::
 (nat_lit 148,kF "doing_fails" "doing_fails" Zs hvd<|.ref 147)::
 (nat_lit 154,hc7 "deeds_fail" "deeds_fail" 377 385 55 1 149)::
 (nat_lit 155,kF "deeds_fail" "deeds_fail" Z_ hvd<|.ref 154)::
 (nat_lit 161,hc7 "what_fails" "what_fails" 388 393 64 1 156)::
 (nat_lit 162,kF "what_fails" "what_fails" Z4 hvd<|.ref 161)::
 (nat_lit 168,hc7 "check_let_by" "check_let_by" 396 401 71 1 163)::
 (nat_lit 169,kF "check_let_by" "check_let_by" vO hvd<|.ref 168)::
 (nat_lit 182,hc7 "__init__" "Knot.__init__" 418 428 78 7 177)::
 (nat_lit 183,kF "__init__" "Knot.__init__" wR hve<|.ref 182)::
 (nat_lit 185,kD [kE P "__module__" 413 hve,kE P "__firstlineno__" 417<|.int (76) 416,kR P "__init__" 430 183,kR P "__static_attributes__" 439 184,kR P "__dict__" 441 187,kR P "__weakref__" 443 188,kE P "__doc__" 444 .none] 4)::
 (nat_lit 186,⟨(.type "type"),none,.cls {name:="Knot",bases:=[(.type "object")],mro:=[(.ref 186),(.type "object")],ns:=185,qualname:="Knot",hasDict:=true,slotNames:=[],subclasses:=[],abstract:=false,collection:=none,hasDel:=false},#[none,none,some<|.str "Knot" 406,some<|.str "Knot" 414,some<|.builtin "object.__new__",some<|.bool true]⟩)::
 (nat_lit 196,hc7 "leaf_of" "leaf_of" 447 451 87 1 191)::
 (nat_lit 197,kF "leaf_of" "leaf_of" Qu hve<|.ref 196)::
 (nat_lit 203,hc7 "knot_of" "knot_of" 454 460 89 3 198)::
 (nat_lit 204,kF "knot_of" "knot_of" Qn hve<|.ref 203)::
 (nat_lit 210,hc7 "tree_of" "tree_of" 463 469 91 2 205)::
 (nat_lit 211,kF "tree_of" "tree_of" Qo hve<|.ref 210)::
 (nat_lit 217,hc7 "size_of" "size_of" 472 476 98 1 212)::
 (nat_lit 218,kF "size_of" "size_of" Qr hve<|.ref 217)::
 (nat_lit 224,hc7 "both_waits" "both_waits" 479 485 100 3 219)::
 (nat_lit 225,kF "both_waits" "both_waits" Z9 hve<|.ref 224)::
 (nat_lit 231,hc7 "done_all" "done_all" 488 496 106 3 226)::
 (nat_lit 232,kF "done_all" "done_all" Wp hve<|.ref 231)::
 (nat_lit 238,hc7 "turned_all" "turned_all" 499 504 114 2 233)::
 (nat_lit 239,kF "turned_all" "turned_all" Z5 hve<|.ref 238)::
 (nat_lit 245,hc7 "parts_of" "parts_of" 507 514 118 2 240)::
 (nat_lit 246,kF "parts_of" "parts_of" WH hve<|.ref 245)::
 (nat_lit 252,hc7 "gather" "gather" 517 529 127 5 247)::
 (nat_lit 253,kF "gather" "gather" RO hve<|.ref 252)::
 (nat_lit 259,hc7 "row_of" "row_of" 532 538 136 2 254)::
 (nat_lit 260,kF "row_of" "row_of" UH hve<|.ref 259)::
 (nat_lit 266,hc7 "leaned_left" "leaned_left" 541 549 141 3 261)::
 (nat_lit 267,kF "leaned_left" "leaned_left" Zt hve<|.ref 266)::
 (nat_lit 273,hc7 "leaned_right" "leaned_right" 552 560 147 3 268)::
 (nat_lit 274,kF "leaned_right" "leaned_right" vL hve<|.ref 273)::
 (nat_lit 280,hc7 "evened" "evened" 563 569 153 3 275)::
 (nat_lit 281,kF "evened" "evened" Rh hve<|.ref 280)::
 (nat_lit 287,hc7 "put_together" "put_together" 572 579 159 3 282)::
 (nat_lit 288,kF "put_together" "put_together" vp hve<|.ref 287)::
 (nat_lit 294,hc7 "parted_at" "parted_at" 582 591 171 3 289)::
 (nat_lit 295,kF "parted_at" "parted_at" Y0 hve<|.ref 294)::
 (nat_lit 301,hc7 "check_place" "check_place" 598 604 185 3 296)::
 (nat_lit 302,kF "check_place" "check_place" Zm hvf<|.ref 301)::
 (nat_lit 308,hc7 "check_size" "check_size" 607 611 188 1 303)::
 (nat_lit 309,kF "check_size" "check_size" Yd hvf<|.ref 308)::
 (nat_lit 322,hc7 "__init__" "Makes.__init__" 626 631 193 2 317)::
 (nat_lit 323,kF "__init__" "Makes.__init__" x5 hvf<|.ref 322)::
 (nat_lit 329,hc7 "keep" "Makes.keep" 634 639 197 2 324)::
 (nat_lit 330,kF "keep" "Makes.keep" Yh hvf<|.ref 329)::
 (nat_lit 336,hc7 "tree_at" "Makes.tree_at" 642 647 201 2 331)::
 (nat_lit 337,kF "tree_at" "Makes.tree_at" wY hvf<|.ref 336)::
 (nat_lit 343,hc7 "check_value" "Makes.check_value" 650 655 206 2 338)::
 (nat_lit 344,kF "check_value" "Makes.check_value" y_ hvf<|.ref 343)::
 (nat_lit 350,hc7 "three_parts" "Makes.three_parts" 658 668 210 4 345)::
 (nat_lit 351,kF "three_parts" "Makes.three_parts" xa hvf<|.ref 350)::
 (nat_lit 357,hc7 "three_together" "Makes.three_together" 671 678 218 4 352)::
 (nat_lit 358,kF "three_together" "Makes.three_together" yD hvf<|.ref 357)::
 (nat_lit 364,hc7 "made" "Makes.made" 681 687 221 2 359)::
 (nat_lit 365,kF "made" "Makes.made" Z7 hvf<|.ref 364)::
 (nat_lit 371,hc7 "done" "Makes.done" 690 700 229 5 366)::
 (nat_lit 372,kF "done" "Makes.done" Z8 hvf<|.ref 371)::
 (nat_lit 413,hc7 "listed" "Makes.listed" 751 756 251 2 408)::
 (nat_lit 414,kF "listed" "Makes.listed" vB hvf<|.ref 413)::
 (nat_lit 437,kD [kE P "__module__" 621 hvf,kE P "__firstlineno__" 625<|.int (191) 624,kR P "__init__" 633 323,kR P "keep" 641 330,kR P "tree_at" 649 337,kR P "check_value" 657 344,kR P "three_parts" 670 351,kR P "three_together" 680 358,kR P "made" 689 365,kR P "done" 702 372,kR P "turned" 712 379,kR P "changed" 722 386,kR P "put_in" 732 393,kR P "cut" 742 400,kR P "many" 750 407,kR P "listed" 758 414,kR P "asked" 768 421,kR P "walk" 776 428,kR P "first" 786 435,kR P "__static_attributes__" 789 436,kR P "__dict__" 791 439,kR P "__weakref__" 793 440,kE P "__doc__" 794 .none] 4)::
 (nat_lit 438,⟨(.type "type"),none,.cls {name:="Makes",bases:=[(.type "object")],mro:=[(.ref 438),(.type "object")],ns:=437,qualname:="Makes",hasDict:=true,slotNames:=[],subclasses:=[],abstract:=false,collection:=none,hasDel:=false},#[none,none,some<|.str "Makes" 614,some<|.str "Makes" 622,some<|.builtin "object.__new__",some<|.bool true]⟩)::
 (nat_lit 446,hc5 "firm" "firm" 799 263 1 443)::
 (nat_lit 447,kF "firm" "firm" MK hvg<|.ref 446)::
 (nat_lit 458,hc5 "__init__" "Ways.__init__" 817 267 2 455)::
 (nat_lit 459,kF "__init__" "Ways.__init__" yS hvg<|.ref 458)::
 (nat_lit 465,hc7 "is_value" "Ways.is_value" 823 828 276 2 460)::
 (nat_lit 466,kF "is_value" "Ways.is_value" vc hvg<|.ref 465)::
 (nat_lit 472,hc7 "is_deed" "Ways.is_deed" 831 836 279 2 467)::
 (nat_lit 473,kF "is_deed" "Ways.is_deed" vF hvg<|.ref 472)::
 (nat_lit 493,hc7 "join" "Ways.join" 854 860 288 3 488)::
 (nat_lit 494,kF "join" "Ways.join" YY hvg<|.ref 493)::
 (nat_lit 514,hc7 "wait_of" "Ways.wait_of" 879 884 297 2 509)::
 (nat_lit 515,kF "wait_of" "Ways.wait_of" vQ hvg<|.ref 514)::
 (nat_lit 519,hc5 "behind" "Ways.behind" 887 300 3 516)::
 (nat_lit 520,kF "behind" "Ways.behind" Zn hvg<|.ref 519)::
 (nat_lit 526,hc7 "made" "Ways.made" 893 900 303 4 521)::
 (nat_lit 527,kF "made" "Ways.made" YZ hvg<|.ref 526)::
 (nat_lit 529,kD [kE P "__module__" 812 hvg,kE P "__firstlineno__" 816<|.int (265) 815,kR P "__init__" 822 459,kR P "is_value" 830 466,kR P "is_deed" 838 473,kR P "is_sign" 846 480,kR P "nothing" 853 487,kR P "join" 862 494,kR P "has_sign" 871 501,kR P "idle" 878 508,kR P "wait_of" 886 515,kR P "behind" 892 520,kR P "made" 902 527,kR P "__static_attributes__" 909 528,kR P "__dict__" 911 531,kR P "__weakref__" 913 532,kE P "__doc__" 914 .none] 4)::
 (nat_lit 530,⟨(.type "type"),none,.cls {name:="Ways",bases:=[(.type "object")],mro:=[(.ref 530),(.type "object")],ns:=529,qualname:="Ways",hasDict:=true,slotNames:=[],subclasses:=[],abstract:=false,collection:=none,hasDel:=false},#[none,none,some<|.str "Ways" 805,some<|.str "Ways" 813,some<|.builtin "object.__new__",some<|.bool true]⟩)::
 (nat_lit 540,hc7 "_law_draw" "_law_draw" 919 928 306 2 535)::
 (nat_lit 541,kF "_law_draw" "_law_draw" X9 hvh<|.ref 540)::
 (nat_lit 547,hc7 "_law_digits" "_law_digits" 931 938 318 2 542)::
 (nat_lit 548,kF "_law_digits" "_law_digits" Yi hvh<|.ref 547)::
 (nat_lit 554,hc7 "_law_names" "_law_names" 941 955 324 2 549)::
 (nat_lit 555,kF "_law_names" "_law_names" YX hvh<|.ref 554)::
 (nat_lit 561,hc7 "_law_part_join" "_law_part_join" 958 966 339 3 556)::
 (nat_lit 562,kF "_law_part_join" "_law_part_join" w_ hvh<|.ref 561)::
 (nat_lit 566,hc5 "_law_part_done" "_law_part_done" 969 348 4 563)::
 (nat_lit 567,kF "_law_part_done" "_law_part_done" vb hvh<|.ref 566)::
 (nat_lit 573,hc7 "_law_parts" "_law_parts" 975 980 359 1 568)::
 (nat_lit 574,kF "_law_parts" "_law_parts" Y6 hvh<|.ref 573)::
 (nat_lit 580,hc7 "_law_split" "_law_split" 983 991 364 2 575)::
 (nat_lit 581,kF "_law_split" "_law_split" Xc hvh<|.ref 580)::
 (nat_lit 587,hc7 "_law_laid" "_law_laid" 994 1002 370 2 582)::
 (nat_lit 588,kF "_law_laid" "_law_laid" Wc hvh<|.ref 587)::
 (nat_lit 594,hc7 "_law_order" "_law_order" 1005 1012 375 2 589)::
 (nat_lit 595,kF "_law_order" "_law_order" Y7 hvh<|.ref 594)::
 (nat_lit 599,hc5 "_law_algebra" "_law_algebra" 1015 381 2 596)::
 (nat_lit 600,kF "_law_algebra" "_law_algebra" Zk hvh<|.ref 599)::
 (nat_lit 604,hc5 "_law_by_digits" "_law_by_digits" 1021 407 1 601)::
 (nat_lit 605,kF "_law_by_digits" "_law_by_digits" wO hvh<|.ref 604)::
 (nat_lit 609,hc5 "_law_is_good" "_law_is_good" 1027 424 1 606)::
 (nat_lit 610,kF "_law_is_good" "_law_is_good" Zp hvh<|.ref 609)::
 (nat_lit 616,hc7 "_law_does" "_law_does" 1033 1045 437 5 611)::
 (nat_lit 617,kF "_law_does" "_law_does" X7 hvh<|.ref 616)::
 (nat_lit 623,hc7 "_law_any" "_law_any" 1048 1053 445 1 618)::
 (nat_lit 624,kF "_law_any" "_law_any" Qx hvh<|.ref 623)::
 (nat_lit 628,hc5 "_law_copy" "_law_copy" 1056 451 1 625)::
 (nat_lit 629,kF "_law_copy" "_law_copy" Wi hvh<|.ref 628)::
 (nat_lit 633,hc5 "_law_deed" "_law_deed" 1062 455 3 630)::
 (nat_lit 634,kF "_law_deed" "_law_deed" Wj hvh<|.ref 633)::
 (nat_lit 640,hc7 "_law_row" "_law_row" 1068 1075 458 3 635)::
 (nat_lit 641,kF "_law_row" "_law_row" Qm hvh<|.ref 640)::
 (nat_lit 645,hc5 "_law_is_list" "_law_is_list" 1078 463 2 642)::
 (nat_lit 646,kF "_law_is_list" "_law_is_list" Zu hvh<|.ref 645)::
 (nat_lit 652,hc7 "_law_is_number" "_law_is_number" 1084 1089 467 2 647)::
 (nat_lit 653,kF "_law_is_number" "_law_is_number" wM hvh<|.ref 652)::
 (nat_lit 659,hc7 "_law_places" "_law_places" 1092 1100 469 2 654)::
 (nat_lit 660,kF "_law_places" "_law_places" Yb hvh<|.ref 659)::
 (nat_lit 664,hc5 "law" "law" 1103 478 1 661)::
 (nat_lit 665,kF "law" "law" OK hvh<|.ref 664)::
 []
noncomputable def kA:List Addr:=[3,119,120,126,127,133,134,140,141,147,148,154,155,161,162,168,169,182,183,185,186,196,197,203,204,210,211,217,218,224,225,231,232,238,239,245,246,252,253,259,260,266,267,273,274,280,281,287,288,294,295,301,302,308,309,322,323,329,330,336,337,343,344,350,351,357,358,364,365,371,372,413,414,437,438,446,447,458,459,465,466,472,473,493,494,514,515,519,520,526,527,529,530,540,541,547,548,554,555,561,562,566,567,573,574,580,581,587,588,594,595,599,600,604,605,609,610,616,617,623,624,628,629,633,634,640,641,645,646,652,653,659,660,664,665]
def qv:Program:={hpg with main:={hpg.main with body:=[0,2,3,4,5,6,7,8,10,12,13,14,15,16,17,18,20,21,22,23,24,25,26,27,28,29,30,31,32,33,34,35,37,38,39,40,42,43,45,46,47,48,49,50,51,52,53,54,55,56,57,58,59,60,61,62,63,64,65].map top}}
theorem kAe(P:Params):kA=(K P).map (·.1):=by kernel_rfl
set_option maxRecDepth 100000
theorem ws:PySem.Challenge.rw_stretchdeeds_k41_deeds_on_stretches.wellSaid=true:=by kernel_rfl
abbrev Xt(s:Shared):Bool:=xlAt qv [] s&&recOk (RowW.records<|OpenRow.toRowW PySem.Challenge.rw_stretchdeeds_k41_deeds_on_stretches.row) s
abbrev hk:Hook:=kHook K kA kAe
def htp(l:List Value):Obj:=⟨.type "tuple",none,.seq l.toArray 0,#[]⟩
noncomputable def htx:Nat->List Str->List Value
 |_,[]=>[]
 |t,x::l=>.str x t::htx (t+1) l
noncomputable def hfO(a t:Nat)(r:Str)(v:Value)(s:Stmt):List Obj:=match s with
 | .FunctionDef n p b _ _ _ c _ _ o=>
  let q:=r++n;let S:Obj:=⟨.none,none,.func {name:=n,qualname:=q,params:=p,body:=.stmts b,scope:=c,globals:=0,closure:=[],defaults:=.none,kwdefaults:=.none},#[]⟩
  match localNames p c (.stmts b) with
  |some (x,_)=>[htp [],hfl .none [],htp<|htx (t+3) x,htp [],S,hc7 n q t (t+3+x.length) o.line p.args.length a,kF n q s v<|.ref<|a+5]
  |none=>[htp [],hfl .none [],S,hc5 n q t o.line p.args.length a,kF n q s v<|.ref<|a+3]
 |_=>[]
noncomputable def htk(s:Stmt):Nat:=match s with
 | .FunctionDef _ p b _ _ _ c _ _ _=>match localNames p c (.stmts b) with
  |some (x,_)=>6+x.length
  |none=>6
 |_=>0
noncomputable def hms(P:Params)(c:Str)(v:Value):Nat->Nat->List Stmt->List Obj×List DictEntry×List Value×Nat
 |_,t,[]=>([],[],[],t)
 |a,t,s::r=>match s with
  | .FunctionDef n _ _ _ _ _ _ _ _ o=>let f:=hfO a t (c++".") v s;let l:=a+f.length;let u:=t+htk s;let z:=hms P c v l u r;(f++z.1,kR P n (u-1) (l-1)::z.2.1,.int o.line 0:: .int 4 0:: .ref (l-2)::z.2.2.1,z.2.2.2)
  |_=>hms P c v a t r
noncomputable def hfm(a b:Addr)(v:Value):Obj:=⟨.type "frame",none,.plain,#[some<|.ref a,some<|.ref 3,some<|.ref b,none,some v,none,some<|.ref 0]⟩
def hbf(x:String)(v:Value):Obj:=hfl (.type "builtin_function_or_method") [.builtin x,v]
def hgd(x:Str)(t:Nat)(c:Addr)(g s:Value):Obj:=hfl (.type "getset_descriptor") [.str x t,.ref c,g,s]
noncomputable def hcO(P:Params)(a t:Nat)(v:Value)(bv mr sb:List Value)(nw:String)(d:Nat)(s:Stmt):List Obj:=match s with
 | .ClassDef n _ _ b _ _ _ _ _ sa o=>
  let m:=hms P n v (a+7) (t+12) b;let e:=a+7+m.1.length;let k:=m.2.2.2+sa.length;let z:=k+1;let C:=e+2
  let x:=kE P "__module__" (t+7) v;let f:=kE P "__firstlineno__" (t+11)<|.int o.line<|t+10;let y:=kR P "__static_attributes__" k e
  let W:=λt:Nat=>hgd "__weakref__" t C (.builtin "ExceptionGroup.__weakref__") .none
  let D:List DictEntry×List Obj:=match d with
   |0=>([],[])
   |1=>([kR P "__weakref__" (z+1)<|C+1],[W z])
   |_=>([kR P "__dict__" (z+1)<|C+1,kR P "__weakref__" (z+3)<|C+2],[hgd "__dict__" z C (.builtin "function.__dict__")<|.builtin "function.__dict__#set",W<|z+2])
  [htp bv,hbf "type.__prepare__" (.type "type"),kD (x::kE P "__qualname__" (t+9) (.str n<|t+8)::f::m.2.1++[y])<|4+m.2.1.length,htp [],hfl .none m.2.2.1,hco n n (t+2) (t+5) o.line 0 0 false (a+3) .none .none .none,hfm (a+5) (a+2) v]++m.1++[htp<|htx m.2.2.2 sa,kD (x::f::m.2.1++y::D.1++[kE P "__doc__" (z+2*d) .none])<|2+d,⟨.type "type",none,.cls {name:=n,bases:=if bv.isEmpty then [.type "object"] else bv,mro:=.ref C::mr,ns:=e+1,qualname:=n,hasDict:=true,slotNames:=[],subclasses:=sb},#[if bv.isEmpty then none else some<|.ref a,none,some<|.str n t,some<|.str n<|t+8,some<|.builtin nw,some<|.bool true]⟩]++D.2++[hfl (.type "super") [.ref C,.ref C,.ref C],hbf "object.__init_subclass__" (.ref C)]
 |_=>[]
noncomputable def hcs:List (Int×Addr):=[(1,20),(5,27),(7,40),(12,59),(14,71),(16,83),(18,95),(20,107),(23,119),(26,126),(28,133),(35,140),(44,147),(55,154),(64,161),(71,168),(76,175),(87,196),(89,203),(91,210),(98,217),(100,224),(106,231),(114,238),(118,245),(127,252),(136,259),(141,266),(147,273),(153,280),(159,287),(171,294),(185,301),(188,308),(191,315),(263,446),(265,453),(306,540),(318,547),(324,554),(339,561),(348,566),(359,573),(364,580),(370,587),(375,594),(381,599),(407,604),(424,609),(437,616),(445,623),(451,628),(455,633),(458,640),(463,645),(467,652),(469,659),(478,664)]
noncomputable def hhp(P:Params)(v:Value)(g c:Nat)(l:List Obj):Heap:=⟨⟨boot_o_0 P::boot_o_1 P::boot_o_2 P::kD (kE P "__name__" 165 v::(hen P).take g) (g+1)::boot_o_4 P::boot_o_5 P::boot_o_6 P::boot_o_7 P::boot_o_8 P::boot_o_9 P::boot_o_10 P::htp []::hfl .none ((hcs.take c).flatMap λp=>[.int p.1 0,.int 0 0,.ref p.2])::hco "<module>" "<module>" 182 185 1 0 0 false 11 .none .none .none::hfm 13 3 (.str "__main__" 164)::l⟩,(boot_heap P).life⟩
abbrev hbd:=behindTheImports hpg
abbrev hev:Env:={scope:=hpg.main.scope,locals:=mainNs,globals:=mainNs,cells:=[],code:=.ref 13,frame:=some 14}
abbrev hcd:Code:=.body hbd hev
noncomputable abbrev hSh(t:Nat)(h:Heap)(o:OsState):Shared:=⟨h,⟨[]⟩,boot_drawn,t,o⟩
def hl0(P:Params):List Obj:=hfO 15 187 "" hva (top 0)++hcO P 22 196 hvb [(.type "ValueError")] hem [(.ref 51),(.ref 63),(.ref 75),(.ref 87),(.ref 99),(.ref 111)] "ValueError.__new__" 1 (top 2)++hcO P 35 214 hvb [(.ref 31)] ((.ref 31)::hem) [] "ValueError.__new__" 0 (top 3)++hcO P 54 239 hvb [(.ref 31)] ((.ref 31)::hem) [] "ValueError.__new__" 0 (top 4)++hcO P 66 255 hvb [(.ref 31)] ((.ref 31)::hem) [] "ValueError.__new__" 0 (top 5)++hcO P 78 271 hvb [(.ref 31)] ((.ref 31)::hem) [] "ValueError.__new__" 0 (top 6)++hcO P 90 287 hvb [(.ref 31)] ((.ref 31)::hem) [] "ValueError.__new__" 0 (top 7)++hcO P 102 303 hvb [(.ref 31)] ((.ref 31)::hem) [] "ValueError.__new__" 0 (top 8)
def hl1(P:Params):List Obj:=hl0 P++hfO 114 321 "" hvc (top 10)++hfO 121 330 "" hvd (top 12)++hfO 128 339 "" hvd (top 13)++hfO 135 349 "" hvd (top 14)++hfO 142 361 "" hvd (top 15)++hfO 149 377 "" hvd (top 16)++hfO 156 388 "" hvd (top 17)++hfO 163 396 "" hvd (top 18)++hcO P 170 406 hve [] [(.type "object")] [] "object.__new__" 2 (top 20)++hfO 191 447 "" hve (top 21)++hfO 198 454 "" hve (top 22)++hfO 205 463 "" hve (top 23)++hfO 212 472 "" hve (top 24)++hfO 219 479 "" hve (top 25)++hfO 226 488 "" hve (top 26)++hfO 233 499 "" hve (top 27)++hfO 240 507 "" hve (top 28)++hfO 247 517 "" hve (top 29)++hfO 254 532 "" hve (top 30)++hfO 261 541 "" hve (top 31)++hfO 268 552 "" hve (top 32)++hfO 275 563 "" hve (top 33)++hfO 282 572 "" hve (top 34)++hfO 289 582 "" hve (top 35)
def hl2(P:Params):List Obj:=hl1 P++hfO 296 598 "" hvf (top 38)++hfO 303 607 "" hvf (top 39)++hcO P 310 614 hvf [] [(.type "object")] [] "object.__new__" 2 (top 40)++hfO 443 799 "" hvg (top 42)
def hl3(P:Params):List Obj:=hl2 P++hcO P 448 805 hvg [] [(.type "object")] [] "object.__new__" 2 (top 43)++hfO 535 919 "" hvh (top 45)++hfO 542 931 "" hvh (top 46)++hfO 549 941 "" hvh (top 47)++hfO 556 958 "" hvh (top 48)++hfO 563 969 "" hvh (top 49)++hfO 568 975 "" hvh (top 50)++hfO 575 983 "" hvh (top 51)++hfO 582 994 "" hvh (top 52)++hfO 589 1005 "" hvh (top 53)++hfO 596 1015 "" hvh (top 54)++hfO 601 1021 "" hvh (top 55)++hfO 606 1027 "" hvh (top 56)++hfO 611 1033 "" hvh (top 57)++hfO 618 1048 "" hvh (top 58)
def hl4(P:Params):List Obj:=hl3 P++hfO 625 1056 "" hvh (top 59)++hfO 630 1062 "" hvh (top 60)++hfO 635 1068 "" hvh (top 61)++hfO 642 1078 "" hvh (top 62)++hfO 647 1084 "" hvh (top 63)++hfO 654 1092 "" hvh (top 64)++hfO 661 1103 "" hvh (top 65)
theorem hr0(w:World)(o:OsState):topGo treeTable hpg w 11 (some<|.ref 6) 12 (hSh boot_toks (boot_heap w.params) o) (topStub hpg)=some (hSh 187 (hhp w.params (.str "__main__" 164) 8 0 []) o,⟨denote treeTable hcd,hcd,⟨0,0,0,0⟩,[topFrame ⟨0,0,0,0⟩]⟩):=by kernel_rfl
theorem hr1(w:World)(o:OsState):segRun treeTable hpg w 11 (some<|.ref 6) 1 1 (hSh 187 (hhp w.params (.str "__main__" 164) 8 0 []) o) (blockOf hbd hev hcd ⟨0,0,0,0⟩ [topFrame ⟨0,0,0,0⟩])=some (.next,hSh 187 (hhp w.params (.str "__main__" 164) 8 0 []) o,hcd,⟨0,0,0,0⟩):=by kernel_rfl
theorem hs0(w:World)(o:OsState):segRun treeTable hpg w 11 (some<|.ref 6) 1 1535 (hSh 187 (hhp w.params (.str "__main__" 164) 8 0 []) o) (piecesOf (hbd.take 9) hev hcd ⟨0,0,0,0⟩ [topFrame ⟨0,0,0,0⟩])=some (.next,hSh 319 (hhp w.params hvb 16 8<|hl0 w.params) o,hcd,⟨20,0,21,8⟩):=by kernel_rfl
abbrev hb0:=hbd.drop 9
theorem hs1(w:World)(o:OsState):segRun treeTable hpg w 11 (some<|.ref 6) 1 996 (hSh 319 (hhp w.params hvb 16 8<|hl0 w.params) o) (piecesOf (hb0.take 27) hev hcd ⟨20,0,21,8⟩ [topFrame ⟨0,0,0,0⟩])=some (.next,hSh 594 (hhp w.params hve 40 32<|hl1 w.params) o,hcd,⟨171,0,182,58⟩):=by kernel_rfl
abbrev hb1:=hb0.drop 27
theorem hs2(w:World)(o:OsState):segRun treeTable hpg w 11 (some<|.ref 6) 1 874 (hSh 594 (hhp w.params hve 40 32<|hl1 w.params) o) (piecesOf (hb1.take 7) hev hcd ⟨171,0,182,58⟩ [topFrame ⟨0,0,0,0⟩])=some (.next,hSh 805 (hhp w.params hvg 45 36<|hl2 w.params) o,hcd,⟨263,0,264,46⟩):=by kernel_rfl
abbrev hb2:=hb1.drop 7
theorem hs3(w:World)(o:OsState):segRun treeTable hpg w 11 (some<|.ref 6) 1 988 (hSh 805 (hhp w.params hvg 45 36<|hl2 w.params) o) (piecesOf (hb2.take 16) hev hcd ⟨263,0,264,46⟩ [topFrame ⟨0,0,0,0⟩])=some (.next,hSh 1056 (hhp w.params hvh 60 51<|hl3 w.params) o,hcd,⟨445,0,450,39⟩):=by kernel_rfl
abbrev hb3:=hb2.drop 16
theorem hs4(w:World)(o:OsState):topRun treeTable hpg w 11 (some<|.ref 6) 202 (hSh 1056 (hhp w.params hvh 60 51<|hl3 w.params) o) (restOf hb3 hev hcd ⟨445,0,450,39⟩ [topFrame ⟨0,0,0,0⟩])=some (hSh 1109 (hhp w.params hvh 67 58<|hl4 w.params) o):=by kernel_rfl
theorem hpa{w:World}{n N t t':Nat}{h h':Heap}{o:OsState}{r:Shared}{b:List Stmt}(m:Nat){p p':Pos}(x:segRun treeTable hpg w 11 (some<|.ref 6) 1 n (hSh t h o) (piecesOf (b.take m) hev hcd p [topFrame ⟨0,0,0,0⟩])=some (.next,hSh t' h' o,hcd,p'))(y:topRun treeTable hpg w 11 (some<|.ref 6) N (hSh t' h' o) (restOf (b.drop m) hev hcd p' [topFrame ⟨0,0,0,0⟩])=some r):topRun treeTable hpg w 11 (some<|.ref 6) (n+N) (hSh t h o) (restOf b hev hcd p [topFrame ⟨0,0,0,0⟩])=some r:=by
 have z:=piece_app x y;rwa[List.take_append_drop] at z
theorem hhr(w:World)(o:OsState):topRun treeTable hpg w 11 (some<|.ref 6) (12+(1+(1535+(996+(874+(988+202)))))) (hSh boot_toks (boot_heap w.params) o) (topStub hpg)=some (hSh 1109 (hhp w.params hvh 67 58<|hl4 w.params) o):=go_top (hr0 w o)<|piece_block (hr1 w o)<|hpa _ (hs0 w o)<|hpa _ (hs1 w o)<|hpa _ (hs2 w o)<|hpa _ (hs3 w o)<|hs4 w o
def hhf(P:Params):Heap:=hhp P hvh 67 58<|hl4 P
theorem hhq(w:World):(λo=>((staticsOk (importedModules hpg.main.body) (boot_heap w.params) (hhf w.params)&&namesBound hpg (hhf w.params)&&gensDone (hSh 1109 (hhf w.params) o)&&laidKept (boot_heap w.params) (hhf w.params)),openSeen qv [] (importedModules hpg.main.body) Xt true<|hSh 1109 (hhf w.params) o,hk.obs<|hSh 1109 (hhf w.params) o))=λ_=>(true,openGood qv [],hk.val w):=by kernel_rfl
theorem hl:LeftO PySem.Challenge.pw_stretchdeeds_k41_deeds_on_stretches qv [] Xt hk.obs hk.val 8000:=LeftO.of_pieces (H₀:=boot_heap) (H₁:=hhf) (boot_open (by kernel_rfl) rfl λ_=>by kernel_rfl) (λ_=>by kernel_rfl) hhr rfl hhq
end G41
end
section
namespace PF
open PySem PySem.Spec PyProof.Rows L2
abbrev St:=L2.St
structure KD where
 d:Addr->List (Key×V)->Prop
 c:Str->Addr
instance:CoeFun KD (λ_=>Addr->List (Key×V)->Prop):=⟨KD.d⟩
inductive D where
 |non|bl (b:Bool)|int (i:Int)|str (x:Str)|tup (ds:List D)|lst (ds:List D)|dct (kvs:List (Key×D))|cl (c:Str)|ob (c:Str) (ns:List Str) (ds:List D)
mutual
inductive Rp(K:zzA)(kd:KD)(O:Addr->Prop)(H:Hp):V->D->Prop
 |non:Rp K kd O H .non .non
 |bl (b:Bool):Rp K kd O H (.bl b) (.bl b)
 |int (i:Int):Rp K kd O H (.int i) (.int i)
 |str (x:Str):Rp K kd O H (.str x) (.str x)
 |tup {a:Addr}{vs:List V}{ds:List D}:¬O a->Rd H a (.tup vs)->RpL K kd O H vs ds->Rp K kd O H (.ref a) (.tup ds)
 |tupK {a:Addr}{o:Obj}{its:Array Value}{n:Nat}{vs:List V}{ds:List D}:K.lookup a=some o->o.cls = .type "tuple"->o.data = .seq its n->its.size<=sizeLine->zP vs its.toList->RpL K kd O H vs ds->Rp K kd O H (.ref a) (.tup ds)
 |lst {a:Addr}{vs:List V}{ds:List D}:¬O a->Rd H a (.lst vs)->RpL K kd O H vs ds->Rp K kd O H (.ref a) (.lst ds)
 |lstK {a:Addr}{its:Array Value}{n:Nat}{vs:List V}{ds:List D}:K.lookup a=some {cls:=.type "list",data:=.seq its n}->its.size<=sizeLine->zP vs its.toList->RpL K kd O H vs ds->Rp K kd O H (.ref a) (.lst ds)
 |dct {a:Addr}{kvs:List (Key×V)}{ds:List (Key×D)}:¬O a->Rd H a (.dK kvs)->RpM K kd O H kvs ds->Rp K kd O H (.ref a) (.dct ds)
 |dctK {a:Addr}{kvs:List (Key×V)}{ds:List (Key×D)}:kd a kvs->RpM K kd O H kvs ds->Rp K kd O H (.ref a) (.dct ds)
 |cl (c:Str):Rp K kd O H (.ref (kd.c c)) (.cl c)
 |ob {a dx:Addr}{c:Str}{ns:List Str}{vs:List V}{ds:List D}:¬O a->H a=some (.ins (kd.c c) dx (ns.zip vs))->ns.length=vs.length->RpL K kd O H vs ds->Rp K kd O H (.ref a) (.ob c ns ds)
inductive RpL(K:zzA)(kd:KD)(O:Addr->Prop)(H:Hp):List V->List D->Prop
 |nil:RpL K kd O H [] []
 |cons {v:V}{d:D}{vs:List V}{ds:List D}:Rp K kd O H v d->RpL K kd O H vs ds->RpL K kd O H (v::vs) (d::ds)
inductive RpM(K:zzA)(kd:KD)(O:Addr->Prop)(H:Hp):List (Key×V)->List (Key×D)->Prop
 |nil:RpM K kd O H [] []
 |cons {k:Key}{v:V}{d:D}{vs:List (Key×V)}{ds:List (Key×D)}:Rp K kd O H v d->RpM K kd O H vs ds->RpM K kd O H ((k,v)::vs) ((k,d)::ds)
end
structure Grow(W:Addr->Prop)(H:Hp)(W':Addr->Prop)(H':Hp):Prop where
 keep:∀b o,H b=some o->¬W b->H' b=some o
 own:∀b,W' b->W b\/H b=none
def Grow.refl:Grow W H W H:=⟨λ_ _ h _=>h,λ_ h=>.inl h⟩
def Grow.trans(a:Grow W H W1 H1)(b:Grow W1 H1 W2 H2):Grow W H W2 H2 where
 keep:=λx o h n=>b.keep x o (a.keep x o h n) λq=>(a.own x q).elim n λz=>by rw[z]at h;cases h
 own:=λx q=>by
  rcases b.own x q with h|h
  . exact a.own x h
  . cases e:H x with
    |none=>exact .inr rfl
    |some o=>
     refine .inl<|Classical.byContradiction λn=>?_;rw[a.keep x o e n]at h;cases h
def Grow.less(h:∀a,W' a->W a):Grow W H W' H:=⟨λ_ _ q _=>q,λb q=>.inl<|h b q⟩
abbrev VA(F W:Addr->Prop):Addr->Prop:=λa=>F a\/W a
section
variable{K:zzA}{kd:KD}{F W W':Addr->Prop}{H H':Hp}
def Rv(g:Grow W H W' H')(n:¬W a)(h:Rd H a u):Rd H' a u:=by
 rcases h with h|⟨o,h⟩
 . exact .inl<|g.keep _ _ h n
 . exact .inr ⟨o,g.keep _ _ h n⟩
def uA(h:Rd H a u):H a≠none:=by
 rcases h with h|⟨o,h⟩<;>(rw[h];simp)
def RI(g:Grow W H W' H')(n:¬VA F W a)(h:Rd H a u):¬VA F W' a:=λq=>
 q.elim (λz=>n<|.inl z) λz=>(g.own a z).elim (λy=>n<|.inr y) λy=>uA h y
def Rp.grow(g:Grow W H W' H')(h:Rp K kd (VA F W) H v d):Rp K kd (VA F W') H' v d:=
 Rp.rec .non .bl .int .str (λn h _ r=>.tup (RI g n h) (Rv g (λz=>n<|.inr z) h) r) (λa b c e f _ r=>.tupK a b c e f r) (λn h _ r=>.lst (RI g n h) (Rv g (λz=>n<|.inr z) h) r) (λa e f _ r=>.lstK a e f r) (λn h _ r=>.dct (RI g n h) (Rv g (λz=>n<|.inr z) h) r) (λh _ r=>.dctK h r) .cl (λn h l _ r=>.ob (RI g n<|.inl h) (g.keep _ _ h λz=>n<|.inr z) l r) .nil (λ_ _ h r=>.cons h r) .nil (λ_ _ h r=>.cons h r) h
def RpL.ind{P:List V->List D->Prop}(h0:P [] [])(h1:∀{v d vs ds},Rp K kd O H v d->RpL K kd O H vs ds->P vs ds->P (v::vs) (d::ds))(h:RpL K kd O H vs ds):P vs ds:=
 RpL.rec (motive_1:=λ_ _ _=>True) (motive_3:=λ_ _ _=>True) ⟨⟩ (λ_=>⟨⟩) (λ_=>⟨⟩) (λ_=>⟨⟩) (λ_ _ _ _=>⟨⟩) (λ_ _ _ _ _ _ _=>⟨⟩) (λ_ _ _ _=>⟨⟩) (λ_ _ _ _ _=>⟨⟩) (λ_ _ _ _=>⟨⟩) (λ_ _ _=>⟨⟩) (λ_=>⟨⟩) (λ_ _ _ _ _=>⟨⟩) h0 (λa r _ ih=>h1 a r ih) ⟨⟩ (λ_ _ _ _=>⟨⟩) h
def RpM.ind{P:List (Key×V)->List (Key×D)->Prop}(h0:P [] [])(h1:∀{k v d vs ds},Rp K kd O H v d->RpM K kd O H vs ds->P vs ds->P ((k,v)::vs) ((k,d)::ds))(h:RpM K kd O H vs ds):P vs ds:=
 RpM.rec (motive_1:=λ_ _ _=>True) (motive_2:=λ_ _ _=>True) ⟨⟩ (λ_=>⟨⟩) (λ_=>⟨⟩) (λ_=>⟨⟩) (λ_ _ _ _=>⟨⟩) (λ_ _ _ _ _ _ _=>⟨⟩) (λ_ _ _ _=>⟨⟩) (λ_ _ _ _ _=>⟨⟩) (λ_ _ _ _=>⟨⟩) (λ_ _ _=>⟨⟩) (λ_=>⟨⟩) (λ_ _ _ _ _=>⟨⟩) ⟨⟩ (λ_ _ _ _=>⟨⟩) h0 (λa r _ ih=>h1 a r ih) h
theorem RpL.grow(g:Grow W H W' H'){vs:List V}(h:RpL K kd (VA F W) H vs ds):RpL K kd (VA F W') H' vs ds:=RpL.ind .nil (λa _ r=>.cons (Rp.grow g a) r) h
theorem RpM.grow(g:Grow W H W' H'){vs:List (Key×V)}(h:RpM K kd (VA F W) H vs ds):RpM K kd (VA F W') H' vs ds:=RpM.ind .nil (λa _ r=>.cons (Rp.grow g a) r) h
def Rp.less(g:∀a,O' a->O a)(h:Rp K kd O H v d):Rp K kd O' H v d:=
 Rp.rec .non .bl .int .str (λn h _ r=>.tup (λz=>n<|g _ z) h r) (λa b c e f _ r=>.tupK a b c e f r) (λn h _ r=>.lst (λz=>n<|g _ z) h r) (λa e f _ r=>.lstK a e f r) (λn h _ r=>.dct (λz=>n<|g _ z) h r) (λh _ r=>.dctK h r) .cl (λn h l _ r=>.ob (λz=>n<|g _ z) h l r) .nil (λ_ _ h r=>.cons h r) .nil (λ_ _ h r=>.cons h r) h
theorem RpL.less{O O':Addr->Prop}(g:∀a,O' a->O a)(h:RpL K kd O H vs ds):RpL K kd O' H vs ds:=RpL.ind .nil (λa _ r=>.cons (Rp.less g a) r) h
theorem RpM.less{O O':Addr->Prop}(g:∀a,O' a->O a)(h:RpM K kd O H vs ds):RpM K kd O' H vs ds:=RpM.ind .nil (λa _ r=>.cons (Rp.less g a) r) h
theorem RpL.length{O:Addr->Prop}(h:RpL K kd O H vs ds):vs.length=ds.length:=RpL.ind (P:=λa b=>a.length=b.length) rfl (λ_ _ r=>congrArg (· + 1) r) h
theorem RpM.length{O:Addr->Prop}(h:RpM K kd O H vs ds):vs.length=ds.length:=RpM.ind (P:=λa b=>a.length=b.length) rfl (λ_ _ r=>congrArg (· + 1) r) h
def RpL.get{vs:List V}{i:Nat}(h:RpL K kd O H vs ds)(e:ds[i]? = some d):∃v,vs[i]? = some v/\Rp K kd O H v d:=
 RpL.ind (P:=λb c=>∀i,c[i]? = some d->∃v,b[i]? = some v/\Rp K kd O H v d) (λi e=>by rw[List.getElem?_nil]at e;cases e) (λa _ f i e=>by
  cases i with
  |zero=>cases e;exact⟨_,rfl,a⟩
  |succ i=>exact f i e) h i e
def RpL.append{O:Addr->Prop}(h:RpL K kd O H vs ds)(r:RpL K kd O H ws es):RpL K kd O H (vs++ws) (ds++es):=RpL.ind (P:=λb c=>RpL K kd O H (b++ws)<|c++es) r (λa _ t=>.cons a t) h
theorem RpL.take{O:Addr->Prop}(n:Nat)(h:RpL K kd O H vs ds):RpL K kd O H (vs.take n) (ds.take n):=
 RpL.ind (P:=λb c=>∀n,RpL K kd O H (b.take n)<|c.take n) (λn=>by rw[List.take_nil,List.take_nil];exact .nil) (λa _ d n=>by
  cases n with
  |zero=>exact .nil
  |succ n=>exact .cons a (d n)) h n
theorem RpL.drop{O:Addr->Prop}(n:Nat)(h:RpL K kd O H vs ds):RpL K kd O H (vs.drop n) (ds.drop n):=
 RpL.ind (P:=λc d=>∀n,RpL K kd O H (c.drop n)<|d.drop n) (λn=>by rw[List.drop_nil,List.drop_nil];exact .nil) (λa b e n=>by
  cases n with
  |zero=>exact .cons a b
  |succ n=>exact e n) h n
theorem RpL.rep(h:RpL K kd O H vs ds):∀k:Nat,RpL K kd O H (List.replicate k vs).flatten (List.replicate k ds).flatten
 |0=>.nil
 |k+1=>by
  rw[List.replicate_succ,List.replicate_succ,List.flatten_cons,List.flatten_cons];exact h.append<|RpL.rep h k
end
inductive Vw(K:zzA)(kd:KD)(O:Addr->Prop)(H:Hp):V->D->Prop
 |non:Vw K kd O H .non .non
 |bl (b:Bool):Vw K kd O H (.bl b) (.bl b)
 |int (i:Int):Vw K kd O H (.int i) (.int i)
 |str (x:Str):Vw K kd O H (.str x) (.str x)
 |tup {a:Addr}{vs:List V}{ds:List D}:Rp K kd O H (.ref a) (.tup ds)->UE K H a vs->RpL K kd O H vs ds->Vw K kd O H (.ref a) (.tup ds)
 |lst {a:Addr}{vs:List V}{ds:List D}:AQ K H a vs->RpL K kd O H vs ds->Vw K kd O H (.ref a) (.lst ds)
 |dct {a:Addr}{kvs:List (Key×V)}{ds:List (Key×D)}:(Rd H a (.dK kvs)\/kd a kvs)->RpM K kd O H kvs ds->Vw K kd O H (.ref a) (.dct ds)
 |cl (c:Str):Vw K kd O H (.ref (kd.c c)) (.cl c)
 |ob {a dx:Addr}{c:Str}{ns:List Str}{vs:List V}{ds:List D}:H a=some (.ins (kd.c c) dx (ns.zip vs))->ns.length=vs.length->RpL K kd O H vs ds->Vw K kd O H (.ref a) (.ob c ns ds)
def Rp.vw{K}(h:Rp K kd O H v d):Vw K kd O H v d:=by
 cases h with
 |non=>exact .non
 |bl b=>exact .bl b
 |int i=>exact .int i
 |str x=>exact .str x
 |tup n h r=>exact .tup (.tup n h r) (.inl h) r
 |tupK a b c e f r=>exact .tup (.tupK a b c e f r) (.inr ⟨_,_,_,a,b,c,e,f⟩) r
 |lst n h r=>exact .lst (.inl h) r
 |lstK a e f r=>exact .lst (.inr ⟨_,_,a,e,f⟩) r
 |dct n h r=>exact .dct (.inl h) r
 |dctK h r=>exact .dct (.inr h) r
 |cl c=>exact .cl c
 |ob n h l r=>exact .ob h l r
def _root_.L2.AQ.sq{K}(h:AQ K H a xs):Vp K H a xs:=by
 rcases h with h|⟨b,n,k,z,r⟩
 . exact .inl h
 . exact .inr ⟨_,b,n,k,rfl,rfl,rfl,z,r⟩
def SA(I:Inv X pins σ H s)(h:AQ X.K H a xs):
 xs.length<=sizeLine/\∃(its:List Value) (n:Nat),zP xs its/\s.heap.get? a=some {cls:=.type "list",data:=.seq its.toArray n}:=by
 rcases h with h|⟨b,n,k,z,r⟩
 . exact h.ok I.hok
 . refine⟨by rw[r.length];simpa using z,b.toList,n,r,by simpa using I.kIn _ _ k⟩
def Rp.cl_eq{K}(h:Rp K kd O H (.ref C) (.cl c)):C=kd.c c:=by
 cases h;rfl
noncomputable def zC:D->Bool
 | .non=>true | .bl _=>true | .int _=>true | .str _=>true|_=>false
def Rp.flat{K}(h:Rp K kd O H v d)(e:zC d=true):Rp K kd O' H' v d:=by
 cases h with
 |non=>exact .non
 |bl b=>exact .bl b
 |int i=>exact .int i
 |str x=>exact .str x
 |_=>cases e
inductive Kind where
 |ls|tp|dc (ks:List Key)|ob (c:Str) (ns:List Str)
inductive O where
 |lf (st:Bool) (d:D)|nd (k:Kind) (os:List O)
abbrev OI(st:Bool)(d:D):O:=.lf (zC d||st) d
mutual
inductive Ro(L:Bool->V->D->Prop)(N:Addr->Prop)(H:Hp):V->O->List Addr->Prop
 |lf {st:Bool}{v:V}{d:D}:L st v d->Ro L N H v (.lf st d) []
 |ls {a:Addr}{vs:List V}{os:List O}{fp:List Addr}:H a=some (.lst vs)->RoL L N H vs os fp->Ro L N H (.ref a) (.nd .ls os) (a::fp)
 |dc {a:Addr}{ks:List Key}{vs:List V}{os:List O}{fp:List Addr}:H a=some (.dK (ks.zip vs))->ks.length=vs.length->RoL L N H vs os fp->Ro L N H (.ref a) (.nd (.dc ks) os) (a::fp)
 |ob {a dx C:Addr}{c:Str}{ns:List Str}{vs:List V}{os:List O}{fp:List Addr}:L true (.ref C) (.cl c)->H a=some (.ins C dx (ns.zip vs))->ns.length=vs.length->RoL L N H vs os fp->Ro L N H (.ref a) (.nd (.ob c ns) os) (a::fp)
 |tp {a:Addr}{vs:List V}{os:List O}{fp:List Addr}:N a->H a=some (.tup vs)->RoL L N H vs os fp->Ro L N H (.ref a) (.nd .tp os) fp
inductive RoL(L:Bool->V->D->Prop)(N:Addr->Prop)(H:Hp):List V->List O->List Addr->Prop
 |nil:RoL L N H [] [] []
 |cons {v:V}{o:O}{vs:List V}{os:List O}{fp fq:List Addr}:Ro L N H v o fp->RoL L N H vs os fq->RoL L N H (v::vs) (o::os) (fp++fq)
end
mutual
def O.toD:O->D
 | .lf _ d=>d
 | .nd .ls os=>.lst<|O.toDs os
 | .nd .tp os=>.tup<|O.toDs os
 | .nd (.dc ks) os=>.dct<|ks.zip<|O.toDs os
 | .nd (.ob c ns) os=>.ob c ns<|O.toDs os
def O.toDs:List O->List D
 | []=>[]
 |o::r=>o.toD::O.toDs r
end
mutual
def O.str:O->Bool
 | .lf st _=>st
 | .nd _ os=>O.strs os
def O.strs:List O->Bool
 | []=>true
 |o::r=>o.str&&O.strs r
end
section
variable{L L':Bool->V->D->Prop}{N N':Addr->Prop}{H H':Hp}{K:zzA}{kd:KD}{Ob:Addr->Prop}
def Ro.mono(hL:∀st v d,L st v d->L' st v d)(hN:∀a vs,N a->H a=some (.tup vs)->N' a/\H' a=some (.tup vs))(k:∀a ∈ fp,∀u,H a=some u->H' a=some u)(h:Ro L N H v o fp):Ro L' N' H' v o fp:=
 Ro.rec (motive_2:=λvs os fp _=>_->RoL L' N' H' vs os fp)
  (λh _=>.lf<|hL _ _ _ h) (λh _ r k=>.ls (k _ zzF _ h)<|r λa m=>k a<|zzD _ m) (λh l _ r k=>.dc (k _ zzF _ h) l<|r λa m=>k a<|zzD _ m) (λc h l _ r k=>.ob (hL _ _ _ c) (k _ zzF _ h) l<|r λa m=>k a<|zzD _ m) (λn h _ r k=>.tp (hN _ _ n h).1 (hN _ _ n h).2<|r k)
  (λ_=>.nil) (λ_ _ h r k=>.cons (h λa m=>k a<|zzP _ m)<|r λa m=>k a<|zzL _ m) h k
def RoL.ind{P:List V->List O->List Addr->Prop}(h0:P [] [] [])(h1:∀{v o vs os fp fq},Ro L N H v o fp->RoL L N H vs os fq->P vs os fq->P (v::vs) (o::os) (fp++fq)){os}(h:RoL L N H vs os fp):P vs os fp:=
 RoL.rec (motive_1:=λ_ _ _ _=>True) (λ_=>⟨⟩) (λ_ _ _=>⟨⟩) (λ_ _ _ _=>⟨⟩) (λ_ _ _ _ _=>⟨⟩) (λ_ _ _ _=>⟨⟩) h0 (λa r _ ih=>h1 a r ih) h
theorem RoL.mono(hL:∀st v d,L st v d->L' st v d)(hN:∀a vs,N a->H a=some (.tup vs)->N' a/\H' a=some (.tup vs)){vs:List V}{os}(k:∀a ∈ fp,∀u,H a=some u->H' a=some u)(h:RoL L N H vs os fp):RoL L' N' H' vs os fp:=
 RoL.ind (P:=λc e b=>(∀a ∈ b,∀u,H a=some u->H' a=some u)->RoL L' N' H' c e b) (λ_=>.nil) (λh _ r k=>.cons (Ro.mono hL hN (λa m=>k a<|zzP _ m) h)<|r λa m=>k a<|zzL _ m) h k
theorem GX:∀{ks:List Key}{vs:List V}{ds:List D},RpL K kd Ob H vs ds->ks.length=vs.length->RpM K kd Ob H (ks.zip vs) (ks.zip ds)
 | [],_,_,_,_=>.nil
 |_::_,_,_,.nil,e=>by simp at e
 |_::_,_,_,.cons h r,e=>.cons h (GX r<|by simpa using e)
def Ro.rp(b)(hL:∀st v d,(b=true->st=true)->L st v d->Rp K kd Ob H v d)(hN:∀a,N a->¬Ob a){v}(s:b=true->o.str=true)(k:∀a ∈ fp,¬Ob a)(h:Ro L N H v o fp):Rp K kd Ob H v o.toD:=
 Ro.rec (motive_2:=λi g f _=>_->_->RpL K kd Ob H i _)
  (λh s _=>hL _ _ _ s h) (λh _ r s k=>.lst (k _ zzF) (.inl h)<|r s λa m=>k a<|zzD _ m) (λh l _ r s k=>.dct (k _ zzF) (.inl h)<|GX (r s λa m=>k a<|zzD _ m) l) (λc h l _ r s k=>by
   have e:=(hL _ _ _ (λ_=>rfl) c).cl_eq;subst e;exact .ob (k _ zzF) h l<|r s λa m=>k a<|zzD _ m) (λn h _ r s k=>.tup (hN _ n) (.inl h)<|r s k)
  (λ_ _=>.nil) (λ_ _ h r s k=>.cons (h (λz=>((zyC _ _).mp<|s z).1) λa m=>k a<|zzP _ m)<|r (λz=>((zyC _ _).mp<|s z).2) λa m=>k a<|zzL _ m) h s k
theorem RoL.rp(b:Bool)(hL:∀st v d,(b=true->st=true)->L st v d->Rp K kd Ob H v d)(hN:∀a,N a->¬Ob a){os}(s:b=true->O.strs os=true)(k:∀a ∈ fp,¬Ob a)(h:RoL L N H vs os fp):RpL K kd Ob H vs (O.toDs os):=
 RoL.ind (P:=λe c f=>(b=true->O.strs c=true)->(∀a ∈ f,¬Ob a)->RpL K kd Ob H e (O.toDs c)) (λ_ _=>.nil) (λh _ r s k=>.cons (Ro.rp b hL hN (λz=>((zyC _ _).mp<|s z).1) (λa m=>k a<|zzP _ m) h)<|r (λz=>((zyC _ _).mp<|s z).2) λa m=>k a<|zzL _ m) h s k
theorem RoL.length{vs:List V}{os}(h:RoL L N H vs os fp):vs.length=os.length:=RoL.ind (P:=λa b _=>a.length=b.length) rfl (λ_ _ r=>congrArg (· + 1) r) h
theorem Y_:∀os:List O,(O.toDs os).length=os.length
 | []=>rfl
 |_::r=>congrArg (· + 1)<|Y_ r
def RoL.append{vs ws:List V}{os ps}(h:RoL L N H vs os f)(r:RoL L N H ws ps g):RoL L N H (vs++ws) (os++ps) (f++g):=RoL.ind (P:=λa b f=>RoL L N H (a++ws) (b++ps)<|f++g) r (λh _ t=>by rw[zxC];exact .cons h t) h
def RoL.one(h:Ro L N H v o f):RoL L N H [v] [o] f:=by
 have:=RoL.cons h<|RoL.nil;rw[zyE]at this;exact this
def RoL.part(k:Nat):∀{vs:List V}{os:List O}{fp:List Addr},RoL L N H vs os fp->∃f g,fp=f++g/\RoL L N H (vs.take k) (os.take k) f/\RoL L N H (vs.drop k) (os.drop k) g:=by
 induction k with
 |zero=>intro b c a h;exact⟨[],a,rfl,.nil,h⟩
 |succ k d=>
  intro b c a h;cases h with
  |nil=>exact⟨[],[],rfl,.nil,.nil⟩
  |cons h r=>
   obtain⟨f,g,rfl,e,i⟩:=d r;exact⟨_,g,(zxC _ _ _).symm,.cons h e,i⟩
end
abbrev AS:=List<|Option O
abbrev Ad:=Nat->List Addr
def Gw(T:List Addr)(ad:Ad):Addr->Prop:=λa=>a ∈ T\/∃i,a ∈ ad i
abbrev Lv(F B G:Addr->Prop)(st:Bool):Addr->Prop:=VA (λa=>(st=true/\F a)\/B a) G
abbrev Lf(K:zzA)(kd:KD)(F B G:Addr->Prop)(H:Hp):Bool->V->D->Prop:=λst v d=>Rp K kd (Lv F B G st) H v d
abbrev Nf(F B G:Addr->Prop):Addr->Prop:=λa=>¬Lv F B G true a
abbrev YV(K:zzA)(kd:KD)(F B G:Addr->Prop)(H:Hp):V->O->List Addr->Prop:=Ro (Lf K kd F B G H) (Nf F B G) H
abbrev vR(K:zzA)(kd:KD)(F B G:Addr->Prop)(H:Hp):List V->List O->List Addr->Prop:=RoL (Lf K kd F B G H) (Nf F B G) H
def KS(K:zzA)(kd:KD)(F B G:Addr->Prop)(H:Hp):Option O->Option (Option V)->List Addr->Prop
 |none,_,fp=>fp=[]
 |some o,s,fp=>∃v,s=some (some v)/\YV K kd F B G H v o fp
structure Rel(K:zzA)(kd:KD)(F B:Addr->Prop)(T:List Addr)(ad:Ad)(as:AS)(σ:St)(H:Hp):Prop where
 len:as.length=σ.length
 out:∀i,as.length<=i->ad i=[]
 nd:∀i,(ad i).Nodup
 inj:∀i j a,a ∈ ad i->a ∈ ad j->i=j
 tnd:T.Nodup
 dis:∀i a,a ∈ ad i->a ∉ T
 ftr:∀a,F a->H a≠none
 btr:∀a,B a->H a≠none/\¬F a/\¬Gw T ad a
 gtr:∀a,Gw T ad a->H a≠none/\¬F a
 sl:∀i s,as[i]? = some s->KS K kd F B (Gw T ad) H s σ[i]? (ad i)
inductive RV where
 |ow (o:O)|bo (i:Nat)
def xo(K:zzA)(kd:KD)(F B:Addr->Prop)(T:List Addr)(ad:Ad)(σ:St)(H:Hp)(v:V):RV->Prop
 | .ow o=>YV K kd F B (Gw T ad) H v o T
 | .bo i=>T=[]/\σ[i]? = some (some v)
def O.frz(o:O):O:=.lf o.str o.toD
def RV.frz:RV->RV
 | .ow o=>.ow o.frz
 | .bo i=>.bo i
noncomputable def O.isLf:O->Bool
 | .lf _ _=>true
 |_=>false
def O.kl:O->Option Bool
 | .lf st _=>some st
 | .nd _ os=>if os.all O.isLf=true then some (O.strs os)else none
noncomputable def RV.view(as:AS):RV->Option (D×Option Bool)
 | .ow o=>some (o.toD,some o.str)
 | .bo i=>match as[i]? with
  |some (some o)=>some (o.toD,o.kl)
  |_=>none
def TY(F B G:Addr->Prop):Option Bool->Addr->Prop
 |some st=>Lv F B G st
 |none=>λ_=>False
section
variable{K:zzA}{kd:KD}{F B F' B':Addr->Prop}{G G':Addr->Prop}{T T':List Addr}{ad ad1:Ad}{as as1:AS}{σ:St}{H H1 H':Hp}{v:V}{r:RV}{o:O}{fp:List Addr}{vs:List V}{os:List O}
theorem YV.grow(g:Grow G H G' H')(k:∀a ∈ fp,∀u,H a=some u->H' a=some u)(h:YV K kd F B G H v o fp):YV K kd F B G' H' v o fp:=
 Ro.mono (λst v d r=>Rp.grow g r) (λa vs n e=>⟨λz=>z.elim (λy=>n<|.inl y) λy=>(g.own a y).elim (λw=>n<|.inr w) λw=>(by rw[w]at e;cases e),g.keep a _ e λw=>n<|.inr w⟩) k h
theorem vR.grow(g:Grow G H G' H')(k:∀a ∈ fp,∀u,H a=some u->H' a=some u)(h:vR K kd F B G H vs os fp):vR K kd F B G' H' vs os fp:=
 RoL.mono (λst v d r=>Rp.grow g r) (λa vs n e=>⟨λz=>z.elim (λy=>n<|.inl y) λy=>(g.own a y).elim (λw=>n<|.inr w) λw=>(by rw[w]at e;cases e),g.keep a _ e λw=>n<|.inr w⟩) k h
def YV.lv(g:∀st a,Lv F' B' G' st a->Lv F B G st a)(h:YV K kd F B G H v o fp):YV K kd F' B' G' H v o fp:=
 Ro.mono (λst v d r=>r.less<|g st) (λa vs n e=>⟨λz=>n<|g true a z,e⟩) (λ_ _ _ e=>e) h
def vR.lv(g:∀st a,Lv F' B' G' st a->Lv F B G st a)(h:vR K kd F B G H vs os fp):vR K kd F' B' G' H vs os fp:=
 RoL.mono (λst v d r=>r.less<|g st) (λa vs n e=>⟨λz=>n<|g true a z,e⟩) (λ_ _ _ e=>e) h
def YV.less(g:∀a,G' a->G a)(h:YV K kd F B G H v o fp):YV K kd F B G' H v o fp:=YV.lv (λ_ a z=>z.elim .inl λy=>.inr<|g a y) h
def Gw.drop:∀a,Gw [] ad a->Gw T ad a:=λ_ h=>h.elim (λz=>nomatch z) .inr
def Rel.trk(R:Rel K kd F B T ad as σ H)(st):∀a,Lv F B (Gw T ad) st a->H a≠none:=λa h=>by
 rcases h with(h|h)|h
 . exact R.ftr a h.2
 . exact(R.btr a h).1
 . exact(R.gtr a h).1
def Rel.tr(R:Rel K kd F B T ad as σ H)(lv):∀a,TY F B (Gw T ad) lv a->H a≠none:=λa h=>by
 cases lv with
 |none=>exact h.elim
 |some st=>exact R.trk st a h
theorem KS.lv(g:∀st a,Lv F' B' G' st a->Lv F B G st a)(h:KS K kd F B G H s x fp):KS K kd F' B' G' H s x fp:=by
 cases s with
 |none=>exact h
 |some o=>obtain⟨v,e,r⟩:=h;exact⟨v,e,YV.lv g r⟩
def KS.less(g:∀a,G' a->G a)(h:KS K kd F B G H s x fp):KS K kd F B G' H s x fp:=h.lv λ_ a z=>z.elim .inl λy=>.inr<|g a y
theorem KS.grow(g:Grow G H G' H')(k:∀a ∈ fp,∀u,H a=some u->H' a=some u)(h:KS K kd F B G H s x fp):KS K kd F B G' H' s x fp:=by
 cases s with
 |none=>exact h
 |some o=>obtain⟨v,e,r⟩:=h;exact⟨v,e,YV.grow g k r⟩
theorem Rel.drop(R:Rel K kd F B T ad as σ H):Rel K kd F B [] ad as σ H where
 len:=R.len
 out:=R.out
 nd:=R.nd
 inj:=R.inj
 tnd:=zyJ
 dis:=λ_ _ _ z=>nomatch z
 ftr:=R.ftr
 btr:=λa h=>let⟨h1,h2,h3⟩:=R.btr a h;⟨h1,h2,λz=>h3<|Gw.drop a z⟩
 gtr:=λa h=>R.gtr a (Gw.drop a h)
 sl:=λi s e=>(R.sl i s e).less Gw.drop
def Hs(R:Rel K kd F B T ad as σ H)(h:YV K kd F B (Gw T ad) H v o T):Rp K kd (Lv F B (Gw [] ad) o.str) H v o.toD:=
 Ro.rp o.str (λst v d hs r=>r.less λa z=>z.elim (λy=>.inl<|y.elim (λx=>.inl ⟨hs x.1,x.2⟩) .inr) λy=>.inr<|Gw.drop a y)
  (λa n z=>n<|z.elim (λy=>.inl<|y.elim (λx=>.inl ⟨rfl,x.2⟩) .inr) λy=>.inr<|Gw.drop a y) id
  (λa m z=>by
   rcases z with(z|z)|z|⟨i,z⟩
   . exact(R.gtr a<|.inl m).2 z.2
   . exact(R.btr a z).2.2<|.inl m
   . cases z
   . exact R.dis i a z m) h
def xo.drop(R:Rel K kd F B T ad as σ H)(h:xo K kd F B T ad σ H v r):xo K kd F B [] ad σ H v r.frz:=by
 cases r with
 |ow o=>exact .lf (Hs R h)
 |bo i=>exact⟨rfl,h.2⟩
theorem xo.grow(g:Grow (Gw [] ad) H (Gw [] ad1) H1)(h:xo K kd F B [] ad σ H v r):xo K kd F B [] ad1 σ H1 v r:=by
 cases r with
 |ow o=>exact YV.grow g (λ_ m=>nomatch m) h
 |bo i=>exact h
def IU(h:vR K kd F B G H vs os fp):os.all O.isLf=true->fp=[]:=
 RoL.ind (P:=λ_ os fp=>os.all O.isLf=true->fp=[]) (λ_=>rfl) (λh _ ih e=>by
  rw[List.all_cons,zyC]at e;rw[ih e.2,zyE];cases h with
  |lf=>rfl
  |ls=>cases e.1
  |dc=>cases e.1
  |ob=>cases e.1
  |tp=>cases e.1) h
def U2{st}(hs:b=true->st=true):∀a,Lv F B G b a->Lv F B G st a:=λa z=>z.elim (λy=>.inl<|y.elim (λx=>.inl ⟨hs x.1,x.2⟩) .inr) .inr
def Pw(h:vR K kd F B G H vs os fp)(e:os.all O.isLf=true):RpL K kd (Lv F B G<|O.strs os) H vs (O.toDs os):=by
 have:=IU h e;subst this;exact RoL.rp _ (λst v d hs r=>r.less<|U2 hs) (λa n z=>n<|U2 (λ_=>rfl) a z) id (by intro a m;cases m) h
def U5(h:vR K kd F B G H vs os fp):RpL K kd (λ_=>False) H vs (O.toDs os):=RoL.rp false (λst v d _ r=>r.less λ_ z=>z.elim) (λ_ _ z=>z) (λz=>Bool.noConfusion z) (λ_ _ z=>z) h
def G_(h:YV K kd F B G H v o fp):Rp K kd (λ_=>False) H v o.toD:=Ro.rp false (λst v d _ r=>r.less λ_ z=>z.elim) (λ_ _ z=>z) (λz=>Bool.noConfusion z) (λ_ _ z=>z) h
def Kg(h:YV K kd F B G H v o []):Rp K kd (Lv F B G o.str) H v o.toD:=
 Ro.rp o.str (λst v d hs r=>r.less<|U2 hs) (λa n z=>n<|U2 (λ_=>rfl) a z) id (by intro a m;cases m) h
theorem YV.vw(h:YV K kd F B G H v o fp):Vw K kd (TY F B G o.kl) H v o.toD:=by
 cases h with
 |lf h=>exact h.vw
 |ls hH r=>
  rename_i a vs' os' fp';show Vw K kd (TY F B G (if os'.all O.isLf=true then some _ else none)) H _ _
  by_cases e:os'.all O.isLf=true
  . rw[if_pos e];exact .lst (.inl<|.inl hH)<|Pw r e
  . rw[if_neg e];exact .lst (.inl<|.inl hH) (U5 r)
 |dc hH l r=>
  rename_i a ks vs' os' fp';show Vw K kd (TY F B G (if os'.all O.isLf=true then some _ else none)) H _ _
  by_cases e:os'.all O.isLf=true
  . rw[if_pos e];exact .dct (.inl<|.inl hH)<|GX (Pw r e) l
  . rw[if_neg e];exact .dct (.inl<|.inl hH) (GX (U5 r) l)
 |ob hc hH l r=>
  rename_i a dx C c ns vs' os' fp';have ec:=hc.cl_eq;subst ec;show Vw K kd (TY F B G (if os'.all O.isLf=true then some _ else none)) H _ _
  by_cases e:os'.all O.isLf=true
  . rw[if_pos e];exact .ob hH l<|Pw r e
  . rw[if_neg e];exact .ob hH l (U5 r)
 |tp n hH r=>
  rename_i a vs' os';show Vw K kd (TY F B G (if os'.all O.isLf=true then some _ else none)) H _ _
  by_cases e:os'.all O.isLf=true
  . rw[if_pos e];have rl:=Pw r e;exact .tup (.tup (λz=>n<|U2 (λ_=>rfl) _ z) (.inl hH) rl) (.inl<|.inl hH) rl
  . rw[if_neg e];exact .tup (.tup (λz=>z) (.inl hH)<|U5 r) (.inl<|.inl hH)<|U5 r
theorem xo.vw(R:Rel K kd F B [] ad as σ H)(h:xo K kd F B [] ad σ H v r)(e:r.view as=some (d,lv)):Vw K kd (TY F B (Gw [] ad) lv) H v d:=by
 cases r with
 |ow o=>
  cases e;exact(Kg h).vw
 |bo i=>
  have e:(match as[i]? with|some (some o)=>some _|_=>none)=some (d,lv):=e;cases k:as[i]? with
  |none=>rw[k]at e;cases e
  |some s=>
   cases s with
   |none=>rw[k]at e;cases e
   |some o=>
    rw[k]at e;cases e;obtain⟨w,hw,ro⟩:=R.sl i _ k;rw[h.2]at hw;cases hw;exact ro.vw
def Rel.add(R:Rel K kd F B T ad as σ H)(hn:N.Nodup)(hl:∀a ∈ N,H a=none)(k:∀b u,H b=some u->H' b=some u)(h1:∀a ∈ N,H' a≠none):Rel K kd F B (N++T) ad as σ H'/\Grow (Gw T ad) H (Gw (N++T) ad) H':=by
 have g:Grow (Gw T ad) H (Gw (N++T) ad) H':=⟨λb u h _=>k b u h,λb h=>by
  rcases h with h|h
  . rcases zzM.mp h with h|h
    . exact .inr<|hl b h
    . exact .inl<|.inl h
  . exact .inl<|.inr h⟩
 have kn:∀a,H a≠none->H' a≠none:=λa z=>by
  cases e:H a with
  |none=>exact absurd e z
  |some u=>rw[k a u e];simp
 refine⟨⟨R.len,R.out,R.nd,R.inj, ?_,λi a m z=>?_,λa z=>kn a<|R.ftr a z,λa z=>?_,λa z=>?_,λi s e=>(R.sl i s e).grow g λa _ u h=>k a u h⟩,g⟩
 . refine zxE.mpr ⟨hn,R.tnd,λa m b m' e=>?_⟩;subst e;exact(R.gtr a<|.inl m').1<|hl a m
 . rcases zzM.mp z with z|z
   . exact(R.gtr a<|.inr ⟨i,m⟩).1<|hl a z
   . exact R.dis i a m z
 . obtain⟨b1,b2,b3⟩:=R.btr a z;refine⟨kn a b1,b2,λy=>?_⟩
   rcases y with y|y
   . rcases zzM.mp y with y|y
     . exact b1<|hl a y
     . exact b3<|.inl y
   . exact b3<|.inr y
 . rcases z with z|z
   . rcases zzM.mp z with z|z
     . exact⟨h1 a z,λf=>R.ftr a f<|hl a z⟩
     . exact⟨kn a (R.gtr a<|.inl z).1,(R.gtr a<|.inl z).2⟩
   . exact⟨kn a (R.gtr a<|.inr z).1,(R.gtr a<|.inr z).2⟩
def Rel.more(R:Rel K kd F B T ad as σ H)(k:∀b u,H b=some u->H' b=some u):Rel K kd F B T ad as σ H'/\Grow (Gw T ad) H (Gw T ad) H':=
 R.add zyJ (λ_ m=>nomatch m) k (λ_ m=>nomatch m)
def Rel.news(R:Rel K kd F B [] ad as σ H)(hn:T'.Nodup)(hl:∀a ∈ T',H a=none)(k:∀b u,H b=some u->H' b=some u)(h1:∀a ∈ T',H' a≠none):Rel K kd F B T' ad as σ H'/\Grow (Gw [] ad) H (Gw T' ad) H':=by
 have:=R.add hn hl k h1;rw[zyE]at this;exact this
end
inductive R0 where
 |im (d:D)|fl (ds:List D)|fd (kvs:List (Key×D))
def RQ(K:zzA)(kd:KD)(O:Addr->Prop)(H:Hp)(Q:VK):R0->Prop
 | .im d=>∀v H',(∀b o,H b=some o->H' b=some o)->Rp K kd O H' v d->Q v H'
 | .fl ds=>∀l vs H',H l=none->(∀b o,H b=some o->H' b=some o)->H' l=some (.lst vs)->RpL K kd (VA O (· = l)) H' vs ds->Q (.ref l) H'
 | .fd ds=>∀l vs H',H l=none->(∀b o,H b=some o->H' b=some o)->H' l=some (.dK vs)->RpM K kd (VA O (· = l)) H' vs ds->Q (.ref l) H'
def wrap(lv:Option Bool):R0->Option RV
 | .im d=>if(zC d||lv.isSome)=true then some (.ow<|OI (lv.getD false) d)else none
 | .fl ds=>if(ds.all zC||lv.isSome)=true then some (.ow<|.nd .ls<|ds.map<|OI<|lv.getD false)else none
 | .fd kvs=>if((kvs.map (·.2)).all zC||lv.isSome)=true then some (.ow (.nd (.dc (kvs.map (·.1))) ((kvs.map (·.2)).map<|OI<|lv.getD false)))else none
def bS_{α β:Type}{o}{f:α->Option β}{b}(h:o.bind f=some b):∃a,o=some a/\f a=some b:=by
 cases o with
 |none=>cases h
 |some a=>exact⟨a,rfl,h⟩
def ite_some'{α:Type}{c:Prop}[Decidable c]{a}{b:α}(h:(if c then a else none)=some b):c/\a=some b:=by
 by_cases hc:c
 . rw[if_pos hc]at h;exact⟨hc,h⟩
 . rw[if_neg hc]at h;cases h
def zv{α:Type}{c:Prop}[Decidable c]{a b:α}(h:(if c then some a else none)=some b):c/\a=b:=by
 by_cases hc:c
 . rw[if_pos hc]at h;cases h;exact⟨hc,rfl⟩
 . rw[if_neg hc]at h;cases h
section
variable{K:zzA}{kd:KD}{F B:Addr->Prop}{G:Addr->Prop}{ad:Ad}{as:AS}{σ:St}{H H':Hp}{v:V}{r:R0}{rv:RV}{Q:VK}{lv:Option Bool}
def rh(h:zC d=true\/lv.isSome=true)(hO:∀st,lv=some st->∀a,Lv F B G st a->Ob a)(rp:Rp K kd Ob H v d):Lf K kd F B G H (zC d||lv.getD false) v d:=by
 cases e:zC d with
 |true=>exact rp.flat e
 |false=>
  rw[e]at h;cases lv with
  |none=>rcases h with h|h<;>cases h
  |some st=>exact rp.less (hO st rfl)
def A1(hO:∀st,lv=some st->∀a,Lv F B G st a->Ob a)(e:(ds.all zC||lv.isSome)=true)(h:RpL K kd Ob H vs ds):RoL (Lf K kd F B G H) N H vs (ds.map<|OI<|lv.getD false) []:=
 RpL.ind (P:=λvs ds=>(ds.all zC||lv.isSome)=true->RoL _ N H vs (ds.map _) []) (λ_=>.nil) (λ{v d vs ds} h _ ih e=>by
  rw[List.all_cons]at e;have e1:zC d=true\/lv.isSome=true:=by
   cases h1:lv.isSome<;>cases h2:zC d<;>simp[h1,h2]at e ⊢
  have e2:(ds.all zC||lv.isSome)=true:=by
   cases h1:lv.isSome with
   |true=>simp
   |false=>
    rw[h1,Bool.or_false,zyC]at e;rw[Bool.or_false];exact e.2
  exact RoL.cons (.lf<|rh e1 hO h)<|ih e2) h e
def Ck{O}(h:RpM K kd O H vs ds):vs=(ds.map (·.1)).zip (vs.map (·.2))/\RpL K kd O H (vs.map (·.2)) (ds.map (·.2)):=
 RpM.ind (P:=λvs ds=>vs=(ds.map (·.1)).zip (vs.map (·.2))/\RpL K kd O H (vs.map (·.2)) (ds.map (·.2))) ⟨rfl,.nil⟩ (λh _ ih=>by
  obtain⟨h1,h2⟩:=ih;refine⟨?_,.cons h h2⟩
  conv=>lhs;rw[h1]
  rfl) h
def Y2(R:Rel K kd F B [] ad as σ H)(e:wrap lv r=some rv)(q:∀v T' H',Rel K kd F B T' ad as σ H'->xo K kd F B T' ad σ H' v rv->Grow (Gw [] ad) H (Gw T' ad) H'->Q v H'):RQ K kd (TY F B (Gw [] ad) lv) H Q r:=by
 have hO:∀(l:List Addr) st,lv=some st->∀a,Lv F B (Gw l ad) st a->VA (TY F B (Gw [] ad) lv) (· ∈ l) a:=by
  intro l st e a z;subst e
  rcases z with z|z|z
  . exact .inl<|.inl z
  . exact .inr z
  . exact .inl<|.inr<|.inr z
 cases r with
 |im d=>
  obtain⟨c,rfl⟩:=zv e;intro v H' k rp;obtain⟨R',g⟩:=R.more k;refine q v [] H' R' (.lf<|rh ((Bool.or_eq_true _ _).mp c) (λst e a z=>?_) rp) g;exact(hO [] st e a z).elim id λm=>nomatch m
 |fl ds=>
  obtain⟨c,rfl⟩:=zv e;intro l vs H' hl k hl' rp;obtain⟨R',g⟩:=R.news (T':=[l]) (by simp) (λa m=>by rw[zzR.mp m];exact hl) k (λa m=>by rw[zzR.mp m,hl'];simp);exact q _ [l] H' R' (.ls hl'<|A1 (λst e a z=>(hO [l] st e a z).elim .inl λm=>.inr<|zzR.mp m) c rp) g
 |fd ds=>
  obtain⟨c,rfl⟩:=zv e;intro l vs H' hl k hl' rp;obtain⟨R',g⟩:=R.news (T':=[l]) (by simp) (λa m=>by rw[zzR.mp m];exact hl) k (λa m=>by rw[zzR.mp m,hl'];simp);obtain⟨e1,r1⟩:=Ck rp;refine q _ [l] H' R' (.dc (by rw[hl',<-e1]) (by rw[zzB,zzB,rp.length])<|A1 (λst e a z=>(hO [l] st e a z).elim .inl λm=>.inr<|zzR.mp m) c r1) g
end
abbrev EF:=AS->Option (RV×AS)
def al(K:zzA)(kd:KD)(f:EF):TE:=λσ H Q=>∃F B ad as r as',Rel K kd F B [] ad as σ H/\f as=some (r,as')/\
 ∀v T' ad' H',Rel K kd F B T' ad' as' σ H'->xo K kd F B T' ad' σ H' v r->Grow (Gw [] ad) H (Gw T' ad') H'->Q v H'
@[irreducible] def AE(X:Cx)(kd:KD)(e:Expr)(f:EF):Prop:=PE X e<|al X.K kd f
def yo(h:PE X e t)(k:∀σ H Q,t' σ H Q->t σ H Q):PE X e t':=λpins s σ H Q I q=>h pins s σ H Q I<|k σ H Q q
section
variable{K:zzA}{kd:KD}{F B:Addr->Prop}{ad:Ad}{as as1:AS}{σ:St}{H:Hp}{r:RV}{f:EF}{P:VK}
def vT(R:Rel K kd F B [] ad as σ H)(e:f as=some (r,as1))(k:∀v ad1 H1,Rel K kd F B [] ad1 as1 σ H1->xo K kd F B [] ad1 σ H1 v r.frz->Grow (Gw [] ad) H (Gw [] ad1) H1->P v H1):al K kd f σ H P:=
 ⟨F,B,ad,as,r,as1,R,e,λv T' ad' H' R' rv g=>k v ad' H' R'.drop (xo.drop R' rv)<|g.trans<|Grow.less Gw.drop⟩
end
def pW(X:Cx)(kd:KD)(f:Value->Value->Sem Value)(g:D->D->Option R0):Prop:=
 PP X f (λx y H Q=>∃O d e r,(∀a,O a->H a≠none)/\Vw X.K kd O H x d/\Vw X.K kd O H y e/\g d e=some r/\RQ X.K kd O H Q r)
def er(X:Cx)(kd:KD)(f:Value->Sem Value)(g:D->Option R0):Prop:=
 jN X f (λx H Q=>∃O d r,(∀a,O a->H a≠none)/\Vw X.K kd O H x d/\g d=some r/\RQ X.K kd O H Q r)
inductive VwL(K:zzA)(kd:KD)(O:Addr->Prop)(H:Hp):List V->List D->Prop
 |nil:VwL K kd O H [] []
 |cons {v:V}{d:D}{vs:List V}{ds:List D}:Vw K kd O H v d->VwL K kd O H vs ds->VwL K kd O H (v::vs) (d::ds)
def Xb(X:Cx)(kd:KD)(f:Value)(g:List D->Option R0):Prop:=
 XW X f (λxs H Q=>∃O ds r,(∀a,O a->H a≠none)/\VwL X.K kd O H xs ds/\g ds=some r/\RQ X.K kd O H Q r)
def fH(X:Cx)(kd:KD)(g:D->D->Option R0):Prop:=
 mZ X (λx y H Q=>∃O d e r,(∀a,O a->H a≠none)/\Vw X.K kd O H x d/\Vw X.K kd O H y e/\g d e=some r/\RQ X.K kd O H Q r)
noncomputable def meet:Option Bool->Option Bool->Option Bool
 |some a,some b=>some (a&&b)
 |_,_=>none
def TY.meet1:∀x,TY F B G (meet a b) x->TY F B G a x:=λx h=>by
 cases a with
 |none=>cases b<;>exact h.elim
 |some p=>
  cases b with
  |none=>exact h.elim
  |some q=>exact U2 (λz=>((zyC _ _).mp z).1) x h
def TY.meet2:∀x,TY F B G (meet a b) x->TY F B G b x:=λx h=>by
 cases a with
 |none=>cases b<;>exact h.elim
 |some p=>
  cases b with
  |none=>exact h.elim
  |some q=>exact U2 (λz=>((zyC _ _).mp z).2) x h
theorem Vw.less{K O O'}(g:∀a,O' a->O a)(h:Vw K kd O H v d):Vw K kd O' H v d:=by
 cases h with
 |non=>exact .non
 |bl b=>exact .bl b
 |int i=>exact .int i
 |str x=>exact .str x
 |tup r s l=>exact .tup (r.less g) s (l.less g)
 |lst h l=>exact .lst h (l.less g)
 |dct h l=>exact .dct h (l.less g)
 |cl c=>exact .cl c
 |ob h k l=>exact .ob h k (l.less g)
def f2(fa fb:EF)(g:D->D->Option R0):EF:=λas=>(fa as).bind λp=>(fb p.2).bind λq=>(p.1.frz.view q.2).bind λx=>(q.1.frz.view q.2).bind λy=>(g x.1 y.1).bind λr=>(wrap (meet x.2 y.2) r).bind λz=>some (z,q.2)
def HA{fa fb}{as as':AS}(h:f2 fa fb g as=some (rv,as')):
 ∃p as1 q x y lx ly r,fa as=some (p,as1)/\fb as1=some (q,as')/\p.frz.view as'=some (x,lx)/\q.frz.view as'=some (y,ly)/\g x y=some r/\wrap (meet lx ly) r=some rv:=by
 unfold f2 at h;obtain⟨⟨p,as1⟩,h1,h⟩:=bS_ h;obtain⟨⟨q,as2⟩,h2,h⟩:=bS_ h;obtain⟨⟨x,lx⟩,h3,h⟩:=bS_ h;obtain⟨⟨y,ly⟩,h4,h⟩:=bS_ h;obtain⟨r,h5,h⟩:=bS_ h;obtain⟨z,h6,h⟩:=bS_ h;cases h;exact⟨p,as1,q,x,y,lx,ly,r,h1,h2,h3,h4,h5,h6⟩
section
variable{X:Cx}{kd:KD}{a b c:Expr}{fa fb fc:EF}{pos:Pos}
def j6(hr:∀x y H Q,(∃O d e r,(∀a,O a->H a≠none)/\Vw X.K kd O H x d/\Vw X.K kd O H y e/\g d e=some r/\RQ X.K kd O H Q r)->R2' x y H Q)
 (h:al X.K kd (f2 fa fb g) σ H Q):jg R2' (al X.K kd fa) (al X.K kd fb) σ H Q:=by
 obtain⟨F,B,ad,as,r,as',R,e,q⟩:=h;obtain⟨p,as1,z,x,y,lx,ly,r0,h1,h2,h3,h4,h5,h6⟩:=HA e;refine vT R h1 λv ad1 H1 R1 rv1 g1=>vT R1 h2 λu ad2 H2 R2 rv2 g2=>hr _ _ _ _ ?_;exact⟨_,x,y,r0,R2.tr _,(xo.vw R2 (rv1.grow g2) h3).less TY.meet1,(xo.vw R2 rv2 h4).less TY.meet2,h5,Y2 R2 h6 λw T' H' R' rv' g'=>q w T' ad2 H' R' rv'<|(g1.trans g2).trans g'⟩
def pe(ho:pW X kd (binaryOp op) g)(ha:AE X kd a fa)(hb':AE X kd b fb):AE X kd (.BinOp a op b pos) (f2 fa fb g):=by with_unfolding_all exact(yo (nH ho ha hb') λσ H Q h=>j6 (λ_ _ _ _ z=>z) h)
def oG(ho:pW X kd (compareOp op) g)(ha:AE X kd a fa)(hb':AE X kd b fb)(hm:behindInMarks op b=false):AE X kd (.Compare a [op] [b] pos) (f2 fa fb g):=by with_unfolding_all exact(yo (u_ ho ha hb' hm) λσ H Q h=>j6 (λ_ _ _ _ z=>z) h)
def jq(ho:fH X kd g)(ha:AE X kd a fa)(hb':AE X kd b fb)(hm:MO b):AE X kd (.Subscript a b pos) (f2 fa fb g):=by with_unfolding_all exact(yo (m7 ho ha hb' hm) λσ H Q h=>j6 (λ_ _ _ _ z=>z) h)
noncomputable def fC(d:D):EF:=λas=>some (.ow<|.lf true d,as)
noncomputable def fV(i:Nat):EF:=λas=>match as[i]? with
 |some (some (.lf st d))=>some (.ow<|.lf st d,as)
 |some (some (.nd _ _))=>some (.bo i,as)
 |_=>none
def KH(h:PE X a (tC v))(hr:∀O H,Rp X.K kd O H v d):AE X kd a (fC d):=by with_unfolding_all exact(yo h λσ H Q h=>by
 obtain⟨F,B,ad,as,r,as',R,e,q⟩:=h;cases e;exact q v [] ad H R (.lf<|hr _ _) Grow.refl)
def ng{i:Nat}(h:PE X a (UC i)):AE X kd a (fV i):=by with_unfolding_all exact(yo h λσ H Q h=>by
 obtain⟨F,B,ad,as,r,as',R,e,q⟩:=h;unfold fV at e;cases k:as[i]? with
 |none=>rw[k]at e;cases e
 |some s=>
  rw[k]at e;cases s with
  |none=>cases e
  |some o=>
   obtain⟨v,h1,h2⟩:=R.sl i _ k;cases o with
   |lf st d=>
    cases e;have e0:ad i=[]:=by
     generalize hfp:ad i=fp at h2;cases h2;rfl
    rw[e0]at h2;exact⟨v,h1,q v [] ad H R h2 Grow.refl⟩
   |nd kk os=>
    cases e;exact⟨_,h1,q _ [] ad H R ⟨rfl,h1⟩ Grow.refl⟩)
end
def Z1(ad:Ad)(i:Nat)(x:List Addr):Ad:=λj=>if j=i then x else ad j
section
variable{K:zzA}{kd:KD}{F B:Addr->Prop}{T T1 T2:List Addr}{ad ad1:Ad}{as as1:AS}{σ:St}{H H1:Hp}{v:V}{r:RV}{o:O}{i:Nat}
def zX:Z1 ad i x i=x:=if_pos rfl
def yb{j:Nat}(h:j≠i):Z1 ad i x j=ad j:=if_neg h
def Yk:∀a,Gw T (Z1 ad i []) a->Gw T ad a:=λa h=>by
 rcases h with h|⟨j,h⟩
 . exact .inl h
 . by_cases e:j=i
   . subst e;rw[zX]at h;cases h
   . rw[yb e]at h;exact .inr ⟨j,h⟩
def Wb:∀a,Gw [] (Z1 ad i T) a->Gw T ad a:=λa h=>by
 rcases h with h|⟨j,h⟩
 . cases h
 . by_cases e:j=i
   . subst e;rw[zX]at h;exact .inl h
   . rw[yb e]at h;exact .inr ⟨j,h⟩
def OM:∀st a,Lv F (λa=>B a\/a ∈ T) (Gw [] ad) st a->Lv F B (Gw T ad) st a:=λst a z=>by
 rcases z with(z|z|z)|z
 . exact .inl<|.inl z
 . exact .inl<|.inr z
 . exact .inr<|.inl z
 . exact .inr<|Gw.drop a z
def Py:∀st a,Lv F B (Gw (T1++T2) ad) st a->Lv F (λa=>B a\/a ∈ T1) (Gw T2 ad) st a:=λst a z=>by
 rcases z with(z|z)|z|z
 . exact .inl<|.inl z
 . exact .inl<|.inr<|.inl z
 . rcases zzM.mp z with z|z
   . exact .inl<|.inr<|.inr z
   . exact .inr<|.inl z
 . exact .inr<|.inr z
def Rel.hide(R:Rel K kd F B T ad as σ H):Rel K kd F (λa=>B a\/a ∈ T) [] ad as σ H where
 len:=R.len
 out:=R.out
 nd:=R.nd
 inj:=R.inj
 tnd:=zyJ
 dis:=λ_ _ _ z=>nomatch z
 ftr:=R.ftr
 btr:=λa h=>by
  rcases h with h|h
  . obtain⟨h1,h2,h3⟩:=R.btr a h;exact⟨h1,h2,λz=>h3<|Gw.drop a z⟩
  . exact⟨(R.gtr a<|.inl h).1,(R.gtr a<|.inl h).2,λz=>z.elim (λm=>nomatch m) λ⟨j,y⟩=>R.dis j a y h⟩
 gtr:=λa h=>R.gtr a (Gw.drop a h)
 sl:=λi s e=>(R.sl i s e).lv OM
def Rel.unhide(hn:T1.Nodup)(hb:∀a ∈ T1,¬B a)(R:Rel K kd F (λa=>B a\/a ∈ T1) T2 ad as σ H):Rel K kd F B (T1++T2) ad as σ H where
 len:=R.len
 out:=R.out
 nd:=R.nd
 inj:=R.inj
 tnd:=zxE.mpr ⟨hn,R.tnd,λa m b m' e=>by subst e;exact(R.btr a<|.inr m).2.2<|.inl m'⟩
 dis:=λi a m z=>by
  rcases zzM.mp z with z|z
  . exact(R.btr a<|.inr z).2.2<|.inr ⟨i,m⟩
  . exact R.dis i a m z
 ftr:=R.ftr
 btr:=λa h=>by
  obtain⟨h1,h2,h3⟩:=R.btr a<|.inl h;refine⟨h1,h2,λz=>?_⟩
  rcases z with z|z
  . rcases zzM.mp z with z|z
    . exact hb a z h
    . exact h3<|.inl z
  . exact h3 (.inr z)
 gtr:=λa h=>by
  rcases h with h|h
  . rcases zzM.mp h with h|h
    . exact⟨(R.btr a<|.inr h).1,(R.btr a<|.inr h).2.1⟩
    . exact R.gtr a<|.inl h
  . exact R.gtr a (.inr h)
 sl:=λi s e=>(R.sl i s e).lv Py
theorem Rel.frz(R:Rel K kd F B T ad as σ H)(h:as[i]? = some (some o)):
 Rel K kd F B T (Z1 ad i []) (as.set i<|some o.frz) σ H/\∃v,σ[i]? = some (some v)/\Rp K kd (Lv F B (Gw T<|Z1 ad i []) o.str) H v o.toD:=by
 obtain⟨v,hv,ro⟩:=R.sl i _ h;have rp:Rp K kd (Lv F B (Gw T<|Z1 ad i []) o.str) H v o.toD:=
  Ro.rp o.str (λst v d hs r=>r.less λa z=>z.elim (λy=>.inl<|y.elim (λx=>.inl ⟨hs x.1,x.2⟩) .inr) λy=>.inr<|Yk a y)
   (λa n z=>n<|z.elim (λy=>.inl<|y.elim (λx=>.inl ⟨rfl,x.2⟩) .inr) λy=>.inr<|Yk a y) id
   (λa m z=>by
    rcases z with(z|z)|z|⟨j,z⟩
    . exact(R.gtr a<|.inr ⟨i,m⟩).2 z.2
    . exact(R.btr a z).2.2<|.inr ⟨i,m⟩
    . exact R.dis i a m z
    . by_cases e:j=i
      . subst e;rw[zX]at z;cases z
      . rw[yb e]at z;exact e<|R.inj j i a z m) ro
 have hi:=(zzG.mp h).1;refine⟨⟨by rw[zzU];exact R.len,λj hj=>?_,λj=>?_,λj k a h1 h2=>?_,R.tnd,λj a h1=>?_,R.ftr,λa h1=>?_,λa h1=>R.gtr a<|Yk a h1,λj s e=>?_⟩,v,hv,rp⟩
 . rw[zzU]at hj;rw[yb<|q0x hi hj];exact R.out j hj
 . by_cases e:j=i
   . subst e;rw[zX];exact zyJ
   . rw[yb e];exact R.nd j
 . by_cases e:j=i
   . subst e;rw[zX]at h1;cases h1
   . by_cases e':k=i
     . subst e';rw[zX]at h2;cases h2
     . rw[yb e]at h1;rw[yb e']at h2;exact R.inj j k a h1 h2
 . by_cases e:j=i
   . subst e;rw[zX]at h1;cases h1
   . rw[yb e]at h1;exact R.dis j a h1
 . obtain⟨b1,b2,b3⟩:=R.btr a h1;exact⟨b1,b2,λz=>b3<|Yk a z⟩
 . by_cases q:j=i
   . subst q;rw[zyK hi]at e;cases e;rw[zX];exact⟨v,hv,.lf rp⟩
   . rw[zzY<|Ne.symm q]at e;rw[yb q];exact(R.sl j s e).less Yk
def Rel.put(R:Rel K kd F B T ad as σ H)(hi:i<as.length)(h:YV K kd F B (Gw T ad) H v o T):Rel K kd F B [] (Z1 ad i T) (as.set i<|some o) (σ.set i<|some v) H:=by
 have hi':i<σ.length:=by rw[<-R.len];exact hi
 refine⟨by rw[zzU,zzU];exact R.len,λj hj=>?_,λj=>?_,λj k a h1 h2=>?_,zyJ,(λ_ _ _ z=>nomatch z),R.ftr,λa h1=>?_,λa h1=>R.gtr a<|Wb a h1,λj s e=>?_⟩
 . rw[zzU]at hj;rw[yb<|q0x hi hj];exact R.out j hj
 . by_cases e:j=i
   . subst e;rw[zX];exact R.tnd
   . rw[yb e];exact R.nd j
 . by_cases e:j=i
   . subst e;rw[zX]at h1
     by_cases e':k=j
     . exact e'.symm
     . rw[yb e']at h2;exact(R.dis k a h2 h1).elim
   . rw[yb e]at h1
     by_cases e':k=i
     . subst e';rw[zX]at h2;exact(R.dis j a h1 h2).elim
     . rw[yb e']at h2;exact R.inj j k a h1 h2
 . obtain⟨b1,b2,b3⟩:=R.btr a h1;exact⟨b1,b2,λz=>b3<|Wb a z⟩
 . by_cases q:j=i
   . subst q;rw[zyK hi]at e;cases e;rw[zX,zyK hi'];exact⟨v,rfl,h.less Wb⟩
   . rw[zzY<|Ne.symm q]at e;rw[yb q,zzY<|Ne.symm q];exact(R.sl j s e).less Wb
noncomputable def t7(as:AS):RV->Option (O×AS)
 | .ow o=>some (o,as)
 | .bo i=>match as[i]? with
  |some (some o)=>some (o.frz,as.set i<|some o.frz)
  |_=>none
def LX(R:Rel K kd F B T ad as σ H)(h:xo K kd F B T ad σ H v r)(e:t7 as r=some (o,as')):∃ad',Rel K kd F B T ad' as' σ H/\YV K kd F B (Gw T ad') H v o T/\∀a,Gw T ad' a->Gw T ad a:=by
 cases r with
 |ow o'=>cases e;exact⟨ad,R,h,λ_ z=>z⟩
 |bo i=>
  have e:(match as[i]? with|some (some o)=>some _|_=>none)=some (o,as'):=e;cases k:as[i]? with
  |none=>rw[k]at e;cases e
  |some s=>
   cases s with
   |none=>rw[k]at e;cases e
   |some o1=>
    rw[k]at e;cases e;obtain⟨hT,hs⟩:=h;subst hT;obtain⟨R',w,hw,rp⟩:=R.frz k;rw[hs]at hw;cases hw;exact⟨_,R',.lf rp,Yk⟩
end
abbrev TF:=AS->Option (Bool×AS)
def uj(K:zzA)(kd:KD)(f:TF):TT:=λσ H Q=>∃F B ad as b as',Rel K kd F B [] ad as σ H/\f as=some (b,as')/\
 ∀ad' H',Rel K kd F B [] ad' as' σ H'->Grow (Gw [] ad) H (Gw [] ad') H'->Q b H'
@[irreducible] def AT(X:Cx)(kd:KD)(e:Expr)(f:TF):Prop:=PT X e<|uj X.K kd f
@[irreducible] def AW(X:Cx)(kd:KD)(e:Expr)(f:TF):Prop:=PW X e<|uj X.K kd f
noncomputable def truth:D->Option Bool
 | .non=>some false
 | .bl b=>some b
 | .int i=>some<|i != 0
 | .str x=>if x.length<=sizeLine then some ((x.length:Int) != 0)else none
 | .tup ds=>some<|!ds.isEmpty
 | .lst ds=>some (!ds.isEmpty)
 |_=>none
def fT(f:EF):TF:=λas=>(f as).bind λp=>(p.1.frz.view p.2).bind λx=>(truth x.1).bind λb=>some (b,p.2)
noncomputable def BO(f g:TF):TF:=λas=>(f as).bind λp=>if p.1=true then g p.2 else some (false,p.2)
noncomputable def Fs(f g:TF):TF:=λas=>(f as).bind λp=>if p.1=true then some (true,p.2)else g p.2
noncomputable def wH(f:TF):TF:=λas=>(f as).bind λp=>some (!p.1,p.2)
def Ou(c:TF)(f g:EF):EF:=λas=>(c as).bind λp=>if p.1=true then f p.2 else g p.2
noncomputable def HY:D->Option Int
 | .int i=>some i
 |_=>none
def eF:D->Option Str
 | .str i=>some i
 |_=>none
noncomputable def oo:D->Option (List D)
 | .lst i=>some i
 |_=>none
def gX:D->Option (List D)
 | .tup i=>some i
 |_=>none
def Pi(e:oo d=some i):d = .lst i:=by
 cases d with
 |lst j=>cases e;rfl
 |_=>cases e
def JT(e:gX d=some i):d = .tup i:=by
 cases d with
 |tup j=>cases e;rfl
 |_=>cases e
def AL(h:HY d=some c):d = .int c:=by
 cases d with
 |int i=>cases h;rfl
 |_=>cases h
def fR:D->Option Bool
 | .bl i=>some i
 |_=>none
def p6(h:fR d=some c):d = .bl c:=by
 cases d with
 |bl i=>cases h;rfl
 |_=>cases h
noncomputable def i8:RV->Option D
 | .ow (.lf _ d)=>some d
 |_=>none
def ID(h:i8 r=some d):∃st,r = .ow (.lf st d):=by
 cases r with
 |bo i=>cases h
 |ow o=>
  cases o with
  |nd k os=>cases h
  |lf st d=>cases h;exact⟨st,rfl⟩
def gh(r:RV):Option Bool:=(i8 r).bind fR
def Js(h:gh r=some c):∃st,r = .ow (.lf st<|.bl c):=by
 obtain⟨d,h1,h⟩:=bS_ h;cases p6 h;exact ID h1
def f_(r:RV):Option Int:=(i8 r).bind HY
def oK(h:f_ r=some c):∃st,r = .ow (.lf st<|.int c):=by
 obtain⟨d,h1,h⟩:=bS_ h;cases AL h;exact ID h1
noncomputable def pV{α:Type}:List α->Option (α×α)
 | [a,b]=>some (a,b)
 |_=>none
def EM{α:Type}{os}{p:α×α}(h:pV os=some p):os=[p.1,p.2]:=by
 cases os with
 |nil=>cases h
 |cons x r=>
  cases r with
  |nil=>cases h
  |cons y r=>
   cases r with
   |nil=>cases h;rfl
   |cons _ _=>cases h
def jW(r:RV):Option (Bool×List D):=match r with
 | .ow (.lf s d)=>(oo d).bind λl=>some (s,l)
 |_=>none
def SY(h:jW r=some p):r = .ow (.lf p.1<|.lst p.2):=by
 cases r with
 |bo i=>cases h
 |ow o=>
  cases o with
  |nd k os=>cases h
  |lf st d=>
   obtain⟨l,h1,h⟩:=bS_<|h;cases h;cases Pi h1;rfl
def Nr(f g:EF):EF:=λas=>(f as).bind λp=>(gh p.1).bind λc=>if c=true then g p.2 else some (.ow<|.lf true<|.bl false,p.2)
def CQ(f:EF):EF:=λas=>(f as).bind λp=>(gh p.1).bind λc=>some (.ow<|.lf true<|.bl<|!c,p.2)
def f1(fa:EF)(g:D->Option R0):EF:=λas=>(fa as).bind λp=>(p.1.frz.view p.2).bind λx=>(g x.1).bind λr=>(wrap x.2 r).bind λz=>some (z,p.2)
section
variable{X:Cx}{kd:KD}{a b c:Expr}{fa fb:EF}{ta tb:TF}{pos:Pos}{es rest:List Expr}
def Se(h:PT X e t)(k:∀σ H Q,t' σ H Q->t σ H Q):PT X e t':=λpins s σ H Q I q=>h pins s σ H Q I<|k σ H Q q
def Je(h:PW X e t)(k:∀σ H Q,t' σ H Q->t σ H Q):PW X e t':=λw pins s σ H Q I q=>h w pins s σ H Q I<|k σ H Q q
def pO{O}(h:Vw X.K kd O H v d)(e:truth d=some k):oh X.K v H k:=by
 cases h with
 |non=>cases e;rfl
 |bl b=>cases e;rfl
 |int i=>cases e;rfl
 |str x=>
  have e:(if x.length<=sizeLine then some _ else none)=some k:=e
  by_cases hl:x.length<=sizeLine
  . rw[if_pos hl]at e;cases e;exact⟨hl,rfl⟩
  . rw[if_neg hl]at e;cases e
 |tup r hs hr=>
  cases e;refine .inr<|.inl ⟨_,hs, ?_⟩;cases hr<;>rfl
 |lst hs hr=>
  cases e;refine .inl ⟨_,hs.sq, ?_⟩;cases hr<;>rfl
 |dct=>cases e
 |cl=>cases e
 |ob=>cases e
def M0(ha:AE X kd a fa)(he:∀whole,isTrue a X.env whole=(do let v <-whole;standAt a.pos;holding [v] (truthy v))):AT X kd a (fT fa):=by with_unfolding_all exact(Se (J2 ha he) λσ H Q h=>by
 obtain⟨F,B,ad,as,bb,as',R,e,q⟩:=h;obtain⟨⟨p,as1⟩,h1,e⟩:=bS_<|e;obtain⟨⟨d,lv⟩,h2,e⟩:=bS_ e;obtain⟨k,h3,e⟩:=bS_ e;cases e;exact vT R h1 λv ad1 H1 R1 rv1 g1=>⟨_,pO (xo.vw R1 rv1 h2) h3,q ad1 H1 R1 g1⟩)
def oE(ho:pW X kd (compareOp op) g)(hg:∀x y r,g x y=some r->∃k,r = .im (.bl k))(ha:AE X kd a fa)(hb:AE X kd b fb)(hm:behindInMarks op b=false):
 AT X kd (.Compare a [op] [b] pos) (fT<|f2 fa fb g):=by with_unfolding_all exact(Se (sk ho ha hb hm) λσ H Q h=>by
 obtain⟨F,B,ad,as,bb,as',R,e,q⟩:=h;obtain⟨⟨p,as1⟩,h1,e⟩:=bS_<|e;obtain⟨⟨d,lv⟩,h2,e⟩:=bS_ e;obtain⟨k,h3,e⟩:=bS_ e;cases e;obtain⟨_,_,_,x,y,_,_,r0,_,_,_,_,hp,hw⟩:=HA h1;obtain⟨k',rfl⟩:=hg _ _ _ hp;cases hw;cases h2;cases h3;refine j6 (λ_ _ _ _ z=>z) ⟨F,B,ad,as,_,_,R,h1,λv T' ad' H' R' rv g'=>?_⟩;generalize hT:T'=T2 at rv R' g';cases rv with
 |lf rp=>
  cases rp;exact⟨_,rfl,q ad' H' R' g'⟩)
def Sz(ha:AT X kd a ta):AT X kd (.UnaryOp .Not a pos) (wH ta):=by with_unfolding_all exact(Se (oY ha) λσ H Q h=>by
 obtain⟨F,B,ad,as,bb,as',R,e,q⟩:=h;obtain⟨⟨p,as1⟩,h1,e⟩:=bS_<|e;cases e;exact⟨F,B,ad,as,p,_,R,h1,λad' H' R' g=>q ad' H' R' g⟩)
def SR(ha:AT X kd a ta):AW X kd (.BoolOp .And [a] pos) ta:=by with_unfolding_all exact(uY ha)
def CL(ha:AT X kd a ta):AW X kd (.BoolOp .Or [a] pos) ta:=by with_unfolding_all exact(qe ha)
def oC(ha:AT X kd a ta)(hb:AW X kd (.BoolOp .And (b::rest) pos) tb):AW X kd (.BoolOp .And (a::b::rest) pos) (BO ta tb):=by with_unfolding_all exact(Je (qK ha hb) λσ H Q h=>by
 obtain⟨F,B,ad,as,bb,as',R,e,q⟩:=h;obtain⟨⟨p,as1⟩,h1,e⟩:=bS_<|e;refine⟨F,B,ad,as,p,as1,R,h1,λad' H' R' g=>?_⟩;cases p with
 |true=>exact⟨F,B,ad',as1,bb,as',R',e,λad2 H2 R2 g2=>q ad2 H2 R2<|g.trans g2⟩
 |false=>cases e;exact q ad' H' R' g)
def lh(ha:AT X kd a ta)(hb:AW X kd (.BoolOp .Or (b::rest) pos) tb):AW X kd (.BoolOp .Or (a::b::rest) pos) (Fs ta tb):=by with_unfolding_all exact(Je (lY ha hb) λσ H Q h=>by
 obtain⟨F,B,ad,as,bb,as',R,e,q⟩:=h;obtain⟨⟨p,as1⟩,h1,e⟩:=bS_<|e;refine⟨F,B,ad,as,p,as1,R,h1,λad' H' R' g=>?_⟩;cases p with
 |false=>exact⟨F,B,ad',as1,bb,as',R',e,λad2 H2 R2 g2=>q ad2 H2 R2<|g.trans g2⟩
 |true=>cases e;exact q ad' H' R' g)
def AW.at_(h:AW X kd e ta):AT X kd e ta:=by with_unfolding_all exact(PW.pt h)
def FC(hc:AT X kd c ta)(ha:AE X kd a fa)(hb:AE X kd b fb):AE X kd (.IfExp c a b pos) (Ou ta fa fb):=by with_unfolding_all exact(yo (JB hc ha hb) λσ H Q h=>by
 obtain⟨F,B,ad,as,r,as',R,e,q⟩:=h;obtain⟨⟨p,as1⟩,h1,e⟩:=bS_<|e;refine⟨F,B,ad,as,p,as1,R,h1,λad' H' R' g=>?_⟩;cases p with
 |true=>exact⟨F,B,ad',as1,r,as',R',e,λv T2 ad2 H2 R2 rv g2=>q v T2 ad2 H2 R2 rv<|g.trans g2⟩
 |false=>exact⟨F,B,ad',as1,r,as',R',e,λv T2 ad2 H2 R2 rv g2=>q v T2 ad2 H2 R2 rv<|g.trans g2⟩)
def sr{K ad st c}(h:xo K kd F B T ad σ H v (.ow<|.lf st<|.bl c)):T=[]/\v = .bl c:=by
 have h:=h;generalize hT:Gw T ad=G at h;cases h with
 |lf rp=>cases rp;exact⟨rfl,rfl⟩
def IA(ha:AE X kd a fa):AE X kd (.BoolOp op [a] pos) fa:=by with_unfolding_all exact(ou ha)
def Al(ha:AE X kd a fa)(hb:AE X kd (.BoolOp .And (b::rest) pos) fb):AE X kd (.BoolOp .And (a::b::rest) pos) (Nr fa fb):=by with_unfolding_all exact(yo (o8 ha hb) λσ H Q h=>by
 obtain⟨F,B,ad,as,r,as',R,e,q⟩:=h;obtain⟨⟨p,as1⟩,h1,e⟩:=bS_<|e;refine⟨F,B,ad,as,p,as1,R,h1,λv T' ad' H' R' rv g=>?_⟩;obtain⟨k,e1,e⟩:=bS_ e;obtain⟨st,rfl⟩:=Js e1;obtain⟨rfl,rfl⟩:=sr rv;cases k with
 |true=>exact⟨true,rfl,⟨F,B,ad',as1,r,as',R',e,λv T2 ad2 H2 R2 rv g2=>q v T2 ad2 H2 R2 rv<|g.trans g2⟩⟩
 |false=>
  cases e;exact⟨false,rfl,q _ [] ad' H' R' (.lf<|.bl false) g⟩)
def qH(ha:AE X kd a fa):AE X kd (.UnaryOp .Not a pos) (CQ fa):=by with_unfolding_all exact(yo (qD ha) λσ H Q h=>by
 obtain⟨F,B,ad,as,r,as',R,e,q⟩:=h;obtain⟨⟨p,as1⟩,h1,e⟩:=bS_<|e;refine⟨F,B,ad,as,p,as1,R,h1,λv T' ad' H' R' rv g=>?_⟩;obtain⟨k,e1,e⟩:=bS_ e;obtain⟨st,rfl⟩:=Js e1;obtain⟨rfl,rfl⟩:=sr rv;cases e;exact⟨k,rfl,q _ [] ad' H' R' (.lf<|.bl _) g⟩)
def nC(ho:er X kd (unaryOp op) g)(ha:AE X kd a fa):AE X kd (.UnaryOp op a pos) (f1 fa g):=by with_unfolding_all exact(yo (nM ho ha) λσ H Q h=>by
 obtain⟨F,B,ad,as,r,as',R,e,q⟩:=h;obtain⟨⟨p,as1⟩,h1,e⟩:=bS_<|e;obtain⟨⟨x,lv⟩,h2,e⟩:=bS_ e;obtain⟨z,h3,e⟩:=bS_ e;obtain⟨y,h4,e⟩:=bS_ e;cases e;refine vT R h1 λv ad1 H1 R1 rv1 g1=>⟨_,x,z,R1.tr _,xo.vw R1 rv1 h2,h3,Y2 R1 h4 λw T' H' R' rv' g'=>q w T' ad1 H' R' rv'<|g1.trans g'⟩)
end
abbrev AF:=AS->Option (List RV×AS)
inductive RVs(K:zzA)(kd:KD)(F B:Addr->Prop)(ad:Ad)(σ:St)(H:Hp):List V->List RV->Prop
 |nil:RVs K kd F B ad σ H [] []
 |cons {v:V}{r:RV}{vs:List V}{rs:List RV}:xo K kd F B [] ad σ H v r->RVs K kd F B ad σ H vs rs->RVs K kd F B ad σ H (v::vs) (r::rs)
def rS(K:zzA)(kd:KD)(f:AF):TA:=λσ H Q=>∃F B ad as rs as',Rel K kd F B [] ad as σ H/\f as=some (rs,as')/\
 ∀vs ad' H',Rel K kd F B [] ad' as' σ H'->RVs K kd F B ad' σ H' vs rs->Grow (Gw [] ad) H (Gw [] ad') H'->Q vs H'
@[irreducible] def AA(X:Cx)(kd:KD)(es:List Expr)(f:AF):Prop:=PA X es<|rS X.K kd f
def aN:AF:=λas=>some ([],as)
noncomputable def aC(fa:EF)(fr:AF):AF:=λas=>(fa as).bind λp=>(fr p.2).bind λq=>some (p.1.frz::q.1,q.2)
def Ex(h:PA X e t)(k:∀σ H Q,t' σ H Q->t σ H Q):PA X e t':=λpos pins s σ H Q I q=>h pos pins s σ H Q I<|k σ H Q q
abbrev DF:=AS->Option (List O×AS)
def eS(K:zzA)(kd:KD)(f:DF):TA:=λσ H Q=>∃F B ad as os as',Rel K kd F B [] ad as σ H/\f as=some (os,as')/\
 ∀vs T' ad' H',Rel K kd F B T' ad' as' σ H'->vR K kd F B (Gw T' ad') H' vs os T'->Grow (Gw [] ad) H (Gw T' ad') H'->Q vs H'
@[irreducible] def AD(X:Cx)(kd:KD)(es:List Expr)(f:DF):Prop:=PA X es<|eS X.K kd f
def dN:DF:=λas=>some ([],as)
def dC(fa:EF)(fr:DF):DF:=λas=>(fa as).bind λp=>(t7 p.2 p.1).bind λx=>(fr x.2).bind λq=>some (x.1::q.1,q.2)
def views(as:AS):List RV->Option (List D×Option Bool)
 | []=>some ([],some true)
 |r::rs=>(r.view as).bind λx=>(views as rs).bind λy=>some (x.1::y.1,meet x.2 y.2)
def fP(fr:AF)(g:List D->Option R0):EF:=λas=>(fr as).bind λp=>(views p.2 p.1).bind λx=>(g x.1).bind λr=>(wrap x.2 r).bind λz=>some (z,p.2)
def jG(as:AS):RV->Option (Bool×D)
 | .ow o=>some (zC o.toD||o.str,o.toD)
 | .bo i=>match as[i]? with
  |some (some o)=>some (false,o.toD)
  |_=>none
def Xl(as:AS):List RV->Option (List<|Bool×D)
 | []=>some []
 |r::rs=>(jG as r).bind λx=>(Xl as rs).bind λy=>some (x::y)
def zh(fr:AF)(g:List (Bool×D)->Option O):EF:=λas=>(fr as).bind λp=>(Xl p.2 p.1).bind λx=>(g x).bind λo=>some (.ow o,p.2)
def iA(K:zzA)(kd:KD)(F:Addr->Prop)(H:Hp)(Q:VK)(o:O):Prop:=
 ∀v T H',T.Nodup->(∀a ∈ T,H a=none)->(∀b u,H b=some u->H' b=some u)->(∀a ∈ T,H' a≠none)->Ro (λ_ v d=>Rp K kd (VA F (· ∈ T)) H' v d) (λa=>¬VA F (· ∈ T) a) H' v o T->Q v H'
inductive RpA(K:zzA)(kd:KD)(F:Addr->Prop)(H:Hp):List V->List (Bool×D)->Prop
 |nil:RpA K kd F H [] []
 |cons {v:V}{st:Bool}{d:D}{vs:List V}{ds:List (Bool×D)}:Rp K kd (λa=>st=true/\F a) H v d->RpA K kd F H vs ds->RpA K kd F H (v::vs) ((st,d)::ds)
def Tf(K:zzA)(kd:KD)(g:List (Bool×D)->Option O):Sp:=λvs H Q _=>∃F ds o,(∀a,F a->H a≠none)/\RpA K kd F H vs ds/\g ds=some o/\iA K kd F H Q o
def Q3(os:List O):O:=if os.all O.isLf=true then .lf (O.strs os) (.tup<|O.toDs os)else .nd .tp os
def yd(fr:DF):EF:=λas=>(fr as).bind λp=>if p.1.length<=sizeLine then some (.ow<|Q3 p.1,p.2)else none
noncomputable def zZ(fr:DF):EF:=λas=>(fr as).bind λp=>if p.1.length<=sizeLine then some (.ow<|.nd .ls p.1,p.2)else none
section
variable{X:Cx}{kd:KD}{a b c:Expr}{fa fb:EF}{ta tb:TF}{pos:Pos}{es rest:List Expr}{fr:AF}{fd:DF}
theorem RpA.length{K}(h:RpA K kd F H vs ds):vs.length=ds.length:=by
 induction h with
 |nil=>rfl
 |cons _ _ ih=>exact congrArg (· + 1) ih
def zQ:AA X kd [] aN:=by with_unfolding_all exact(Ex Lu λσ H Q h=>by
 obtain⟨F,B,ad,as,rs,as',R,e,q⟩:=h;cases e;exact q [] ad H R .nil Grow.refl)
def DR(ha:AE X kd a fa)(hr:AA X kd es fr)(hs:starEach (a::es) X.env=(false,eval a X.env)::starEach es X.env):AA X kd (a::es) (aC fa fr):=by with_unfolding_all exact(Ex (Qp ha hr hs) λσ H Q h=>by
 obtain⟨F,B,ad,as,rs,as',R,e,q⟩:=h;obtain⟨⟨p,as1⟩,h1,e⟩:=bS_<|e;obtain⟨⟨z,as2⟩,h2,e⟩:=bS_ e;cases e;refine vT R h1 λv ad1 H1 R1 rv1 g1=>⟨F,B,ad1,as1,z,_,R1,h2,λvs ad2 H2 R2 rv2 g2=>?_⟩;exact q _ ad2 H2 R2 (.cons (rv1.grow g2) rv2)<|g1.trans g2)
def YM:AD X kd [] dN:=by with_unfolding_all exact(Ex Lu λσ H Q h=>by
 obtain⟨F,B,ad,as,rs,as',R,e,q⟩:=h;cases e;exact q [] [] ad H R .nil Grow.refl)
def DM(ha:AE X kd a fa)(hr:AD X kd es fd)(hs:starEach (a::es) X.env=(false,eval a X.env)::starEach es X.env):AD X kd (a::es) (dC fa fd):=by with_unfolding_all exact(Ex (Qp ha hr hs) λσ H Q h=>by
 obtain⟨F,B,ad,as,rs,as',R,e,q⟩:=h;obtain⟨⟨p,as1⟩,h1,e⟩:=bS_<|e;obtain⟨⟨o,as2⟩,h2,e⟩:=bS_ e;obtain⟨⟨os,as3⟩,h3,e⟩:=bS_ e;cases e;refine⟨F,B,ad,as,p,as1,R,h1,λv T1 ad1 H1 R1 rv1 g1=>?_⟩;obtain⟨ad2,R2,ro2,le2⟩:=LX R1 rv1 h2;refine⟨F,_,ad2,as2,os,_,R2.hide,h3,λvs T3 ad3 H3 R3 ro3 g3=>?_⟩;have kT:=λa m u e=>g3.keep a u e λz=>z.elim (λy=>nomatch y) λ⟨i,y⟩=>R2.dis i a y m;have r1:=YV.lv Py<|YV.grow g3 kT<|YV.lv OM ro2;have r3:=vR.lv Py ro3;refine q _ _ ad3 H3 (R3.unhide R2.tnd λa m z=>(R2.btr a z).2.2<|.inl m) (.cons r1 r3)<|(g1.trans<|Grow.less le2).trans ⟨λb u e n=>g3.keep b u e λz=>n<|Gw.drop b z,λb z=>?_⟩
 rcases z with z|z
 . rcases zzM.mp z with z|z
   . exact .inl<|.inl z
   . exact(g3.own b<|.inl z).elim (λy=>.inl<|Gw.drop b y) .inr
 . exact(g3.own b<|.inr z).elim (λy=>.inl<|Gw.drop b y) .inr)
def X5(h:AD X kd es fd):AE X kd (.Tuple es x1 pos) (yd fd):=by with_unfolding_all exact(yo (q_ h) λσ H Q h=>by
 obtain⟨F,B,ad,as,r,as',R,e,q⟩:=h;obtain⟨⟨os,as1⟩,h1,e⟩:=bS_<|e;obtain⟨hz,e⟩:=zv e;cases e;refine⟨F,B,ad,as,os,_,R,h1,λvs T1 ad1 H1 R1 ro1 g1=>⟨by rw[ro1.length];exact hz,λp hp=>?_⟩⟩;have k:∀b o,H1 b=some o->upd H1 p (.tup vs) b=some o:=λb o hb=>by rw[zH<|zY hb hp];exact hb
 obtain⟨R2,g2⟩:=R1.more k;have ro2:=vR.grow g2 (λa _ u h=>k a u h) ro1;have np:=λst z=>R1.trk st p z hp;refine q _ T1 ad1 _ R2 ?_<|g1.trans g2;unfold Q3
 by_cases hl:os.all O.isLf=true
 . rw[if_pos hl];have:=IU ro2 hl;subst this;exact .lf<|.tup (np _) (.inl ye)<|Pw ro2 hl
 . rw[if_neg hl];exact .tp (np _) ye ro2)
def A4(h:AD X kd es fd):AE X kd (.List es pos) (zZ fd):=by with_unfolding_all exact(yo (qz h) λσ H Q h=>by
 obtain⟨F,B,ad,as,r,as',R,e,q⟩:=h;obtain⟨⟨os,as1⟩,h1,e⟩:=bS_<|e;obtain⟨hz,e⟩:=zv e;cases e;refine⟨F,B,ad,as,os,_,R,h1,λvs T1 ad1 H1 R1 ro1 g1=>⟨by rw[ro1.length];exact hz,λp hp=>?_⟩⟩;have k:∀b o,H1 b=some o->upd H1 p (.lst vs) b=some o:=λb o hb=>by rw[zH<|zY hb hp];exact hb
 obtain⟨R2,g2⟩:=R1.add (N:=[p]) (by simp) (λa m=>by rw[zzR.mp m];exact hp) k (λa m=>by rw[zzR.mp m,ye];simp);exact q _ _ ad1 _ R2 (.ls ye<|vR.grow g2 (λa _ u h=>k a u h) ro1)<|g1.trans g2)
theorem VwL.less{K O O'}(g:∀a,O' a->O a)(h:VwL K kd O H vs ds):VwL K kd O' H vs ds:=by
 induction h with
 |nil=>exact .nil
 |cons h _ ih=>exact .cons (h.less g) ih
def UY{K ad}(R:Rel K kd F B [] ad as σ H)(h:RVs K kd F B ad σ H vs rs)(e:views as rs=some (ds,lv)):VwL K kd (TY F B (Gw [] ad) lv) H vs ds:=by
 induction h generalizing ds lv with
 |nil=>cases e;exact .nil
 |cons h t ih=>
  obtain⟨⟨d,l⟩,h1,e⟩:=bS_<|e;obtain⟨⟨ds,l2⟩,h2,e⟩:=bS_ e;cases e;exact .cons ((xo.vw R h h1).less TY.meet1)<|(ih h2).less TY.meet2
def fE{R':List V->Hp->VK->Prop}(hr:∀vs H Q,(∃O ds r,(∀a,O a->H a≠none)/\VwL X.K kd O H vs ds/\g ds=some r/\RQ X.K kd O H Q r)->R' vs H Q)
 (h:al X.K kd (fP fr g) σ H Q):rS X.K kd fr σ H λvs H1=>R' vs H1 Q:=by
 obtain⟨F,B,ad,as,r,as',R,e,q⟩:=h;obtain⟨⟨p,as1⟩,h1,e⟩:=bS_<|e;obtain⟨⟨ds,lv⟩,h2,e⟩:=bS_ e;obtain⟨z,h3,e⟩:=bS_ e;obtain⟨y,h4,e⟩:=bS_ e;cases e;exact⟨F,B,ad,as,p,_,R,h1,λvs ad1 H1 R1 rv1 g1=>hr _ _ _ ⟨_,ds,z,R1.tr _,UY R1 rv1 h2,h3,Y2 R1 h4 λw T' H' R' rv' g'=>q w T' ad1 H' R' rv'<|g1.trans g'⟩⟩
def GP{K ad}(R:Rel K kd F B [] ad as σ H)(h:RVs K kd F B ad σ H vs rs)(e:Xl as rs=some ds):RpA K kd (Lv F B (Gw [] ad) true) H vs ds:=by
 induction h generalizing ds with
 |nil=>cases e;exact .nil
 |cons h t ih=>
  rename_i v r vs rs;obtain⟨⟨st,d⟩,h1,e⟩:=bS_<|e;obtain⟨ds,h2,e⟩:=bS_ e;cases e;refine .cons ?_<|ih h2;cases r with
  |ow o=>
   cases h1;cases hf:zC o.toD with
   |true=>exact(G_ h).flat hf
   |false=>
    refine(Kg h).less λa z=>?_;have zs:o.str=true:=z.1;rw[zs];exact z.2
  |bo i=>
   have e:(match as[i]? with|some (some o)=>some _|_=>none)=some (st,d):=h1;cases k:as[i]? with
   |none=>rw[k]at e;cases e
   |some s=>
    cases s with
    |none=>rw[k]at e;cases e
    |some o=>
     rw[k]at e;cases e;obtain⟨w,hw,ro⟩:=R.sl i _ k;rw[h.2]at hw;cases hw;exact(G_ ro).less λa z=>nomatch z.1
def SM{K ad}(R:Rel K kd F B [] ad as σ H)(q:∀v T' H',Rel K kd F B T' ad as σ H'->xo K kd F B T' ad σ H' v (.ow o)->Grow (Gw [] ad) H (Gw T' ad) H'->Q v H'):
 iA K kd (Lv F B (Gw [] ad) true) H Q o:=λv T H' hn hl k h1 ro=>by
 obtain⟨R',g⟩:=R.news hn hl k h1;have le:∀st a,Lv F B (Gw T ad) st a->VA (Lv F B (Gw [] ad) true) (· ∈ T) a:=λst a z=>by
  rcases z with(z|z)|z|z
  . exact .inl<|.inl<|.inl ⟨rfl,z.2⟩
  . exact .inl<|.inl<|.inr z
  . exact .inr z
  . exact .inl<|.inr<|.inr z
 exact q v T H' R' (Ro.mono (λst v d r=>r.less<|le st) (λa vs n e=>⟨λz=>n<|le true a z,e⟩) (λ_ _ _ e=>e) ro) g
def ph(h:al X.K kd (zh fr g) σ H Q):su (Tf X.K kd g) [] E (rS X.K kd fr) σ H Q:=by
 obtain⟨F,B,ad,as,r,as',R,e,q⟩:=h;obtain⟨⟨p,as1⟩,h1,e⟩:=bS_<|e;obtain⟨ds,h2,e⟩:=bS_ e;obtain⟨o,h3,e⟩:=bS_ e;cases e;refine⟨F,B,ad,as,p,_,R,h1,λvs ad1 H1 R1 rv1 g1=>?_⟩;show Tf X.K kd g _ H1 Q E;rw[zyE];exact⟨_,ds,o,R1.trk true,GP R1 rv1 h2,h3,SM R1 λw T' H' R' rv' g'=>q w T' ad1 H' R' rv'<|g1.trans g'⟩
end
inductive Out where
 |nx (as:AS)|rt (o:O)|bk (as:AS)|ct (as:AS)
abbrev SF:=AS->Option Out
structure RetOk(K:zzA)(kd:KD)(F:Addr->Prop)(T:List Addr)(H:Hp)(v:V)(o:O):Prop where
 nd:T.Nodup
 tr:∀a ∈ T,H a≠none
 ro:Ro (λ_ v d=>Rp K kd (VA F (· ∈ T)) H v d) (λa=>¬VA F (· ∈ T) a) H v o T
def H_(K:zzA)(kd:KD)(F B:Addr->Prop)(ad:Ad)(H:Hp)(D:Ends):Out->Prop
 | .nx as'=>∀σ' ad' H',Rel K kd F B [] ad' as' σ' H'->Grow (Gw [] ad) H (Gw [] ad') H'->D.nx σ' H'
 | .bk as'=>∀σ' ad' H',Rel K kd F B [] ad' as' σ' H'->Grow (Gw [] ad) H (Gw [] ad') H'->D.bk σ' H'
 | .ct as'=>∀σ' ad' H',Rel K kd F B [] ad' as' σ' H'->Grow (Gw [] ad) H (Gw [] ad') H'->D.ct σ' H'
 | .rt o=>∀v T H',RetOk K kd F T H' v o->Grow (Gw [] ad) H (· ∈ T) H'->D.rt v H'
def be(K:zzA)(kd:KD)(f:SF):TS:=λD σ H=>∃F B ad as o,Rel K kd F B [] ad as σ H/\f as=some o/\H_ K kd F B ad H D o
@[irreducible] def B2(X:Cx)(kd:KD)(st:Stmt)(f:SF):Prop:=PS X st<|be X.K kd f
@[irreducible] def O0(X:Cx)(kd:KD)(st:List Stmt)(f:SF):Prop:=M_ X st<|be X.K kd f
def xR(h:PS X e t)(k:∀D σ H,t' D σ H->t D σ H):PS X e t':=λa s σ H D I q=>h a s σ H D I<|k D σ H q
def YW(h:M_ X e t)(k:∀D σ H,t' D σ H->t D σ H):M_ X e t':=λa s σ H D I q=>h a s σ H D I<|k D σ H q
def H_.pre{K ad ad1 D}(g:Grow (Gw [] ad) H (Gw [] ad1) H1)(h:H_ K kd F B ad H D o):H_ K kd F B ad1 H1 D o:=by
 cases o with
 |nx as=>exact λσ' ad' H' R g'=>h σ' ad' H' R (g.trans g')
 |bk as=>exact λσ' ad' H' R g'=>h σ' ad' H' R (g.trans g')
 |ct as=>exact λσ' ad' H' R g'=>h σ' ad' H' R (g.trans g')
 |rt r=>exact λv T H' R g'=>h v T H' R<|g.trans g'
noncomputable def yM:SF:=λas=>some<|.nx as
def ze(f g:SF):SF:=λas=>(f as).bind λo=>match o with | .nx as'=>g as'|o=>some o
noncomputable def yR(c:TF)(f g:SF):SF:=λas=>(c as).bind λp=>if p.1=true then f p.2 else g p.2
def yq(f:EF):SF:=λas=>(f as).bind λp=>some<|.nx p.2
noncomputable def Ir(as:AS):RV->Option O
 | .ow o=>if o.str=true then some o else none
 | .bo i=>match as[i]? with
  |some (some o)=>if o.str=true then some o else none
  |_=>none
def zw(f:EF):SF:=λas=>(f as).bind λp=>(Ir p.2 p.1).bind λo=>some<|.rt o
def zp(z:Bool)(i:Nat)(f:EF):SF:=λas=>(f as).bind λp=>(t7 p.2 (if z=true then p.1.frz else p.1)).bind λx=>if i<x.2.length then some (.nx<|x.2.set i<|some x.1)else none
def Ro.strong(h:Ro L N H v o fp)(e:o.str=true):Ro (λst v d=>st=true/\L st v d) N H v o fp:=
 Ro.rec (motive_2:=λvs os fp _=>O.strs os=true->RoL (λst v d=>st=true/\L st v d) N H vs os fp)
  (λh e=>.lf ⟨e,h⟩) (λh _ r e=>.ls h<|r e) (λh l _ r e=>.dc h l<|r e) (λc h l _ r e=>.ob ⟨rfl,c⟩ h l<|r e) (λn h _ r e=>.tp n h<|r e) (λ_=>.nil) (λ_ _ h r e=>.cons (h ((zyC _ _).mp e).1)<|r ((zyC _ _).mp e).2) h e
section
variable{K:zzA}{kd:KD}{F B:Addr->Prop}{T:List Addr}{ad ad1:Ad}{as as1:AS}{σ:St}{H H1:Hp}{v:V}{r:RV}{o:O}
def Eo(R:Rel K kd F B T ad as σ H)(hn:T'.Nodup)(hs:∀a ∈ T',Gw T ad a)(h:YV K kd F B (Gw T ad) H v o T')(e:o.str=true):RetOk K kd F T' H v o:=by
 have b:∀a,VA F (· ∈ T') a->Lv F B _ true a:=λa z=>z.elim (λy=>.inl<|.inl ⟨rfl,y⟩) λy=>.inr<|hs a y;exact⟨hn,λa m=>(R.gtr a<|hs a m).1,Ro.mono (λc v d r=>by obtain⟨rfl,r⟩:=r;exact r.less b) (λa f n e=>⟨λz=>n<|b a z,e⟩) (λ_ _ _ e=>e)<|Ro.strong h e⟩
def Rel.ret(R:Rel K kd F B T ad as σ H)(hr:xo K kd F B T ad σ H v r)(e:Ir as r=some o):∃T',RetOk K kd F T' H v o/\∀b ∈ T',Gw T ad b:=by
 cases r with
 |ow g=>
  obtain⟨c,rfl⟩:=zv e;exact⟨T,Eo R R.tnd (λa m=>.inl m) hr c,λa m=>.inl m⟩
 |bo i=>
  have e:(match as[i]? with|some (some o)=>if o.str=true then some o else none|_=>none)=some o:=e;cases k:as[i]? with
  |none=>rw[k]at e;cases e
  |some s=>
   cases s with
   |none=>rw[k]at e;cases e
   |some h=>
    rw[k]at e;obtain⟨c,rfl⟩:=zv e;obtain⟨w,d,f⟩:=R.sl i _ k;rw[hr.2]at d;cases d;exact⟨ad i,Eo R (R.nd i) (λa m=>.inr ⟨i,m⟩) f c,λa m=>.inr ⟨i,m⟩⟩
end
section
variable{X:Cx}{kd:KD}{st:Stmt}{sts rest:List Stmt}{a b c e:Expr}{fa fb:EF}{ta:TF}{pos:Pos}{f g:SF}
def vH:O0 X kd [] yM:=by with_unfolding_all exact(YW Ek λD σ H h=>by
 obtain⟨F,B,a,as,o,R,e,q⟩:=h;cases e;exact q σ a H R Grow.refl)
def xG(h1:B2 X kd st f)(h2:O0 X kd rest g):O0 X kd (st::rest) (ze f g):=by with_unfolding_all exact(YW (XC h1 h2) λD σ H h=>by
 obtain⟨F,B,ad,as,o,R,e,q⟩:=h;obtain⟨o1,e1,e⟩:=bS_<|e;refine⟨F,B,ad,as,o1,R,e1, ?_⟩;cases o1 with
 |nx as1=>exact λσ' ad' H' R' g'=>⟨F,B,ad',as1,o,R',e,q.pre g'⟩
 |bk as1=>cases e;exact q
 |ct as1=>cases e;exact q
 |rt r=>cases e;exact q)
def xg(h1:B2 X kd st f):O0 X kd [st] f:=by with_unfolding_all exact(UX h1)
def Di:SF:=λ_=>none
def jF:B2 X kd st Di:=by with_unfolding_all exact(λa s σ H D I h=>by obtain⟨F,B,b,as,o,R,e,q⟩:=h;cases e)
def Qj(hc:AT X kd c ta)(ha:O0 X kd sts f)(hb:O0 X kd rest g):B2 X kd (.If c sts rest pos) (yR ta f g):=by with_unfolding_all exact(xR (An hc ha hb) λD σ H h=>by
 obtain⟨F,B,i,as,o,R,e,q⟩:=h;obtain⟨⟨p,a⟩,j,e⟩:=bS_<|e;refine⟨F,B,i,as,p,a,R,j,λb k d g=>?_⟩;cases p with
 |true=>exact⟨F,B,b,a,o,d,e,q.pre g⟩
 |false=>exact⟨F,B,b,a,o,d,e,q.pre g⟩)
def D7(he:AE X kd e fa)(hs:swapsWith e none pos.line X.env=pure false):B2 X kd (.Expr e pos) (yq fa):=by with_unfolding_all exact(xR (U9 he hs) λD σ H h=>by
 obtain⟨F,B,c,as,o,R,e,q⟩:=h;obtain⟨⟨p,a⟩,d,e⟩:=bS_<|e;cases e;exact⟨F,B,c,as,p,a,R,d,λv j b f i k g=>q σ b f i.drop<|g.trans<|Grow.less Gw.drop⟩)
def vi(he:AE X kd e fa):B2 X kd (.Return (some e) pos) (zw fa):=by with_unfolding_all exact(xR (AN he) λD σ H h=>by
 obtain⟨F,B,b,as,o,R,e,q⟩:=h;obtain⟨⟨p,a⟩,c,e⟩:=bS_<|e;obtain⟨r,d,e⟩:=bS_ e;cases e;refine⟨F,B,b,as,p,a,R,c,λv s f i j k g=>?_⟩;obtain⟨l,m,n⟩:=j.ret k d;exact q v l i m<|g.trans<|Grow.less n)
def SG{K ad}{i:Nat}(R:Rel K kd F B T ad as σ H)(rv:xo K kd F B T ad σ H v r)
 (h2:t7 as (if z=true then r.frz else r)=some (o,as2)) (hl:i<as2.length):∃ad',Rel K kd F B [] ad' (as2.set i<|some o) (σ.set i<|some v) H/\∀a,Gw [] ad' a->Gw T ad a:=by
 cases z with
 |true=>
  obtain⟨b,c,d,e⟩:=LX R.drop (xo.drop R rv) h2;exact⟨_,c.put hl d,λa y=>Gw.drop a<|e a<|Wb a y⟩
 |false=>
  obtain⟨b,c,d,e⟩:=LX R rv h2;exact⟨_,c.put hl d,λa y=>e a<|Wb a y⟩
def Ak(hN:X.N.Nodup)(hi:X.N[i]? = some x)(hx:Loc X.env.scope x)(he:AE X kd e fa)(hs:swapsWith e (some<|.Name x pos') pos.line X.env=pure false)(hf:X.fn x=true\/X.env.scope.names.lookup x=some .local):
 B2 X kd (.Assign [.Name x pos'] e pos) (zp z i fa):=by with_unfolding_all exact(xR (Iu hN hi hx he hs hf) λD σ H h=>by
 obtain⟨F,B,c,as,o,R,e,q⟩:=h;obtain⟨⟨p,a⟩,d,e⟩:=bS_<|e;obtain⟨⟨y,f⟩,j,e⟩:=bS_ e;obtain⟨k,e⟩:=zv e;cases e;refine⟨F,B,c,as,p,a,R,d,λv t l m n r g=>?_⟩;obtain⟨b,R2,s⟩:=SG n r j k;exact q _ b m R2<|g.trans<|Grow.less s)
end
def Zh(n:Nat)(ds:List (Bool×D)):AS:=ds.map (λx=>some<|.lf x.1 x.2)++List.replicate (n-ds.length) none
noncomputable def gj:Out->Option O
 | .nx _=>some<|.lf true .non
 | .rt o=>some o
 |_=>none
def xY(n m:Nat)(f:SF)(ds:List (Bool×D)):Option O:=if ds.length=m then(f<|Zh n ds).bind gj else none
theorem RpA.get{K}:∀{vs:List V}{ds:List (Bool×D)}{i:Nat}{x:Bool×D},RpA K kd F H vs ds->ds[i]? = some x->∃v,vs[i]? = some v/\Rp K kd (λa=>x.1=true/\F a) H v x.2
 |_,_,_,_,.nil,e=>by simp at e
 |_,_,0,_,.cons h _,e=>by simp at e;subst e;exact⟨_,rfl,h⟩
 |_,_,i+1,_,.cons _ r,e=>by
  obtain⟨v,b,c⟩:=RpA.get r (by simpa using e);exact⟨v,by simpa using b,c⟩
def CG{K}(ht:∀a,F a->H a≠none)(rp:RpA K kd F H vs ds):
 Rel K kd F (λ_=>False) [] (λ_=>[]) (Zh N.length ds) (L2.start N vs) H:=by
 have c:=rp.length;have f:∀a,¬Gw [] (λ_=>[]) a:=λa z=>z.elim (λy=>nomatch y) λ⟨_,y⟩=>nomatch y;refine⟨by unfold Zh L2.start;simp[c],λ_ _=>rfl,λ_=>zyJ,(λ_ _ _ z=>nomatch z),zyJ,(λ_ _ _ z=>nomatch z),ht,(λ_ z=>z.elim),λa z=>(f a z).elim,λi s e=>?_⟩;unfold Zh at e;unfold L2.start
 by_cases g:i<ds.length
 . rw[zyP (by rw[zzB];exact g),zzI]at e;obtain⟨d,h,b⟩:=zzX.mp e;subst b;obtain⟨v,j,k⟩:=rp.get h;rw[zyP (by rw[zzB,c];exact g),zzI,j];refine⟨v,rfl,.lf<|k.less λa z=>?_⟩
   rcases z with(z|z)|z
   . exact z
   . exact z.elim
   . exact(f a z).elim
 . rw[zyR<|by rw[zzB];exact q0L g]at e;have:=zyA e;have b:=(List.mem_replicate.mp this).2;subst b;rfl
section
variable{P:Program}{w:World}{K:zzA}{mg:Str->Option Value}{base:Heap}
def Io(q:iA K kd F H Q o)(ro:RetOk K kd F T H' v o)(g:Grow (Gw [] λ_=>[]) H (· ∈ T) H'):Q v H':=by
 have c:∀a,¬Gw [] (λ_=>[]) a:=λa z=>z.elim (λy=>nomatch y) λ⟨_,y⟩=>nomatch y;exact q v T H' ro.nd (λa m=>(g.own a m).resolve_left<|c a) (λb u h=>g.keep b u h<|c b) ro.tr ro.ro
def YH{st}{k:Nat}(Fn:Fun K x qual st f fd)(S:FnScope N ps (zd st))
 (hb:∀(cdv:Value) (A:Around) (outer:List Env) (s:Shared) (H:Hp) (E:XK),Room k (A.deeper<|envOfC qual (zd st) s.heap.objs.size f cdv)->O0 (LM vI P w K mg base N qual (zd st) f cdv A outer s H E).nox kd (Zo st) c):
 FnOk P w K mg base vI (k+1) f fd ps (Tf K kd<|xY N.length ps.length c):=by
 with_unfolding_all (
 refine Fn.ok S (λvs H Q E h=>?_) λcdv A outer s H vs Q E hr h=>⟨_,hb cdv A outer s H E hr, ?_⟩
 . obtain⟨F,ds,r,_,rp,e,_⟩:=h;unfold xY at e
   by_cases hl:ds.length=ps.length
   . rw[rp.length,hl]
   . rw[if_neg hl]at e;cases e
 . obtain⟨F,ds,r,ht,rp,e,q⟩:=h;unfold xY at e
   by_cases hl:ds.length=ps.length
   . rw[if_pos hl]at e;obtain⟨o,e1,e⟩:=bS_ e;refine⟨F,λ_=>False,λ_=>[],Zh N.length ds,o,CG ht rp,e1, ?_⟩;cases o with
     |nx as=>cases e;exact λσ' ad' H' R g=>Io q ⟨zyJ,(λ_ m=>nomatch m),.lf .non⟩ (g.trans<|Grow.less (λ_ z=>nomatch z))
     |rt o=>cases e;exact λv T H' ro g=>Io q ro g
     |bk=>cases e
     |ct=>cases e
   . rw[if_neg hl]at e;cases e)
end
abbrev wK:=Bool×D
abbrev GF:=wK->AS->Option AS
abbrev sD:=List wK->AS->Option AS
def kids(st:Bool)(ds:List D):List wK:=ds.map λd=>(zC d||st,d)
inductive RpI(K:zzA)(kd:KD)(F B G:Addr->Prop)(H:Hp):List V->List wK->Prop
 |nil:RpI K kd F B G H [] []
 |cons {v:V}{x:wK}{vs:List V}{ds:List wK}:Rp K kd (Lv F B G x.1) H v x.2->RpI K kd F B G H vs ds->RpI K kd F B G H (v::vs) (x::ds)
def jI(K:zzA)(kd:KD)(S:List Nat)(g:GF):TG:=λv σ H Q=>∃F B ad as x as',Rel K kd F B [] ad as σ H/\Rp K kd (Lv F B (Gw [] ad) x.1) H v x.2/\g x as=some as'/\
 ∀σ' ad' H',Rel K kd F B [] ad' as' σ' H'->Grow (Gw [] ad) H (Gw [] ad') H'->(∀j,j ∉ S->σ'[j]? = σ[j]?)->Q σ' H'
def il(K:zzA)(kd:KD)(S:List Nat)(g:sD):qX:=λvs σ H Q=>∃F B ad as ds as',Rel K kd F B [] ad as σ H/\RpI K kd F B (Gw [] ad) H vs ds/\g ds as=some as'/\
 ∀σ' ad' H',Rel K kd F B [] ad' as' σ' H'->Grow (Gw [] ad) H (Gw [] ad') H'->(∀j,j ∉ S->σ'[j]? = σ[j]?)->Q σ' H'
@[irreducible] def AG(X:Cx)(kd:KD)(tg:Expr)(S:List Nat)(g:GF):Prop:=PG X tg<|jI X.K kd S g
@[irreducible] def sW(X:Cx)(kd:KD)(tg:List Expr)(S:List Nat)(g:sD):Prop:=sx X tg<|il X.K kd S g
def qw(h:PG X e t)(k:∀v σ H Q,t' v σ H Q->t v σ H Q):PG X e t':=λa s σ H v u Q I r q=>h a s σ H v u Q I r<|k v σ H Q q
def Ol(h:sx X e t)(k:∀v σ H Q,t' v σ H Q->t v σ H Q):sx X e t':=λa s σ H v u Q I r q=>h a s σ H v u Q I r<|k v σ H Q q
noncomputable def gN(i:Nat):GF:=λx as=>if i<as.length then some (as.set i<|some<|.lf x.1 x.2)else none
def XM:sD:=λds as=>match ds with | []=>some as|_::_=>none
noncomputable def yG(g:GF)(gs:sD):sD:=λds as=>match ds with | []=>none|d::r=>(g d as).bind λas1=>gs r as1
def gT(n:Nat)(gs:sD):GF:=λx as=>match x.2 with
 | .tup ds=>if ds.length=n then gs (kids x.1 ds) as else none
 | .lst ds=>if ds.length=n then gs (kids x.1 ds) as else none
 |_=>none
section
variable{K:zzA}{kd:KD}{F B G G':Addr->Prop}{H H':Hp}
theorem RpI.length(h:RpI K kd F B G H vs ds):vs.length=ds.length:=by
 induction h with
 |nil=>rfl
 |cons _ _ a=>exact congrArg (· + 1) a
theorem RpI.grow(g:Grow G H G' H')(h:RpI K kd F B G H vs ds):RpI K kd F B G' H' vs ds:=by
 induction h with
 |nil=>exact .nil
 |cons h _ a=>exact .cons (Rp.grow g h) a
def RpI.get{i:Nat}(h:RpI K kd F B G H vs ds)(e:ds[i]? = some x):∃v,vs[i]? = some v/\Rp K kd (Lv F B G x.1) H v x.2:=by
 induction h generalizing i with
 |nil=>simp at e
 |cons h r a=>
  cases i with
  |zero=>simp at e;subst e;exact⟨_,rfl,h⟩
  |succ i=>
   obtain⟨v,b,c⟩:=a (by simpa using e);exact⟨v,by simpa using b,c⟩
def Qz{st}(h:RpL K kd (Lv F B G st) H vs ds):RpI K kd F B G H vs (kids st ds):=
 RpL.ind (P:=λa b=>RpI K kd F B G H a<|kids st b) .nil (λ{v d a b} h _ c=>by
  refine .cons (x:=(zC d||st,d)) ?_ c;cases e:zC d with
  |true=>exact h.flat e
  |false=>exact h) h
end
section
variable{prog:Program}{w:World}{A:Around}{E:Value->Shared->Prop}{s:Shared}
theorem N4(hne:l≠it):∀(n i:Nat) (s:Shared) (Q:List Value->Shared->Prop),s.heap.IsListIter it l i->s.heap.IsList l items->i+n<=items.size->
 (∀h',h'.IsListIter it l (i+n)->Heap.SameBut it s.heap h'->Q ((items.toList.drop i).take n) {s with heap:=h'})->wpAny (model prog w) A (draw (.ref it) n) Q E s
 |0,i,s,Q,a,_,_,f=>by
  exact zxG (by simpa using f s.heap a (Heap.SameBut.refl ..))
 |n+1,i,s,Q,a,h,j,f=>by
  have b:i<items.size:=by omega
  refine zxF<|wpAny_pyNext_list_item a h (x:=items[i]) (by simp[b]) λo c d=>?_;refine zxF<|zxK<|N4 hne n (i+1) _ _ c (h.extBut d.extBut hne) (by omega) λk e g=>zxG ?_;have m:items.toList.drop i=items[i]::items.toList.drop (i+1):=by simp[zyQ,b]
  have:=f k (by rw[show i+(n+1)=i+1+n from q0e];exact e)<|d.trans g;rw[m,List.take_succ_cons]at this;exact this
def Bs(hh:A.handled=none)(ht:s.heap.IsList l items)
 (hn:targets.length=items.size) (hstar:targets.findIdx? (·.1)=none)
 (h:∀h',Heap.ExtBut s.heap.objs.size s.heap h'->wpAny (model prog w) A (assignInOrder (targets.map (·.2)) items.toList) Q E {s with heap:=h'}):
 wpAny (model prog w) A (unpack (.ref l) targets) Q E s:=by
 unfold unpack;rw[hn,hstar];refine zxF<|zxK ?_;have a:l≠s.heap.objs.size:=by obtain⟨o,k,_⟩:=ht;exact zzQ<|zxI k
 unfold unpackItems;refine zxF ?_;unfold notIterableAtAll;refine zxF<|wpAny_specialOf ht.typeIs PySem.F.slot_list_iter.lookup ?_;refine zxG ?_;simp only[Bool.false_eq_true,if_false];refine zxF<|zxK<|wpAny_pyIter_list ht ?_;refine zxF<|zxK<|N4 a items.size 0 _ _ ⟨_,zxJ _ rfl,rfl,rfl⟩ (ht.push _) (by omega) λm c d=>?_;have f:List.take items.size (List.drop 0 items.toList)=items.toList:=by
  rw[List.drop_zero];exact List.take_of_length_le (by simp)
 rw[f];rw[if_neg<|by simp];have g:=(ht.push _).extBut d.extBut a;refine zxF<|zxK<|wpAny_pyNext_list_end hh c g (by simp) λn i=>?_;simp only[Option.isSome_none,Bool.false_eq_true,if_false];exact zxG<|h n λb o j e=>i b o j<|d.extBut b o j<|zxH _ e
end
section
variable{X:Cx}{kd:KD}{a b c e tg iter:Expr}{es:List Expr}{body:List Stmt}{fa fb:EF}{pos:Pos}{g:GF}{gs:sD}{f:SF}{ta:TF}{S S1 S2:List Nat}
def gC(K:zzA)(n:Nat)(t:qX):TG:=λv σ H Q=>∃a xs,v = .ref a/\Vp K H a xs/\xs.length=n/\t xs σ H Q
def AJ(hc:X.calm=true)(h:sx X es t)(hn:(assignEach es X.env).length=n)(hst:(assignEach es X.env).findIdx? (·.1)=none):PG X (.Tuple es k pos) (gC X.K n t):=by
 intro c s σ H v u Q I r d;obtain⟨a,g,i,j,l,d⟩:=d;subst i;cases r;obtain⟨m,f,p,y⟩:=I.list j;rw[assign_Tuple];refine zxF<|wpAny_standAt<|Bs (I.ok.hd hc) p.isList (by simp[hn,<-l,f.length]) hst λq w=>?_;have x:=I.kept (t':=s.toks) λb o e=>w b o (zzQ<|zxI e) e;exact h c _ σ H g _ Q x (by simpa using f) d
def Od(hN:X.N.Nodup)(hi:X.N[i]? = some x)(hx:Loc X.env.scope x)(hf:X.fn x=true\/X.env.scope.names.lookup x=some .local):AG X kd (.Name x pos) [i] (gN i):=by with_unfolding_all exact(qw (u5 hN hi hx hf) λv σ H Q h=>by
 obtain⟨F,B,f,as,y,a,R,b,e,q⟩:=h;obtain⟨c,e⟩:=zv e;cases e;exact q _ _ H (R.put c<|.lf b) (Grow.less Wb) λj d=>zzY λz=>d<|by rw[z];simp)
def G0:sW X kd [] [] XM:=by with_unfolding_all exact(Ol D3 λd σ H Q h=>by
 obtain⟨F,B,a,as,f,b,R,c,e,q⟩:=h;cases c with
 |nil=>cases e;exact⟨rfl,q σ a H R Grow.refl λ_ _=>rfl⟩
 |cons=>cases e)
def XX(h1:AG X kd a S1 g)(h2:sW X kd es S2 gs)(hs:(assignEach (a::es) X.env).map (·.2)=assign a X.env::(assignEach es X.env).map (·.2)):sW X kd (a::es) (S1++S2) (yG g gs):=by with_unfolding_all exact(Ol (J5 h1 h2 hs) λx σ H Q h=>by
 obtain⟨F,B,l,as,y,c,R,m,e,q⟩:=h;cases m with
 |nil=>cases e
 |cons r n=>
  obtain⟨b,o,e⟩:=bS_<|e;refine⟨_,_,rfl,F,B,l,as,_,b,R,r,o,λA d C p i s=>?_⟩;exact⟨F,B,d,b,_,c,p,n.grow i,e,λt f u R2 v w=>q t f u R2 (i.trans v) λj k=>(w j λz=>k<|zzL _ z).trans<|s j λz=>k<|zzP _ z⟩)
def EO{k n:Nat}(hc:X.calm=true)(h:sW X kd es S gs)(hn:(assignEach es X.env).length=n)(hst:(assignEach es X.env).findIdx? (·.1)=none):AG X kd (.Tuple es k pos) S (gT n gs):=by
 with_unfolding_all (
 intro pins s σ H v u Q I r hw;obtain⟨F,B,ad,as,⟨st,d⟩,as',R,rp,e,q⟩:=hw;cases d with
 |tup ds=>
  have e:(if ds.length=n then gs _ as else none)=some as':=e
  by_cases hl:ds.length=n
  . rw[if_pos hl]at e;have go:∃a xs,v = .ref a/\UE X.K H a xs/\RpL X.K kd (Lv F B (Gw [] ad) st) H xs ds:=by
     cases rp with
     |tup n h r=>exact⟨_,_,rfl,.inl h,r⟩
     |tupK a b c e f r=>exact⟨_,_,rfl,.inr ⟨_,_,_,a,b,c,e,f⟩,r⟩
    obtain⟨a,xs,rfl,hs,rl⟩:=go;exact qY hc h hn hst pins s σ H _ u Q I r ⟨a,xs,rfl,hs,by rw[rl.length,hl],F,B,ad,as,_,as',R,Qz rl,e,q⟩
  . rw[if_neg hl]at e;cases e
 |lst ds=>
  have e:(if ds.length=n then gs _ as else none)=some as':=e
  by_cases hl:ds.length=n
  . rw[if_pos hl]at e;cases rp with
    |lstK a b c r'=>exact AJ hc h hn hst pins s σ H _ u Q I r ⟨_,_,rfl,.inr ⟨_,_,_,a,rfl,rfl,rfl,b,c⟩,by rw[r'.length,hl],F,B,ad,as,_,as',R,Qz r',e,q⟩
    |lst n h' r'=>exact AJ hc h hn hst pins s σ H _ u Q I r ⟨_,_,rfl,.inl h',by rw[r'.length,hl],F,B,ad,as,_,as',R,Qz r',e,q⟩
  . rw[if_neg hl]at e;cases e
 |_=>cases e)
def X_(as:AS)(r:RV):Option (wK×AS):=(t7 as r.frz).bind λx=>match x.1 with | .lf st d=>some ((st,d),x.2)|_=>none
def Qk{K ad}(R:Rel K kd F B T ad as σ H)(h:xo K kd F B T ad σ H v r)(e:X_ as r=some (x,as')):
 ∃ad',Rel K kd F B [] ad' as' σ H/\Rp K kd (Lv F B (Gw [] ad') x.1) H v x.2/\∀a,Gw [] ad' a->Gw T ad a:=by
 obtain⟨⟨o,c⟩,f,e⟩:=bS_ e;obtain⟨b,g,i,j⟩:=LX R.drop (xo.drop R h) f;cases o with
 |lf l d=>
  cases e;refine⟨b,g, ?_,λa y=>Gw.drop a<|j a y⟩;have:=Kg i;exact this
 |nd k m=>cases e
def Vu(f:EF)(g:GF):SF:=λas=>(f as).bind λp=>(X_ p.2 p.1).bind λq=>(g q.1 q.2).bind λas'=>some<|.nx as'
def p5(he:AE X kd e fa)(hg:AG X kd tg S g)(hs:swapsWithSole [tg] e pos.line X.env=pure false)(hw:swappedStores [tg] e X.env=pure none)(h1:(assignEach [tg] X.env).map (·.2)=[assign tg X.env]):
 B2 X kd (.Assign [tg] e pos) (Vu fa g):=by with_unfolding_all exact(xR (pq he hg hs hw h1) λD σ H h=>by
 obtain⟨F,B,ad,as,o,R,e,q⟩:=h;obtain⟨⟨p,as1⟩,h1,e⟩:=bS_<|e;obtain⟨⟨x,as2⟩,h2,e⟩:=bS_ e;obtain⟨as3,h3,e⟩:=bS_ e;cases e;refine⟨F,B,ad,as,p,as1,R,h1,λv T' ad' H' R' rv g1=>?_⟩;obtain⟨ad2,R2,rp,le⟩:=Qk R' rv h2;exact⟨F,B,ad2,as2,_,as3,R2,rp,h3,λσ' ad' H' R' g' _=>q σ' ad' H' R'<|(g1.trans<|Grow.less le).trans g'⟩)
structure ItOk(K:zzA)(kd:KD)(F B:Addr->Prop)(ad:Ad)(H:Hp)(J:It)(ds:List wK):Prop where
 all:∀(ad2:Ad) (H2:Hp),Grow (Gw [] ad) H (Gw [] ad2) H2->(∀st a,Lv F B (Gw [] ad2) st a->H2 a≠none)->∀i,(i<ds.length->J.go i H2)/\(ds.length<=i->J.stop i H2)/\
  ∀v H3,J.yld i H2 v H3->(∀b o,H2 b=some o->H3 b=some o)/\∀x,ds[i]? = some x->Rp K kd (Lv F B (Gw [] ad2) x.1) H3 v x.2
abbrev IF:=AS->Option (List wK×AS)
def dA(K:zzA)(kd:KD)(f:IF):TI:=λσ H R=>∃F B ad as ds as',Rel K kd F B [] ad as σ H/\f as=some (ds,as')/\
 ∀J ad' H',Rel K kd F B [] ad' as' σ H'->Grow (Gw [] ad) H (Gw [] ad') H'->ItOk K kd F B ad' H' J ds->R J H'
@[irreducible] def AI(X:Cx)(kd:KD)(tg iter:Expr)(f:IF):Prop:=PI X tg iter<|dA X.K kd f
noncomputable def forL(g:GF)(f:SF):List wK->AS->Option Out
 | [],as=>some (.nx as)
 |d::r,as=>(g d as).bind λas1=>(f as1).bind λo=>match o with
  | .nx as'=>forL g f r as'
  | .ct as'=>forL g f r as'
  | .bk as'=>some<|.nx as'
  | .rt r=>some<|.rt r
def yJ(fi:IF)(g:GF)(f:SF):SF:=λas=>(fi as).bind λp=>forL g f p.1 p.2
def pL(hp:PassesOwn (model X.prog X.w) X.A X.env X.xe)(hc:X.calm=true)(hi:AI X kd tg iter fi)(hg:AG X kd tg S g)(hb:O0 X kd body f)(hs:∀x,foldedSetIterable iter X.env x=pure x):
 B2 X kd (.For tg iter body [] pos) (yJ fi g f):=by with_unfolding_all exact(xR (Ij hp hc hi hg hb hs) λD σ H h=>by
 obtain⟨F,B,ad,as,o,R,e,q⟩:=h;obtain⟨⟨ds,as1⟩,h1,e⟩:=bS_<|e;refine⟨F,B,ad,as,ds,as1,R,h1,λJ ad1 H1 R1 g1 it=>?_⟩;refine⟨λi m σ2 H2=>m+i=ds.length/\∃ad2 as2,Rel X.K kd F B [] ad2 as2 σ2 H2/\Grow _ H1 (Gw [] ad2) H2/\forL g f (ds.drop i) as2=some o,⟨ds.length,rfl,ad1,as1,R1,Grow.refl,e⟩, ?_⟩
 rintro i m σ2 H2 ⟨hm,ad2,as2,R2,g2,e2⟩
 obtain⟨k1,k2,k3⟩:=it.all ad2 H2 g2 R2.trk i
 by_cases hi:i<ds.length
 . refine .inr ⟨k1 hi,λσ3 H3=>∃ad3 as3,Rel X.K kd F B [] ad3 as3 σ3 H3/\Grow _ H1 _ H3/\forL g f _ as3=some o,λσ3 H3 ⟨ad3,as3,R3,g3,e3⟩=>⟨m-1,q0s hm hi,q0l hm hi,ad3,as3,R3,g3,e3⟩,λv H3 hy=>?_⟩;obtain⟨kp,rp⟩:=k3 v H3 hy;rw[zyQ hi]at e2;obtain⟨as3,e3,e2⟩:=bS_<|e2;obtain⟨o3,e4,e2⟩:=bS_ e2;obtain⟨R3,g3⟩:=R2.more kp;refine⟨F,B,ad2,as2,_,as3,R3,rp _<|zzE hi,e3,λσ4 ad4 H4 R4 g4 _=>?_⟩;refine⟨F,B,ad4,as3,o3,R4,e4, ?_⟩;have gg:=(g2.trans g3).trans g4;cases o3 with
   |nx as5=>exact λσ5 ad5 H5 R5 g5=>⟨ad5,as5,R5,gg.trans g5,e2⟩
   |ct as5=>exact λσ5 ad5 H5 R5 g5=>⟨ad5,as5,R5,gg.trans g5,e2⟩
   |bk as5=>
    cases e2;exact λσ5 ad5 H5 R5 g5=>q σ5 ad5 H5 R5 (g1.trans<|gg.trans g5)
   |rt r=>
    cases e2;exact λv T H5 ro g5=>q v T H5 ro<|g1.trans<|gg.trans g5
 . refine .inl ⟨k2<|q0q hm hi, ?_⟩;rw[List.drop_eq_nil_of_le<|q0q hm hi]at e2;cases e2;exact q σ2 ad2 H2 R2<|g1.trans g2)
def Rj:wK->Option (List wK)
 |(st,.lst ds)=>some (kids st ds)
 |(st,.tup ds)=>some (kids st ds)
 |_=>none
def YU(f:EF):IF:=λas=>(f as).bind λp=>(X_ p.2 p.1).bind λq=>(Rj q.1).bind λds=>some (ds,q.2)
def Oy{K ad a}(hs:∀(ad3:Ad) (H3:Hp),Grow (Gw [] ad) H (Gw [] ad3) H3->Vp K H3 a vs)(r:RpI K kd F B (Gw [] ad) H vs ds):ItOk K kd F B ad H (jZ K a) ds:=⟨λc j h _ i=>by
 have b:=hs c j h;have e:=r.grow h;refine⟨λf=>?_,λf=>⟨_,b,by rw[r.length];exact f⟩,λv o k=>?_⟩
 . obtain⟨u,g,_⟩:=r.get<|zzE f;exact⟨_,u,b,g⟩
 . obtain⟨rfl,l⟩:=k;refine⟨λ_ _ z=>z,λd m=>?_⟩;obtain⟨u,g,n⟩:=e.get m;have:=l _ b;rw[g]at this;cases this;exact n⟩
def qN{K ad a}(hs:∀(ad3:Ad) (H3:Hp),Grow (Gw [] ad) H (Gw [] ad3) H3->UE K H3 a vs)(r:RpI K kd F B (Gw [] ad) H vs ds):ItOk K kd F B ad H (j_ K a) ds:=⟨λc j h _ i=>by
 have b:=hs c j h;have e:=r.grow h;refine⟨λf=>?_,λf=>⟨_,b,by rw[r.length];exact f⟩,λv o k=>?_⟩
 . obtain⟨u,g,_⟩:=r.get<|zzE f;exact⟨_,u,b,g⟩
 . obtain⟨rfl,l⟩:=k;refine⟨λ_ _ z=>z,λd m=>?_⟩;obtain⟨u,g,n⟩:=e.get m;have:=l _ b;rw[g]at this;cases this;exact n⟩
def He(he:AE X kd e fa):AI X kd tg e (YU fa):=by
 with_unfolding_all (
 intro pins s σ H R I h;obtain⟨F,B,ad,as,ds,as',Rl,e,q⟩:=h;obtain⟨⟨p,as1⟩,h1,e⟩:=bS_<|e;obtain⟨⟨⟨st,x⟩,as2⟩,h2,e⟩:=bS_ e;obtain⟨ys,h3,e⟩:=bS_ e;cases e;cases x with
 |lst xs=>
  cases h3;refine EG he pins s σ H R I ⟨F,B,ad,as,p,as1,Rl,h1,λv T1 ad1 H1 R1 rv1 g1=>?_⟩;obtain⟨ad2,R2,rp,le⟩:=Qk R1 rv1 h2;cases rp with
  |lst hn hr rl=>exact⟨_,rfl,⟨_,.inl hr⟩,q _ ad2 H1 R2 (g1.trans<|Grow.less le)<|Oy (λad3 H3 g3=>.inl<|Rv g3 (λz=>hn<|.inr z) hr)<|Qz rl⟩
  |lstK a b c rl=>exact⟨_,rfl,⟨_,.inr ⟨_,_,_,a,rfl,rfl,rfl,b,c⟩⟩,q _ ad2 H1 R2 (g1.trans<|Grow.less le)<|Oy (λad3 H3 g3=>.inr ⟨_,_,_,a,rfl,rfl,rfl,b,c⟩)<|Qz rl⟩
 |tup xs=>
  cases h3;refine Sn he pins s σ H R I ⟨F,B,ad,as,p,as1,Rl,h1,λv T1 ad1 H1 R1 rv1 g1=>?_⟩;obtain⟨ad2,R2,rp,le⟩:=Qk R1 rv1 h2;have go:∃a ys,v = .ref a/\(∀(ad3:Ad) (H3:Hp),Grow (Gw [] ad2) H1 (Gw [] ad3) H3->UE X.K H3 a ys)/\RpL X.K kd (Lv F B (Gw [] ad2) st) H1 ys xs:=by
   cases rp with
   |tup n h r=>exact⟨_,_,rfl,λad3 H3 g3=>.inl<|Rv g3 (λz=>n<|.inr z) h,r⟩
   |tupK a b c e f r=>exact⟨_,_,rfl,λad3 H3 g3=>.inr ⟨_,_,_,a,b,c,e,f⟩,r⟩
  obtain⟨a,ys,rfl,hs,rl⟩:=go;exact⟨_,rfl,⟨_,hs ad2 H1 Grow.refl⟩,q _ ad2 H1 R2 (g1.trans<|Grow.less le)<|qN hs<|Qz rl⟩
 |_=>cases h3)
noncomputable def y4(lo:Int)(n:Nat):List wK:=(List.range n).map λ(i:Nat)=>(true,D.int<|lo+(i:Int))
def AH{K ad}(lo)(n:Nat):ItOk K kd F B ad H (nu lo n) (y4 lo n):=⟨λe h g _ i=>by
 have c:(y4 lo n).length=n:=by unfold y4;simp
 refine⟨λa=>by rw[c]at a;exact a,λa=>by rw[c]at a;exact a,λv j f=>?_⟩;obtain⟨rfl,rfl⟩:=f;refine⟨λ_ _ z=>z,λd b=>?_⟩;have a:i<n:=by rw[<-c];exact(zzG.mp b).1
 unfold y4 at b;rw[zzI,List.getElem?_range a]at b;cases b;exact .int _⟩
def ki:List D->Option D
 | [x]=>some x
 |_=>none
def Dr(h:ki ds=some d):ds=[d]:=by
 cases ds with
 |nil=>cases h
 |cons x r=>
  cases r with
  |nil=>cases h;rfl
  |cons _ _=>cases h
def yO(ds:List D):Option (List wK):=((ki ds).bind HY).bind λj=>if -(2 ^ 62)<=j/\j<2 ^ 62 then some (y4 0 j.toNat)else none
def OG(h:yO ds=some xs):∃j,ds=[.int j]/\(if -(2 ^ 62)<=j/\j<2 ^ 62 then some (y4 0 j.toNat)else none)=some xs:=by
 obtain⟨j,a,h⟩:=bS_ h;obtain⟨d,b,a⟩:=bS_ a;cases AL a;exact⟨j,Dr b,h⟩
def D2:List D->Option (List wK)
 | [.int i,.int j]=>if -(2 ^ 62)<=i/\i<2 ^ 62 /\ -(2 ^ 62)<=j/\j<2 ^ 62 then some (y4 i (j-i).toNat)else none
 |_=>none
def yB(fr:AF)(h:List D->Option (List wK)):IF:=λas=>(fr as).bind λp=>(views p.2 p.1).bind λds=>(h ds.1).bind λxs=>some (xs,p.2)
def CY(hg:Gl X "range")(hm:X.mg "range"=none)(ha:AA X kd [a] fr)(hs:starEach [a] X.env=[(false,eval a X.env)]):AI X kd tg (.Call (.Name "range" p) [a] [] pos) (yB fr yO):=by
 with_unfolding_all (
 intro b s σ H R I h;obtain⟨F,B,k,as,A,l,m,e,q⟩:=h;obtain⟨⟨n,o⟩,r,e⟩:=bS_<|e;obtain⟨⟨C,D⟩,t,e⟩:=bS_ e;obtain⟨E,c,e⟩:=bS_ e;cases e;obtain⟨j,rfl,c⟩:=OG c
 . obtain⟨g,u⟩:=zv c;cases u;refine MD hg hm ha hs b s σ H R I ⟨F,B,k,as,n,_,m,r,λG d v i f w=>?_⟩;have x:=UY i f t;cases x with
   |cons y z=>
    cases z;cases y;exact⟨j,rfl,g.1,g.2,q _ d v i w<|AH 0 _⟩)
def Cy(hg:Gl X "range")(hm:X.mg "range"=none)(ha:AA X kd [a,b] fr)(hs:starEach [a,b] X.env=[(false,eval a X.env),(false,eval b X.env)])(hs2:starEach [b] X.env=[(false,eval b X.env)]):AI X kd tg (.Call (.Name "range" p) [a,b] [] pos) (yB fr D2):=by
 with_unfolding_all (
 intro c s σ H R I h;obtain⟨F,B,n,as,o,r,t,e,q⟩:=h;obtain⟨⟨u,v⟩,w,e⟩:=bS_<|e;obtain⟨⟨x,J⟩,d,e⟩:=bS_ e;obtain⟨K,f,e⟩:=bS_ e;cases e
 match x,f,d with
 | [.int i,.int j],f,d=>
  obtain⟨y,z⟩:=zv<|f;cases z;refine Cr hg hm ha hs hs2 c s σ H R I ⟨F,B,n,as,u,_,t,w,λL g A m k C=>?_⟩;have D:=UY m k d;cases D with
  |cons E l=>
   cases l with
   |cons l G=>
    cases G;cases E;cases l;exact⟨i,j,rfl,y,q _ g A m C<|AH i _⟩)
def Rel.mut{K ad}{i:Nat}(R:Rel K kd F B T ad as σ H)(hi:i<as.length)(hl:ad i=l::fp)(hs:σ[i]? = some (some<|.ref l))
 (hsub:∀a ∈ fp'++fo,a ∈ fp++T) (hnd:(fp'++fo).Nodup) (hu:H l≠none)
 (ro:∀(H':Hp) (G':Addr->Prop),H' l=some u->Grow (Gw T ad) H G' H'->(∀a ∈ fp',∀w,H a=some w->H' a=some w)->YV K kd F B G' H' (.ref l) n (l::fp')):
 Rel K kd F B fo (Z1 ad i (l::fp')) (as.set i<|some n) σ (upd H l u)/\Grow (Gw T ad) H (Gw fo<|Z1 ad i (l::fp')) (upd H l u):=by
 have hli:l ∈ ad i:=by rw[hl];exact zzF
 have lT:=R.dis i l hli;have lfp:l ∉ fp:=by have:=R.nd i;rw[hl]at this;exact(zzW.mp this).1
 have lsub:∀a ∈ fp'++fo,a≠l:=λa m e=>by
  subst e
  rcases zzM.mp (hsub _ m)with z|z
  . exact lfp z
  . exact lT z
 have sub:∀a ∈ fp'++fo,Gw T ad a:=λa m=>by
  rcases zzM.mp (hsub a m)with z|z
  . exact .inr ⟨i,by rw[hl];exact zzD _ z⟩
  . exact .inl z
 have gsub:∀a,Gw fo (Z1 ad i (l::fp')) a->Gw T ad a:=λa z=>by
  rcases z with z|⟨j,z⟩
  . exact sub a<|zzL _ z
  . by_cases e:j=i
    . subst e;rw[zX]at z
      rcases zzC.mp z with z|z
      . subst z;exact .inr ⟨j,hli⟩
      . exact sub a<|zzP _ z
    . rw[yb e]at z;exact .inr ⟨j,z⟩
 have g:Grow _ H _ (upd H l u):=⟨λb w h n=>by rw[zH λe=>n<|by subst e;exact .inr ⟨i,hli⟩];exact h,λb z=>.inl<|gsub b z⟩;have kn:∀a,H a≠none->upd H l u a≠none:=λa z=>by
  by_cases e:a=l
  . subst e;rw[ye];simp
  . rw[zH e];exact z
 obtain⟨hnd1,hnd2,hnd3⟩:=zxE.mp hnd;have inT:∀j a,j≠i->a ∈ ad j->a ∈ fp'++fo->False:=λj a hj m m'=>by
  rcases zzM.mp (hsub a m')with z|z
  . exact hj (R.inj j i a m<|by rw[hl];exact zzD _ z)
  . exact R.dis j a m z
 refine⟨⟨by rw[zzU];exact R.len,λj hj=>?_,λj=>?_,λj k a h1 h2=>?_,hnd2,λj a h1 h2=>?_,λa z=>kn a<|R.ftr a z,λa z=>?_,λa z=>⟨kn a (R.gtr a<|gsub a z).1,(R.gtr a<|gsub a z).2⟩,λj s e=>?_⟩,g⟩
 . rw[zzU]at hj;rw[yb<|q0x hi hj];exact R.out j hj
 . by_cases e:j=i
   . subst e;rw[zX];exact zzW.mpr ⟨λm=>lsub l (zzP _ m) rfl,hnd1⟩
   . rw[yb e];exact R.nd j
 . by_cases e:j=i
   . subst e
     by_cases e':k=j
     . exact e'.symm
     . rw[zX]at h1;rw[yb e']at h2
       rcases zzC.mp h1 with z|z
       . subst z;exact R.inj j k a hli h2
       . exact(inT k a e' h2<|zzP _ z).elim
   . rw[yb e]at h1
     by_cases e':k=i
     . subst e';rw[zX]at h2
       rcases zzC.mp h2 with z|z
       . subst z;exact R.inj j k a h1 hli
       . exact(inT j a e h1<|zzP _ z).elim
     . rw[yb e']at h2;exact R.inj j k a h1 h2
 . by_cases e:j=i
   . subst e;rw[zX]at h1
     rcases zzC.mp h1 with z|z
     . subst z;exact lsub a (zzL _ h2) rfl
     . exact hnd3 a z a h2 rfl
   . rw[yb e]at h1;exact inT j a e h1<|zzL _ h2
 . obtain⟨b1,b2,b3⟩:=R.btr a z;exact⟨kn a b1,b2,λy=>b3<|gsub a y⟩
 . by_cases q:j=i
   . subst q;rw[zyK hi]at e;cases e;rw[zX];refine⟨_,hs,ro _ _ ye g λa m w h=>?_⟩;rw[zH<|lsub a<|zzP _ m];exact h
   . rw[zzY<|Ne.symm q]at e;rw[yb q];refine(R.sl j s e).grow g λa m w h=>?_;rw[zH λz=>q<|R.inj j i l (by rw[<-z];exact m) hli];exact h
abbrev MG:=List O->List O->Option (List O×O)
noncomputable def vX(i:Nat)(fr:DF)(g:MG):EF:=λas=>match as[i]? with
 |some (some (.nd .ls _))=>(fr as).bind λp=>match p.2[i]? with
  |some (some (.nd .ls os))=>(g os p.1).bind λz=>some (.ow z.2,p.2.set i<|some<|.nd .ls z.1)
  |_=>none
 |_=>none
def jY(X:Cx)(kd:KD)(r:V->List V->Hp->VK->Prop)(g:MG):Prop:=
 ∀(F B G:Addr->Prop) (l:Addr) (vs ws:List V) (os es os':List O) (o:O) (fp fq:List Addr) (H:Hp) (Q:VK),H l=some (.lst vs)->vR X.K kd F B G H vs os fp->vR X.K kd F B G H ws es fq->(fp++fq).Nodup->g os es=some (os',o)->
  (∀v vs' fp' fo,vR X.K kd F B G H vs' os' fp'->YV X.K kd F B G H v o fo->(∀a ∈ fp'++fo,a ∈ fp++fq)->(fp'++fo).Nodup->Q v (upd H l<|.lst vs'))->r (.ref l) ws H Q
def nK{i:Nat}{fr g r}(hr:jY X kd r g)
 (h:al X.K kd (vX i fr g) σ H Q):fz X.K "list" r (UC i) (eS X.K kd fr) σ H Q:=by
 obtain⟨F,B,U,as,z,as',R,e,q⟩:=h;unfold vX at e;cases k:as[i]? with
 |none=>rw[k]at e;cases e
 |some a0=>
  rw[k]at e
  match a0,e,k with
  |some (.nd .ls os0),e,k=>
   obtain⟨⟨G,s⟩,h1,e⟩:=bS_<|e;obtain⟨v0,f,t⟩:=R.sl i _ k;generalize W:U i=fp0 at t;cases t with
   |ls I rl0=>
   rename_i l vs0 Y;refine⟨_,f,.inl ⟨rfl,_,.inl<|.inl I⟩,F,B,U,as,G,s,R,h1,λws J x L j M g1=>?_⟩;cases p:s[i]? with
   |none=>rw[p]at e;cases e
   |some a2=>
    rw[p]at e
    match a2,e,p with
    |some (.nd .ls Z),e,p=>
     obtain⟨⟨y,o⟩,h3,e⟩:=bS_<|e;cases e;obtain⟨v1,A,C⟩:=j.sl i _ p;rw[f]at A;cases A;generalize c:x i=fp1 at C;cases C with
     |ls hH rl=>
     rename_i vs fp;have N:=zxE.mpr ⟨by have:=j.nd i;rw[c]at this;exact(zzW.mp this).2,j.tnd,λa m b m' e=>by
          subst e;exact j.dis i a (by rw[c];exact zzD _ m) m'⟩
     refine hr F B (Gw J x) _ vs ws Z G y o fp J L Q hH rl M N h3 λv D fp' fo O P d E=>?_;obtain⟨R3,g3⟩:=j.mut (zzG.mp p).1 c f d E (by rw[hH];simp) λH' G' S gr kp=>.ls S<|vR.grow gr kp O;have T:∀a ∈ fo,∀w,L a=some w->upd L l (.lst D) a=some w:=λa m w h=>by
          rw[zH λe=>?_]
          . exact h
          . subst e
            rcases zzM.mp (d _<|zzL _ m)with z|z
            . have:=j.nd i;rw[c]at this;exact(zzW.mp this).1 z
            . exact j.dis i _ (by rw[c];exact zzF) z
     exact q v fo _ _ R3 (YV.grow g3 T P)<|g1.trans g3
end
end PF
end
section
set_option exponentiation.threshold 5000
namespace PF
open PySem PySem.Spec PyProof.Rows L2
section
variable{K:zzA}{kd:KD}{O:Addr->Prop}{H:Hp}{Q:VK}
def ya(q:RQ K kd O H Q (.im d))(r:Rp K kd O H v d):Q v H:=q v H (λ_ _ z=>z) r
def OD(hp:H p=none)(r:RpL K kd O H vs ds):RpL K kd (VA O (· = p)) (upd H p o) vs ds:=
 RpL.grow ⟨λb u q _=>by rw[zH<|zY q hp];exact q,λb z=>.inr<|by rw[z];exact hp⟩ (r.less λa z=>z.elim id False.elim)
def tj(hp:H p=none)(r:RpM K kd O H vs ds):RpM K kd (VA O (· = p)) (upd H p o) vs ds:=
 RpM.grow ⟨λb u q _=>by rw[zH<|zY q hp];exact q,λb z=>.inr<|by rw[z];exact hp⟩ (r.less λa z=>z.elim id False.elim)
def wI{p o}(hp:H p=none):∀b u,H b=some u->upd H p o b=some u:=λb u q=>by rw[zH<|zY q hp];exact q
def Pj{vs ds}(q:RQ K kd O H Q (.fl ds))(r:RpL K kd O H vs ds):∀p,H p=none->Q (.ref p) (upd H p<|.lst vs):=λp hp=>
 q p vs _ hp (wI hp) ye (OD hp r)
def Jt{vs ds}(q:RQ K kd O H Q (.fd ds))(r:RpM K kd O H vs ds):∀p,H p=none->Q (.ref p) (upd H p<|.dK vs):=λp hp=>
 q p vs _ hp (wI hp) ye (tj hp r)
def K5{vs ds}(ht:∀a,O a->H a≠none)(q:RQ K kd O H Q (.im<|.tup ds))(r:RpL K kd O H vs ds):∀p,H p=none->Q (.ref p) (upd H p<|.tup vs):=λp hp=>
 q _ _ (wI hp) (.tup (λz=>ht p z hp) (.inl ye)<|(OD hp r).less λa z=>.inl z)
end
def big:Nat:=2 ^ 4000
def FB(h:i.natAbs<big):Builtin.Int.intBits i<=2 ^ 20:=by
 unfold Builtin.Int.intBits
 split
 . exact Nat.zero_le _
 . have:i.natAbs.log2<4000:=by
    rcases Nat.eq_zero_or_pos i.natAbs with a|b
    . rw[a];decide
    . exact(Nat.log2_lt<|Nat.ne_of_gt b).mpr h
   have e:(2:Nat) ^ 20=1048576:=by decide
   omega
def uC{i}(h:i.natAbs<2 ^ 64):Builtin.Int.intBits i<=64:=by
 unfold Builtin.Int.intBits
 split
 . exact Nat.zero_le _
 . rcases Nat.eq_zero_or_pos i.natAbs with h0|hp
   . rw[h0];decide
   . exact(Nat.log2_lt<|Nat.ne_of_gt hp).mpr h
def sS(f:Int->Int->Option R0)(x y:D):Option R0:=(HY x).bind λi=>(HY y).bind λj=>f i j
def iz(x y:D):Option R0:=match x with
 | .int i=>(HY y).bind λj=>some<|.im<|.int<|i+j
 | .str x=>(eF y).bind λy=>if x.length+y.length<=sizeLine then some (.im<|.str<|x++y)else none
 | .lst xs=>(oo y).bind λys=>if xs.length+ys.length<=sizeLine then some (.fl<|xs++ys)else none
 | .tup xs=>(gX y).bind λys=>if xs.length+ys.length<=sizeLine then some (.im<|.tup<|xs++ys)else none
 |_=>none
def iK(x y:D):Option R0:=match x with
 | .int i=>(HY y).bind λj=>if(i.natAbs<big/\j.natAbs<big)\/j.natAbs<2 ^ 64 then some (.im<|.int<|i*j)else none
 | .lst xs=>(HY y).bind λk=>if -(2 ^ 63)<=k/\k<2 ^ 63/\xs.length*k.toNat<=sizeLine then some (.fl (List.replicate k.toNat xs).flatten)else none
 | .tup xs=>(HY y).bind λk=>if 1<=k/\k<2 ^ 63/\xs.length≠0/\xs.length*k.toNat<=sizeLine then some (.im<|.tup (List.replicate k.toNat xs).flatten)else none
 |_=>none
def Yq(o:Operator)(x y:D):Option R0:=match o with
 | .Add=>iz x y
 | .Sub=>sS (λi j=>some<|.im<|.int<|i-j) x y
 | .Mult=>iK x y
 | .FloorDiv=>sS (λi j=>if 0<j/\j.natAbs<big then some (.im<|.int<|i/j)else none) x y
 | .Mod=>sS (λi j=>if 0<j then some (.im<|.int<|i%j)else none) x y
 | .Pow=>sS (λi j=>if 0<=j/\j<=1000000/\i.natAbs<2 ^ 64 then some (.im<|.int<|i ^ j.toNat)else none) x y
 |_=>none
def X1{K kd O H v d i}(h:Vw K kd O H v d)(e:HY d=some i):d = .int i/\v = .int i:=by
 cases h with
 |int j=>cases e;exact⟨rfl,rfl⟩
 |_=>cases e
def oV{K kd O H v d i}(h:Vw K kd O H v d)(e:eF d=some i):d = .str i/\v = .str i:=by
 cases h with
 |str j=>cases e;exact⟨rfl,rfl⟩
 |_=>cases e
def Wa{K kd O H v w d e f r}(vx:Vw K kd O H v d)(vy:Vw K kd O H w e)(h:sS f d e=some r):∃i j,v = .int i/\w = .int j/\f i j=some r:=by
 obtain⟨i,a,h⟩:=bS_<|h;obtain⟨j,b,h⟩:=bS_ h;exact⟨i,j,(X1 vx a).2,(X1 vy b).2,h⟩
section
variable{X:Cx}{kd:KD}
def DZ:PP X (binaryOp .Add) (λx y H Q=>∃l b xs zs,x = .ref l/\y = .ref b/\AQ X.K H l xs/\AQ X.K H b zs/\xs.length+zs.length<=sizeLine/\∀p,H p=none->Q (.ref p) (upd H p<|.lst<|xs++zs)):=by
 intro d s σ H x y v u Q I g i h;obtain⟨l,b,w,A,rfl,rfl,j,k,B,q⟩:=h;cases g;cases i;obtain⟨z,c,n,r,e⟩:=SA I j;obtain⟨C,a,D,f,m⟩:=SA I k;have E:=r.length;have o:=f.length;refine PySem.P.add_list e m ?_ (by rw[zzH,zzH];omega);have t:c.toArray++a.toArray=(c++a).toArray:=by simp
 rw[t];exact⟨.ref _,_,I.lnew (t':=s.toks) (r.append f) (by rw[zzJ];omega),rfl,q _ I.fresh⟩
def tG:PP X (binaryOp .Mult) (λx y H Q=>∃l k xs,x = .ref l/\y = .int k/\AQ X.K H l xs /\ -(2 ^ 63)<=k/\k<2 ^ 63/\xs.length*k.toNat<=sizeLine/\
 ∀p,H p=none->Q (.ref p) (upd H p<|.lst (List.replicate k.toNat xs).flatten)):=by
 intro w s σ H x y v u Q I B C h;obtain⟨l,k,N,rfl,rfl,D,E,G,A,q⟩:=h;cases B;obtain⟨t,rfl⟩:=C;obtain⟨z,b,n,r,e⟩:=SA I D;have J:=r.length;have d:b.toArray.size*k.toNat<=sizeLine:=by rw[zzH,<-J];exact A
 have f:¬b.toArray.size*k.toNat > (2 ^ 63-1)/8:=by
  have:sizeLine<=(2 ^ 63-1)/8:=by decide
  omega
 have g:¬(!Builtin.List.listFitsIndex k)=true:=by
  rw[fitsIndex_both E G];exact zyV
 have c:¬Builtin.List.listTooLong (b.toArray.size*k.toNat)=true:=by
  rw[IM d];exact zyV
 have i:List.foldl (λj o=>j++o) #[] (List.replicate (if b.toArray.isEmpty=true then 0 else k.toNat) b.toArray)=(List.replicate k.toNat b).flatten.toArray:=by
  have L:=λm=>by
   have:=foldl_rep b m [];rw[List.nil_append]at this;exact this
  rw[L];cases b with
  |nil=>simp
  |cons a O=>rw[if_neg<|by simp]
 refine wpAny_binaryOp_repeat_ref (by decide) ⟨_,e,rfl⟩ (λM=>typeIs_int M k t) noFill_list_mul F.fills_int_mul F.slot_int_rmul repeat_list F.slot_int_index.lookup
  (call_meets F.slot_int_rmul (typeIs_int s k t) F.entry_int_rmul (F.args_int_rmul_2 _ _) (int___rmul___int_list k t l b.toArray n)
   ⟨e,rfl,⟨_,e,rfl⟩,call_meets F.slot_list_mul ⟨_,e,rfl⟩ F.entry_list_mul (F.args_list_mul_2 _ _) (AutoListH.list___mul___list_int_3 l b.toArray n k t g f c) ⟨e, ?_⟩⟩)
 rw[i];refine⟨.ref _,_,I.lnew (t':=s.toks) (r.rep k.toNat) ?_,rfl,q _ I.fresh⟩;rw[len_rep,Nat.mul_comm];exact A
def tuple_addW0(l b)(items items2)(n n2:Nat)(dd dd2)(sl sl2)(h0:items.isEmpty=true):
 Meets (Builtin.«tuple.__add__» {pos:=[.ref l,.ref b]}) (λ_ R s=>s.heap.get? l=some {cls:=.type "tuple",dict:=dd,data:=.seq items n,slots:=sl}/\s.heap.get? b=some {cls:=.type "tuple",dict:=dd2,data:=.seq items2 n2,slots:=sl2}/\R (.ok<|.ret<|.ref b) s):=
 .of_wp λa w A R s h=>by
  obtain⟨f,g,d,i,j⟩:=s;obtain⟨c,e,h⟩:=h;have f2:=AutoSeq1.sub_tuple_tuple
  wp_walk using wpAny_loadPart' c,wpAny_loadPart' e
  exact⟨_,rfl,h⟩
def FL(l)(items)(n:Nat)(dd)(sl)(u):
 Meets (Builtin.«tuple.__mul__» {pos:=[.ref l,.int 1 u]}) (λ_ R s=>s.heap.get? l=some {cls:=.type "tuple",dict:=dd,data:=.seq items n,slots:=sl}/\R (.ok<|.ret<|.ref l) s):=
 .of_wp λa w A R s h=>by
  obtain⟨c,g,d,e,f⟩:=s;obtain⟨b,h⟩:=h;have f2:=AutoSeq1.sub_tuple_tuple
  wp_walk using wpAny_loadPart' b
  exact⟨_,rfl,h⟩
def Fx(l)(items its2:Array Value)(n:Nat)(dd)(sl)(x)(u)(c1:¬(decide (x < -2 ^ 63)||decide (x ≥ 2 ^ 63))=true)(c2:¬(items.isEmpty||x==1)=true)(c3:¬(decide (x<=0)||items.isEmpty)=true)
 (hcap:¬(items.size:Int)*x > (2 ^ 63-1)/8) (ht:¬Builtin.Tuple.tupleTooMany (items.size*x)=true) (hz:¬(List.foldl (λx1 x2=>x1++x2) #[] (List.replicate x.toNat items)).size > sizeLine):
 Meets (Builtin.«tuple.__mul__» {pos:=[.ref l,.int x u]}) (λ_ R s=>s.heap.get? l=some {cls:=.type "tuple",dict:=dd,data:=.seq items n,slots:=sl}/\R (.ok<|.ret<|.ref s.heap.objs.size) {s with heap:=s.heap.push {cls:=.type "tuple",data:=.seq (List.foldl (λx1 x2=>x1++x2) #[] (List.replicate x.toNat items))}}):=
 .of_wp λa w A R s h=>by
  obtain⟨c,g,d,e,f⟩:=s;obtain⟨b,h⟩:=h;have f2:=AutoSeq1.sub_tuple_tuple
  wp_walk using wpAny_loadPart' b
  rw[if_neg c1]
  wp_walk using wpAny_loadPart' b
  rw[if_neg hcap]
  wp_walk
  exact⟨_,rfl,h⟩
def PC:fillsNumberSlot (Value.type "tuple") "mul"=pure false:=PySem.fillsNumberSlot_seq rfl rfl rfl rfl
def EY:seqRepeat? (Value.type "tuple")=pure (some<|Value.builtin "tuple.__mul__"):=W.of_pureOf rfl
def Lw(a)(t)(l)(items)(n:Nat)(dd)(sl):
 Meets (Builtin.«int.__rmul__» {pos:=[.int a t,.ref l]}) (λ_ R s=>s.heap.get? l=some {cls:=.type "tuple",dict:=dd,data:=.seq items n,slots:=sl}/\R (.ok<|.ret .notImplemented) s):=
 .of_wp λb w A R s h=>by
  obtain⟨e,g,d,f,i⟩:=s;obtain⟨c,h⟩:=h
  wp_walk using wpAny_load' c,wpAny_loadPart' c
  exact⟨_,rfl,h⟩
def D8:PP X (binaryOp .Add) (λx y H Q=>∃a b ys,x = .ref a/\y = .ref b/\UE X.K H a []/\UE X.K H b ys/\Q (.ref b) H):=by
 intro j s σ H x y v u Q I t w h;obtain⟨a,b,M,rfl,rfl,z,A,q⟩:=h;cases t;cases w;obtain⟨B,C,D,_⟩:=I.tuple z;obtain⟨k,N,E,_⟩:=I.tuple A;cases C;obtain⟨⟨cls,G,l,J⟩,m,o,n,p⟩:=id D;obtain⟨⟨r,f,g,i⟩,c,d,L,e⟩:=id E;simp only at o p d e;subst o p d e;exact concat_meets ⟨_,m,rfl⟩ ⟨_,c,rfl⟩ noFill_tuple_add seq_tuple_add PySem.F.slot_tuple_add PySem.F.entry_tuple_add (PySem.F.args_tuple_add_2 _ _) (tuple_addW0 a b _ _ n L G f J i rfl) ⟨m,c,⟨.ref b,H,I,rfl,q⟩⟩
def uQ:PP X (binaryOp .Mult) (λx y H Q=>∃l k xs,x = .ref l/\y = .int k/\UE X.K H l xs/\xs≠[]/\1<=k/\k<2 ^ 63/\xs.length*k.toNat<=sizeLine/\(k=1->Q (.ref l) H)/\
 (2<=k->∀p,H p=none->Q (.ref p) (upd H p<|.tup (List.replicate k.toNat xs).flatten))):=by
 intro A s σ H x y v u Q I M N h;obtain⟨l,k,B,rfl,rfl,O,i,Y,Z,C,P,R⟩:=h;cases M;obtain⟨t,rfl⟩:=N;obtain⟨c,r,p,_⟩:=I.tuple O;have j:=r.length;have f:c.toArray.size*k.toNat<=sizeLine:=by rw[zzH,<-j];exact C
 have g:((c.toArray.size:Int)*k)=((c.toArray.size*k.toNat:Nat):Int):=by
  rw[zzV,zyY<|by omega]
 have D:c.toArray.isEmpty=false:=by
  cases c with
  |nil=>rw[List.length_nil]at j;exact absurd (List.length_eq_zero_iff.mp j) i
  |cons a r'=>rfl
 have d:List.foldl (λS V=>S++V) #[] (List.replicate k.toNat c.toArray)=(List.replicate k.toNat c).flatten.toArray:=by
  have:=foldl_rep c k.toNat [];rw[List.nil_append]at this;exact this
 obtain⟨⟨cls,m,E,w⟩,e,G,n,J⟩:=id p;simp only at G J;subst G J;refine wpAny_binaryOp_repeat_ref (by decide) ⟨_,e,rfl⟩ (λW=>typeIs_int W k t) PC F.fills_int_mul F.slot_int_rmul EY F.slot_int_index.lookup
  (call_meets F.slot_int_rmul (typeIs_int s k t) F.entry_int_rmul (F.args_int_rmul_2 _ _) (Lw k t l c.toArray n m w) ⟨e,rfl,⟨_,e,rfl⟩, ?_⟩)
 by_cases L:k=1
 . subst L;exact call_meets F.slot_tuple_mul ⟨_,e,rfl⟩ F.entry_tuple_mul (F.args_tuple_mul_2 _ _) (FL l c.toArray n m w t) ⟨e,⟨.ref l,H,I,rfl,P rfl⟩⟩
 . have z:(List.replicate k.toNat B).flatten.length<=sizeLine:=by rw[len_rep,Nat.mul_comm];exact C
   refine call_meets F.slot_tuple_mul ⟨_,e,rfl⟩ F.entry_tuple_mul (F.args_tuple_mul_2 _ _) (Fx l c.toArray #[] n m w k t (by simp;omega) (by rw[D];simpa using L) (by rw[D];simp;omega) ?_ ?_ ?_) ⟨e, ?_⟩
   . rw[g];have:(sizeLine:Int)<=(2 ^ 63-1)/8:=by decide
     omega
   . unfold Builtin.Tuple.tupleTooMany;rw[g];simp only[gt_iff_lt,decide_eq_true_eq];omega
   . rw[d,zzH,len_rep,Nat.mul_comm];rw[zzH]at f;omega
   . rw[d];refine⟨.ref s.heap.objs.size,_,I.laid (t':=s.toks) (λb ob q=>zxH _ q) (zzN _) ?_,rfl,R (by omega) _<|I.hok.fresh<|zzN _⟩;exact⟨z,_,r.rep k.toNat,IsTup.new _ _⟩
def qg(op):pW X kd (binaryOp op) (Yq op):=by
 intro pins s σ H x y v u Q I rx ry h;obtain⟨O,d,e,r,ht,vx,vy,he,q⟩:=h;cases op with
 |Add=>
  cases vx with
  |int i=>
   obtain⟨j,h1,he⟩:=bS_<|he;obtain⟨rfl,rfl⟩:=X1 vy h1;cases he;exact nj pins s σ H _ _ v u Q I rx ry ⟨_,_,rfl,rfl,ya q<|.int _⟩
  |str i=>
   obtain⟨j,h1,he⟩:=bS_<|he;obtain⟨rfl,rfl⟩:=oV vy h1;obtain⟨c,rfl⟩:=zv he;exact SL pins s σ H _ _ v u Q I rx ry ⟨_,_,rfl,rfl,c,ya q<|.str _⟩
  |lst hx rx'=>
   obtain⟨j,h1,he⟩:=bS_<|he;cases Pi h1;obtain⟨c,rfl⟩:=zv he;cases vy with
   |lst hy ry'=>exact DZ pins s σ H _ _ v u Q I rx ry ⟨_,_,_,_,rfl,rfl,hx,hy,by rw[rx'.length,ry'.length];exact c,Pj q<|rx'.append ry'⟩
  | @tup a1 vs1 ds1 r1 hx rx'=>
   obtain⟨j,h1,he⟩:=bS_<|he;cases JT h1;obtain⟨c,rfl⟩:=zv he;cases vy with
   |tup r2 hy ry'=>
    by_cases h0:vs1=([]:List V)
    . subst h0;cases rx';exact D8 pins s σ H _ _ v u Q I rx ry ⟨_,_,_,rfl,rfl,hx,hy,ya q r2⟩
    refine sh pins s σ H _ _ v u Q I rx ry ⟨_,_,_,_,rfl,rfl,hx,hy,h0,by rw[rx'.length,ry'.length];exact c,λhn=>?_,λhn=>K5 ht q<|rx'.append ry'⟩
    . subst hn;cases ry';rw[zyE]at q;exact ya q r1
  |_=>cases he
 |Sub=>
  obtain⟨i,j,rfl,rfl,he⟩:=Wa vx vy he;cases he;exact pB pins s σ H _ _ v u Q I rx ry ⟨_,_,rfl,rfl,ya q<|.int _⟩
 |Mult=>
  cases vx with
  |int i=>
   obtain⟨j,h1,he⟩:=bS_<|he;obtain⟨rfl,rfl⟩:=X1 vy h1;obtain⟨c,rfl⟩:=zv he;obtain⟨t,rfl⟩:=rx;obtain⟨t',rfl⟩:=ry;exact mul_int ⟨.int _,H,I.tok _,⟨_,rfl⟩,ya q<|.int _⟩ (c.elim (λc=>IntMulOk.of_bits (FB c.1)<|FB c.2) λc=>IntMulOk.of_right<|uC c)
  |lst hx rx'=>
   obtain⟨j,h1,he⟩:=bS_<|he;obtain⟨rfl,rfl⟩:=X1 vy h1;obtain⟨c,rfl⟩:=zv he;exact tG pins s σ H _ _ v u Q I rx ry ⟨_,_,_,rfl,rfl,hx,c.1,c.2.1,by rw[rx'.length];exact c.2.2,Pj q<|rx'.rep _⟩
  |tup r1 hx rx'=>
   obtain⟨j,h1,he⟩:=bS_<|he;obtain⟨rfl,rfl⟩:=X1 vy h1;obtain⟨c,rfl⟩:=zv he;refine uQ pins s σ H _ _ v u Q I rx ry ⟨_,_,_,rfl,rfl,hx,λe=>?_,c.1,c.2.1,by rw[rx'.length];exact c.2.2.2,λe=>?_,λ_=>K5 ht q<|rx'.rep _⟩
   . have:=rx'.length;rw[e]at this;exact c.2.2.1 this.symm
   . subst e;refine ya q ?_;rw[show(1:Int).toNat=1 from rfl,List.replicate_one,List.flatten_cons,List.flatten_nil,zyE];exact r1
  |_=>cases he
 |FloorDiv=>
  obtain⟨i,j,rfl,rfl,he⟩:=Wa vx vy he;obtain⟨c,rfl⟩:=zv he;obtain⟨t,rfl⟩:=rx;obtain⟨t',rfl⟩:=ry;refine floordiv_int (by omega) ?_<|.inl<|PyProof.noPylong_of_log2 ?_
  . rw[Int.fdiv_eq_ediv_of_nonneg _<|by omega];exact⟨.int _,H,I.tok _,⟨_,rfl⟩,ya q<|.int _⟩
  . exact zzK ((Nat.log2_lt<|by have:=c.1;omega).mpr<|c.2) (by decide)
 |Mod=>
  obtain⟨i,j,rfl,rfl,he⟩:=Wa vx vy he;obtain⟨c,rfl⟩:=zv he;exact qU pins s σ H _ _ v u Q I rx ry ⟨_,_,rfl,rfl,c,ya q<|.int _⟩
 |Pow=>
  obtain⟨i,j,rfl,rfl,he⟩:=Wa vx vy he;obtain⟨c,rfl⟩:=zv he;exact nk pins s σ H _ _ v u Q I rx ry ⟨_,_,rfl,rfl,c,ya q<|.int _⟩
 |_=>cases he
end
noncomputable def sU(f:D->D->Option Bool):List D->List D->Option Bool
 | [],[]=>some true
 |x::r,y::t=>(f x y).bind λb=>(sU f r t).bind λc=>some (b&&c)
 |_,_=>some false
def Xr:Nat->D->D->Option Bool
 |0,_,_=>none
 |_+1,.non,.non=>some true
 |_+1,.bl a,.bl b=>some (a==b)
 |_+1,.int a,.int b=>some (a==b)
 |_+1,.str a,.str b=>some (a==b)
 |_+1,.bl a,.int b=>some ((if a then 1 else 0)==b)
 |_+1,.int a,.bl b=>some (a==(if b then 1 else 0))
 |n+1,.lst xs,.lst ys=>sU (Xr n) xs ys
 |n+1,.tup xs,.tup ys=>sU (Xr n) xs ys
 |_+1,.dct _,_=>none
 |_+1,.cl _,_=>none
 |_+1,.ob _ _ _,_=>none
 |_+1,_,.dct _=>none
 |_+1,_,.cl _=>none
 |_+1,_,.ob _ _ _=>none
 |_+1,_,_=>some false
noncomputable def De(f:D->D->Option Bool)(xs ys:List D)(j:Nat):Bool:=match xs[j]?,ys[j]? with
 |some d,some e=>(f d e).getD false
 |_,_=>false
theorem KR:∀{xs ys:List D}{b:Bool},sU f xs ys=some b->(∀(j:Nat) d e,xs[j]? = some d->ys[j]? = some e->∃c,f d e=some c)/\
 b=((List.range<|min xs.length ys.length).all (De f xs ys)&&xs.length==ys.length)
 | [],[],b,h=>by cases h;exact⟨λj d e h=>by simp at h,by simp⟩
 | [],y::t,b,h=>by cases h;exact⟨λj d e h=>by simp at h,by simp⟩
 |x::r,[],b,h=>by cases h;exact⟨λj d e _ h=>by simp at h,by simp⟩
 |x::r,y::t,b,h=>by
  obtain⟨b1,h1,h⟩:=bS_<|h;obtain⟨c1,h2,h⟩:=bS_ h;cases h;obtain⟨k1,k2⟩:=KR h2;refine⟨λj d e hd he=>?_, ?_⟩
  . cases j with
    |zero=>simp at hd he;subst hd he;exact⟨b1,h1⟩
    |succ j=>exact k1 j d e (by simpa using hd) (by simpa using he)
  . have e0:min (x::r).length (y::t).length=min r.length t.length+1:=by simp only[zzT];omega
    rw[e0,List.range_succ_eq_map,List.all_cons,List.all_map,k2];have e1:De f (x::r) (y::t) 0=b1:=by show(f x y).getD false=b1;rw[h1];rfl
    have e2:(De f (x::r) (y::t)∘Nat.succ)=De f r t:=by
     funext j;unfold De;simp
    have e3:((x::r).length==(y::t).length)=(r.length==t.length):=by
     by_cases hh:r.length=t.length<;>simp[hh]
    rw[e1,e2,e3,Bool.and_assoc]
structure EqAll(A:Around)(s:Shared)(u v:Value)(b:Bool):Prop where
 rc:SeqAt.RcAt A s u v b
 ne:SeqAt.RcNeAt A s u v (!b)
 eq:SeqAt.EqAt A s u v b
section
variable{X:Cx}{kd:KD}{pins:List (Addr×Obj)}{σ:St}{H:Hp}{s:Shared}{O:Addr->Prop}
def HM(I:Inv X pins σ H s)(h:UE X.K H a xs)(h':Vp X.K H a ys):False:=by
 obtain⟨_,_,⟨o,e,c,_⟩,_⟩:=I.tuple h;obtain⟨_,_,⟨f,n,b,d,_⟩,_⟩:=I.list h';rw[e]at b;cases b;rw[c]at d;exact absurd d (by decide)
theorem Ox(I:Inv X pins σ H s):∀(n:Nat) (v:V) (d e:D) (b:Bool),Vw X.K kd O H v d->Vw X.K kd O H v e->Xr n d e=some b->b=true
 |0,_,_,_,_,_,_,h=>by cases h
 |n+1,v,d,e,b,p,f,h=>by
  have lst:∀(i:List V) (l m:List D) (b:Bool),RpL X.K kd O H i l->RpL X.K kd O H i m->sU (Xr n) l m=some b->b=true:=by
   intro i
   induction i with
   |nil=>intro l m b g a h;cases g;cases a;cases h;rfl
   |cons v i q=>
    intro l m b g a h;cases g with
    |cons r g=>
     cases a with
     | cons t a=>
            obtain⟨y,u,h⟩:=bS_<|h;obtain⟨z,w,h⟩:=bS_ h;cases h;rw[Ox I n _ _ _ _ r.vw t.vw u,q _ _ _ g a w];rfl
  cases p with
  |non=>cases f;cases h;rfl
  |bl x=>cases f;cases h;simp
  |int x=>cases f;cases h;simp
  |str x=>cases f;cases h;simp
  |tup g j o=>
   cases f with
   |tup a c k=>
    have:=I.tuple_inj j c;subst this;exact lst _ _ _ _ o k h
   |lst c k=>exact(HM I j c.sq).elim
   |_=>cases h
  |lst j o=>
   cases f with
   |tup a c k=>exact(HM I c j.sq).elim
   |lst c k=>
    have:=I.list_inj j.sq c.sq;subst this;exact lst _ _ _ _ o k h
   |_=>cases h
  |_=>cases h
theorem Fp(I:Inv X pins σ H s):∀(n:Nat) (A:Around) (x y:V) (d e:D) (u v:Value) (b:Bool),A.units+n<cLine->Vw X.K kd O H x d->Vw X.K kd O H y e->RelV x u->RelV y v->Xr n d e=some b->EqAll A s u v b
 |0,_,_,_,_,_,_,_,_,_,_,_,_,_,h=>by cases h
 |n+1,A,x,y,d,e,u,v,b,hu,h1,E,R,k,h=>by
  have f:A.units<cLine:=by omega
  have W:∀{vs ws:List V}{l g:List Value}{S T:List D},RpL X.K kd O H vs S->RpL X.K kd O H ws T->zP vs l->zP ws g->(∀(j:Nat) d e,S[j]? = some d->T[j]? = some e->∃c,Xr n d e=some c)->
   ∀j h1 (E:j<g.toArray.size),SeqAt.EqAt A.in1 s l.toArray[j] g.toArray[j] (De (Xr n) S T j):=by
   intro vs ws l g S T F q v1 v2 hd j j1 j2;have q1:j<S.length:=by rw[<-F.length,v1.length];simpa using j1
   have q2:j<T.length:=by rw[<-q.length,v2.length];simpa using j2
   obtain⟨L,ha1,ra1⟩:=F.get<|zzE q1;obtain⟨M,ha2,ra2⟩:=q.get<|zzE q2;obtain⟨u1,hu1,ru1⟩:=v1.get ha1;obtain⟨u2,hu2,ru2⟩:=v2.get ha2;obtain⟨c,hc⟩:=hd j _ _ (zzE q1)<|zzE q2;have e1:l.toArray[j]=u1:=by
    have:=(zzG.mp hu1).2;simpa using this
   have e2:g.toArray[j]=u2:=by
    have:=(zzG.mp hu2).2;simpa using this
   rw[e1,e2];have e3:De (Xr n) S T j=c:=by
    unfold De;rw[zzE q1,zzE q2];show(Xr n _ _).getD false=c;rw[hc];rfl
   rw[e3];exact(Fp I n A.in1 L M _ _ u1 u2 c (by show A.units+1+n<cLine;omega) ra1.vw ra2.vw ru1 ru2 hc).eq
  have G:∀{a a':Addr},x = .ref a->y = .ref a'->a=a'->b=true:=by
   intro a a' e1 e2 e3;subst e1 e2 e3;exact Ox I (n+1) _ _ _ _ h1 E h
  cases h1 with
  |non=>
   cases R;cases E with
   |non=>cases k;cases h;exact⟨SeqAt.RcAt.none_none,SeqAt.RcNeAt.none_none,SeqAt.EqAt.same _⟩
   |bl=>cases k;cases h;exact⟨SeqAt.RcAt.none_bool _,SeqAt.RcNeAt.none_bool _,SeqAt.EqAt.none_bool _⟩
   |int=>obtain⟨t,rfl⟩:=k;cases h;exact⟨SeqAt.RcAt.none_int _ _,SeqAt.RcNeAt.none_int _ _,SeqAt.EqAt.none_int _ _⟩
   |str=>obtain⟨t,rfl⟩:=k;cases h;exact⟨SeqAt.RcAt.none_str _ _,SeqAt.RcNeAt.none_str _ _,SeqAt.EqAt.none_str _ _⟩
   |tup r o q=>
    cases k;cases h;obtain⟨l,J,p,_⟩:=I.tuple o;exact⟨SeqAt.RcAt.none_tuple p f,SeqAt.RcNeAt.none_tuple p f,SeqAt.EqAt.none_tuple p f⟩
   |lst o q=>
    cases k;cases h;obtain⟨l,J,p,_⟩:=I.list o.sq;exact⟨SeqAt.RcAt.none_list p.isList f,SeqAt.RcNeAt.none_list p.isList f,SeqAt.EqAt.none_list p.isList f⟩
   |_=>cases h
  |bl c=>
   cases R;cases E with
   |non=>cases k;cases h;exact⟨SeqAt.RcAt.bool_none _,SeqAt.RcNeAt.bool_none _,SeqAt.EqAt.bool_none _⟩
   |bl=>cases k;cases h;exact⟨SeqAt.RcAt.bool_bool _ _,SeqAt.RcNeAt.bool_bool _ _,SeqAt.EqAt.bool_bool _ _⟩
   |int=>obtain⟨t,rfl⟩:=k;cases h;exact⟨SeqAt.RcAt.bool_int _ _ _,SeqAt.RcNeAt.bool_int _ _ _,SeqAt.EqAt.bool_int _ _ _⟩
   |str=>obtain⟨t,rfl⟩:=k;cases h;exact⟨SeqAt.RcAt.bool_str _ _ _,SeqAt.RcNeAt.bool_str _ _ _,SeqAt.EqAt.bool_str _ _ _⟩
   |tup r o q=>
    cases k;cases h;obtain⟨l,J,p,_⟩:=I.tuple o;exact⟨SeqAt.RcAt.bool_tuple _ p f,SeqAt.RcNeAt.bool_tuple _ p f,SeqAt.EqAt.bool_tuple _ p f⟩
   |lst o q=>
    cases k;cases h;obtain⟨l,J,p,_⟩:=I.list o.sq;exact⟨SeqAt.RcAt.bool_list _ p.isList f,SeqAt.RcNeAt.bool_list _ p.isList f,SeqAt.EqAt.bool_list _ p.isList f⟩
   |_=>cases h
  |int c=>
   obtain⟨t0,rfl⟩:=R;cases E with
   |non=>cases k;cases h;exact⟨SeqAt.RcAt.int_none _ _,SeqAt.RcNeAt.int_none _ _,SeqAt.EqAt.int_none _ _⟩
   |bl=>cases k;cases h;exact⟨SeqAt.RcAt.int_bool _ _ _,SeqAt.RcNeAt.int_bool _ _ _,SeqAt.EqAt.int_bool _ _ _⟩
   |int=>obtain⟨t,rfl⟩:=k;cases h;exact⟨SeqAt.RcAt.int_int _ _ _ _,SeqAt.RcNeAt.int_int _ _ _ _,SeqAt.EqAt.int_int _ _ _ _⟩
   |str=>obtain⟨t,rfl⟩:=k;cases h;exact⟨SeqAt.RcAt.int_str _ _ _ _,SeqAt.RcNeAt.int_str _ _ _ _,SeqAt.EqAt.int_str _ _ _ _⟩
   |tup r o q=>
    cases k;cases h;obtain⟨l,J,p,_⟩:=I.tuple o;exact⟨SeqAt.RcAt.int_tuple _ _ p f,SeqAt.RcNeAt.int_tuple _ _ p f,SeqAt.EqAt.int_tuple _ _ p f⟩
   |lst o q=>
    cases k;cases h;obtain⟨l,J,p,_⟩:=I.list o.sq;exact⟨SeqAt.RcAt.int_list _ _ p.isList f,SeqAt.RcNeAt.int_list _ _ p.isList f,SeqAt.EqAt.int_list _ _ p.isList f⟩
   |_=>cases h
  |str c=>
   obtain⟨t0,rfl⟩:=R;cases E with
   |non=>cases k;cases h;exact⟨SeqAt.RcAt.str_none _ _,SeqAt.RcNeAt.str_none _ _,SeqAt.EqAt.str_none _ _⟩
   |bl=>cases k;cases h;exact⟨SeqAt.RcAt.str_bool _ _ _,SeqAt.RcNeAt.str_bool _ _ _,SeqAt.EqAt.str_bool _ _ _⟩
   |int=>obtain⟨t,rfl⟩:=k;cases h;exact⟨SeqAt.RcAt.str_int _ _ _ _,SeqAt.RcNeAt.str_int _ _ _ _,SeqAt.EqAt.str_int _ _ _ _⟩
   |str=>obtain⟨t,rfl⟩:=k;cases h;exact⟨SeqAt.RcAt.str_str _ _ _ _,SeqAt.RcNeAt.str_str _ _ _ _,SeqAt.EqAt.str_str _ _ _ _⟩
   |tup r o q=>
    cases k;cases h;obtain⟨l,J,p,_⟩:=I.tuple o;exact⟨SeqAt.RcAt.str_tuple _ _ p f,SeqAt.RcNeAt.str_tuple _ _ p f,SeqAt.EqAt.str_tuple _ _ p f⟩
   |lst o q=>
    cases k;cases h;obtain⟨l,J,p,_⟩:=I.list o.sq;exact⟨SeqAt.RcAt.str_list _ _ p.isList f,SeqAt.RcNeAt.str_list _ _ p.isList f,SeqAt.EqAt.str_list _ _ p.isList f⟩
   |_=>cases h
  | @tup L vs1 N r s1 F=>
   cases R;obtain⟨m,z,i,_⟩:=I.tuple s1;cases E with
   |non=>cases k;cases h;exact⟨SeqAt.RcAt.tuple_none i f,SeqAt.RcNeAt.tuple_none i f,SeqAt.EqAt.tuple_none i f⟩
   |bl=>cases k;cases h;exact⟨SeqAt.RcAt.tuple_bool _ i f,SeqAt.RcNeAt.tuple_bool _ i f,SeqAt.EqAt.tuple_bool _ i f⟩
   |int=>obtain⟨t,rfl⟩:=k;cases h;exact⟨SeqAt.RcAt.tuple_int _ _ i f,SeqAt.RcNeAt.tuple_int _ _ i f,SeqAt.EqAt.tuple_int _ _ i f⟩
   |str=>obtain⟨t,rfl⟩:=k;cases h;exact⟨SeqAt.RcAt.tuple_str _ _ i f,SeqAt.RcNeAt.tuple_str _ _ i f,SeqAt.EqAt.tuple_str _ _ i f⟩
   | @tup M vs2 P r' o q=>
    cases k;obtain⟨g,w,B,_⟩:=I.tuple o;obtain⟨k1,k2⟩:=KR h;have Y:=W F q z w k1;have Z:((List.range<|min m.toArray.size g.toArray.size).all (De (Xr n) N P)&&m.toArray.size==g.toArray.size)=b:=by
     rw[k2,zzH,zzH,<-z.length,<-w.length,F.length,q.length]
    have U:=SeqAt.RcAt.tuples i B f Y;have b2:=SeqAt.RcNeAt.tuples i B f Y;rw[Z]at U b2;refine⟨U,b2, ?_⟩
    by_cases Q:L=M
    . have hb:=G rfl rfl Q;subst Q;rw[hb];exact SeqAt.EqAt.same _
    . exact SeqAt.EqAt.of_refs Q U
   |lst o q=>
    cases k;cases h;obtain⟨l,J,p,_⟩:=I.list o.sq;exact⟨SeqAt.RcAt.tuple_list i p.isList f,SeqAt.RcNeAt.tuple_list i p.isList f,SeqAt.EqAt.tuple_list i p.isList f⟩
   |_=>cases h
  | @lst L vs1 N s1 F=>
   cases R;obtain⟨m,z,i,_⟩:=I.list s1.sq;cases E with
   |non=>cases k;cases h;exact⟨SeqAt.RcAt.list_none i.isList f,SeqAt.RcNeAt.list_none i.isList f,SeqAt.EqAt.list_none i.isList f⟩
   |bl=>cases k;cases h;exact⟨SeqAt.RcAt.list_bool _ i.isList f,SeqAt.RcNeAt.list_bool _ i.isList f,SeqAt.EqAt.list_bool _ i.isList f⟩
   |int=>obtain⟨t,rfl⟩:=k;cases h;exact⟨SeqAt.RcAt.list_int _ _ i.isList f,SeqAt.RcNeAt.list_int _ _ i.isList f,SeqAt.EqAt.list_int _ _ i.isList f⟩
   |str=>obtain⟨t,rfl⟩:=k;cases h;exact⟨SeqAt.RcAt.list_str _ _ i.isList f,SeqAt.RcNeAt.list_str _ _ i.isList f,SeqAt.EqAt.list_str _ _ i.isList f⟩
   |tup r' o q=>
    cases k;cases h;obtain⟨g,w,B,_⟩:=I.tuple o;exact⟨SeqAt.RcAt.list_tuple i.isList B f,SeqAt.RcNeAt.list_tuple i.isList B f,SeqAt.EqAt.list_tuple i.isList B f⟩
   | @lst M vs2 P o q=>
    cases k;obtain⟨g,w,B,_⟩:=I.list o.sq;obtain⟨k1,k2⟩:=KR h;have Y:=W F q z w k1;have ez1:=zzH.trans<|z.length.symm.trans F.length;have ez2:=zzH.trans<|w.length.symm.trans q.length;have C:SeqAt.RcAt A s (.ref L) (.ref M) b/\SeqAt.RcNeAt A s (.ref L) (.ref M) (!b):=by
     by_cases hz:m.toArray.size=g.toArray.size
     . have U:=SeqAt.RcAt.lists i.isList B.isList hz f Y;have b2:=SeqAt.RcNeAt.lists i.isList B.isList hz f Y;have Z:(List.range m.toArray.size).all (De (Xr n) N P)=b:=by
        rw[k2,<-ez1,<-ez2,<-hz,Nat.min_self];simp
       rw[Z]at U b2;exact⟨U,b2⟩
     . have hz':(m.toArray.size != g.toArray.size)=true:=by simpa using hz
       have Z:b=false:=by
        rw[k2,<-ez1,<-ez2];have:(m.toArray.size==g.toArray.size)=false:=by simpa using hz
        rw[this,Bool.and_false]
       rw[Z];exact⟨SeqAt.RcAt.lists_lengths i.isList B.isList hz' f,SeqAt.RcNeAt.lists_lengths i.isList B.isList hz' f⟩
    refine⟨C.1,C.2, ?_⟩
    by_cases Q:L=M
    . have hb:=G rfl rfl Q;subst Q;rw[hb];exact SeqAt.EqAt.same _
    . exact SeqAt.EqAt.of_refs Q C.1
   |_=>cases h
  |_=>cases h
end
structure DkAt(P:Program)(w:World)(h:Heap)(a:Addr)(kvs:List (Key×V)):Prop where
 le:kvs.length<=sizeLine
 ns:(a==sysModules)=false
 ex:∃vs,KV kvs vs/\h.DictOf (x6 P w) a vs
structure KdOk(X:Cx)(kd:KD):Prop where
 inj:∀a k k',kd a k->kd a k'->k=k'
 inK:∀a k,kd a k->∃o,X.K.lookup a=some o
 at_:∀a k h,kd a k->X.K.In h->DkAt X.prog X.w h a k
section
variable{X:Cx}{kd:KD}{pins:List (Addr×Obj)}{σ:St}{H:Hp}{s:Shared}{O:Addr->Prop}
def Ku(I:Inv X pins σ H s)(hk:KdOk X kd)(h:Rd H a (.dK kvs)\/kd a kvs):DkAt X.prog X.w s.heap a kvs:=by
 rcases h with h|h
 . obtain⟨z,hd,vs,rel,dd⟩:=m9 I.hok h;exact⟨z,hd,vs,rel,dd⟩
 . exact hk.at_ _ _ _ h I.kIn
theorem Jh(I:Inv X pins σ H s):∀(n:Nat) (v:V) (d e x:D) (b c:Bool),Vw X.K kd O H v d->Vw X.K kd O H v e->Xr n d x=some b->Xr n e x=some c->b=c
 |0,_,_,_,_,_,_,_,_,h,_=>by cases h
 |n+1,v,d,e,x,b,c,h1,h2,h,h'=>by
  have lst:∀(vs:List V) (ds es xs:List D) (b c:Bool),RpL X.K kd O H vs ds->RpL X.K kd O H vs es->sU (Xr n) ds xs=some b->sU (Xr n) es xs=some c->b=c:=by
   intro vs
   induction vs with
   |nil=>intro ds es xs b c r1 r2 h h';cases r1;cases r2;exact zzZ (h.symm.trans h')
   |cons v vs ih=>
    intro ds es xs b c r1 r2 h h';cases r1 with
    |cons a1 r1=>
     cases r2 with
     | cons a2 r2=>
            cases xs with
            |nil=>cases h;cases h';rfl
            |cons x xs=>
             obtain⟨b1,k1,h⟩:=bS_<|h;obtain⟨c1,k2,h⟩:=bS_ h;obtain⟨b2,k3,h'⟩:=bS_<|h';obtain⟨c2,k4,h'⟩:=bS_ h';cases h;cases h';rw[Jh I n _ _ _ _ _ _ a1.vw a2.vw k1 k3,ih _ _ _ _ _ r1 r2 k2 k4]
  cases h1 with
  |tup r1 s1 l1=>
   cases h2 with
   |tup r2 s2 l2=>
    have:=I.tuple_inj s1 s2;subst this;cases x with
    |tup xs=>exact lst _ _ _ _ _ _ l1 l2 h h'
    |_=>exact zzZ (h.symm.trans h')
   |lst s2 l2=>exact(HM I s1 s2.sq).elim
   |_=>cases h'
  |lst s1 l1=>
   cases h2 with
   |tup r2 s2 l2=>exact(HM I s2 s1.sq).elim
   |lst s2 l2=>
    have:=I.list_inj s1.sq s2.sq;subst this;cases x with
    |lst xs=>exact lst _ _ _ _ _ _ l1 l2 h h'
    |_=>exact zzZ (h.symm.trans h')
   |_=>cases h'
  |dct s1 l1=>cases h
  |cl=>cases h
  |ob=>cases h
  |_=>cases h2;exact zzZ<|h.symm.trans h'
end
noncomputable def uK:D->Option Key
 | .int i=>some<|.inl i
 | .str x=>some (.inr x)
 |_=>none
noncomputable def PV(kvs:List (Key×D))(k:Key):Option D:=(kvs.find? λkv=>decide (kv.1=k)).map (·.2)
def Er{K O}(k)(h:RpM K kd O H vs ds):(∃v d,PH vs k=some v/\PV ds k=some d/\Rp K kd O H v d)\/(PH vs k=none/\PV ds k=none):=
 RpM.ind (P:=λvs ds=>(∃v d,PH vs k=some v/\PV ds k=some d/\Rp K kd O H v d)\/(PH vs k=none/\PV ds k=none)) (.inr ⟨rfl,rfl⟩) (λ{k' v d vs ds} a _ ih=>by
  by_cases e:k'=k
  . left;refine⟨_,_, ?_, ?_,a⟩
    . unfold PH;simp[e]
    . unfold PV;simp[e]
  . rcases ih with⟨v,d,h1,h2,h3⟩|⟨h1,h2⟩
    . left;refine⟨v,d, ?_, ?_,h3⟩
      . unfold PH at h1 ⊢;simpa[e]using h1
      . unfold PV at h2 ⊢;simpa[e]using h2
    . right;refine⟨?_, ?_⟩
      . unfold PH at h1 ⊢;simpa[e]using h1
      . unfold PV at h2 ⊢;simpa[e]using h2) h
noncomputable def anyF(f:D->Option Bool):List D->Option Bool
 | []=>some false
 |x::r=>(f x).bind λb=>(anyF f r).bind λc=>some (b||c)
def D5(b:Bool):R0:=.im<|.bl b
def fm(x:D):D->Option Bool
 | .lst ys=>anyF (λy=>Xr 50 y x) ys
 | .tup ys=>anyF (λy=>Xr 50 y x) ys
 | .str y=>match x with | .str i=>some (!(Builtin.Str.occurrences y i 0 y.length 1).isEmpty)|_=>none
 | .dct kvs=>(uK x).bind λk=>some (PV kvs k).isSome
 |_=>none
noncomputable def iw:D->D->Option Bool
 |d,.non=>some (match d with | .non=>true|_=>false)
 |d,.bl b=>match d with | .bl c=>some (c==b)|_=>some false
 |_,_=>none
def Cm(f:Int->Int->Bool):D->D->Option R0:=sS λi j=>some<|D5<|f i j
def zy(o:CmpOp)(d e:D):Option R0:=match o with
 | .Eq=>(Xr 60 d e).bind λb=>some<|D5 b
 | .NotEq=>(Xr 60 d e).bind λb=>some<|D5 !b
 | .Lt=>Cm (λi j=>decide (i<j)) d e
 | .LtE=>Cm (λi j=>decide (i<=j)) d e
 | .Gt=>Cm (λi j=>decide (j<i)) d e
 | .GtE=>Cm (λi j=>decide (j<=i)) d e
 | .In=>(fm d e).bind λb=>some<|D5 b
 | .NotIn=>(fm d e).bind λb=>some<|D5 !b
 | .Is=>(iw d e).bind λb=>some<|D5 b
 | .IsNot=>(iw d e).bind λb=>some<|D5 !b
def QA{o:Option Bool}{f:Bool->Bool}(h:(o.bind λb=>some<|D5<|f b)=some r):∃k,r = .im (.bl k):=by
 obtain⟨b,_,h⟩:=bS_ h;cases h;exact⟨_,rfl⟩
def GU(h:Cm f x y=some r):∃k,r = .im (.bl k):=by
 obtain⟨i,_,h⟩:=bS_<|h;obtain⟨j,_,h⟩:=bS_ h;cases h;exact⟨_,rfl⟩
def DI(op:CmpOp)(x y:D)(r)(h:zy op x y=some r):∃k,r = .im (.bl k):=by
 cases op with
 |Eq=>exact QA h
 |NotEq=>exact QA h
 |Lt=>exact GU h
 |LtE=>exact GU h
 |Gt=>exact GU h
 |GtE=>exact GU h
 |In=>exact QA h
 |NotIn=>exact QA h
 |Is=>exact QA h
 |IsNot=>exact QA h
section
variable{X:Cx}{kd:KD}{pins:List (Addr×Obj)}{σ:St}{H:Hp}{s:Shared}{O:Addr->Prop}
noncomputable def tF(K:zzA)(kd:KD)(O:Addr->Prop)(H:Hp)(n:Nat)(x:D)(u:Value):Bool:=@decide (∃v d,RelV v u/\Rp K kd O H v d/\Xr n d x=some true)<|Classical.propDecidable _
def M7(I:Inv X pins σ H s)(hk:KdOk X kd){n:Nat}(r:RelV v u)(p:Rp X.K kd O H v d)(e:Xr n d x=some b):tF X.K kd O H n x u=b:=by
 unfold tF;cases b with
 |true=>exact @zyO _ (Classical.propDecidable _) ⟨v,d,r,p,e⟩
 |false=>
  refine @zyG _ (Classical.propDecidable _) λ⟨v',d',r',p',e'⟩=>?_;have:=r.inj r';subst this;exact Bool.noConfusion<|Jh I n _ _ _ _ _ _ p.vw p'.vw e e'
def GN(I:Inv X pins σ H s)(hk:KdOk X kd){n:Nat}(hv:zP vs us)(h:RpL X.K kd O H vs ds)(e:anyF (λy=>Xr n y x) ds=some b):us.any (tF X.K kd O H n x)=b:=
 RpL.ind (P:=λvs ds=>∀us b,zP vs us->anyF (λy=>Xr n y x) ds=some b->us.any _=b) (λus b hv e=>by cases e;cases hv;rfl) (λ{v d vs ds} a _ ih us b hv h=>by
  cases hv with
  |cons r t=>
   obtain⟨b1,h1,h⟩:=bS_<|h;obtain⟨c1,h2,h⟩:=bS_ h;cases h;rw[List.any_cons,M7 I hk r a h1,ih _ _ t h2]) h us b hv e
theorem XA:∀{ds:List D}{b:Bool},anyF f ds=some b->∀d ∈ ds,∃c,f d=some c
 | [],_,_,d,hd=>by simp at hd
 |x::r,b,h,d,hd=>by
  obtain⟨b1,h1,h⟩:=bS_<|h;obtain⟨c1,h2,h⟩:=bS_ h
  rcases zzC.mp hd with e|e
  . subst e;exact⟨b1,h1⟩
  . exact XA h2 d e
def RK(I:Inv X pins σ H s)(hk:KdOk X kd){n:Nat}(hu:A.units+n<cLine)(vx:Vw X.K kd O H x d)(rx:RelV x v)(hv:zP vs us)(h:RpL X.K kd O H vs ds)(k:∀e ∈ ds,∃c,Xr n e d=some c):∀u ∈ us,SeqAt.EqAt A s u v (tF X.K kd O H n d u):=
 RpL.ind (P:=λvs ds=>∀us,zP vs us->(∀e ∈ ds,∃c,Xr n e d=some c)->∀u ∈ us,SeqAt.EqAt A s u v<|tF X.K kd O H n d u) (λus hv _ u hu=>by cases hv;simp at hu) (λa q ih us hv h u hm=>by
  cases hv with
  |cons r t=>
   rcases zzC.mp hm with e|e
   . subst e;obtain⟨c,hc⟩:=h _ zzF;rw[M7 I hk r a hc];exact(Fp I n A _ _ _ _ _ _ _ hu a.vw vx r rx hc).eq
   . exact ih _ t (λe he=>h e<|zzD _ he) u e) h us hv k
def K8(vx:Vw X.K kd O H x d)(rx:RelV x v)(e:iw d (.bl b)=some c)(h:Q c s):wpAny (model X.prog X.w) A (isSame v<|.bool b) Q E s:=by
 cases vx with
 |non=>cases rx;cases e;exact zxG h
 |bl k=>
  cases rx;have e:=e;cases e;refine zxG ?_;cases k<;>cases b<;>exact h
 |int=>obtain⟨t,rfl⟩:=rx;cases e;exact zxG h
 |str=>obtain⟨t,rfl⟩:=rx;cases e;exact zxG h
 |tup=>cases rx;cases e;exact zxG h
 |lst=>cases rx;cases e;exact zxG h
 |dct=>cases rx;cases e;exact zxG h
 |cl=>cases rx;cases e;exact zxG h
 |ob=>cases rx;cases e;exact zxG h
def PD(hk:KdOk X kd)(hu:X.A.units+100<cLine)(op):pW X kd (compareOp op) (zy op):=by
 intro pins s σ H x y v u Q I rx ry h;obtain⟨O,d,e,r,ht,vx,vy,he,q⟩:=h;cases op with
 |Eq=>
  obtain⟨b,h1,he⟩:=bS_<|he;cases he;exact(Fp I 60 X.A x y d e v u b (q1r hu) vx vy rx ry h1).rc _ _ _ _ (wD I (ya q<|.bl _) rfl)
 |NotEq=>
  obtain⟨b,h1,he⟩:=bS_<|he;cases he;exact(Fp I 60 X.A x y d e v u b (q1r hu) vx vy rx ry h1).ne _ _ _ _ (wD I (ya q<|.bl _) rfl)
 |Lt=>
  obtain⟨i,j,rfl,rfl,he⟩:=Wa vx vy he;cases he;exact jA pins s σ H _ _ v u Q I rx ry ⟨_,_,rfl,rfl,ya q<|.bl _⟩
 |LtE=>
  obtain⟨i,j,rfl,rfl,he⟩:=Wa vx vy he;cases he;exact mD pins s σ H _ _ v u Q I rx ry ⟨_,_,rfl,rfl,ya q<|.bl _⟩
 |Gt=>
  obtain⟨i,j,rfl,rfl,he⟩:=Wa vx vy he;cases he;exact nS pins s σ H _ _ v u Q I rx ry ⟨_,_,rfl,rfl,ya q<|.bl _⟩
 |GtE=>
  obtain⟨i,j,rfl,rfl,he⟩:=Wa vx vy he;cases he;exact jh pins s σ H _ _ v u Q I rx ry ⟨_,_,rfl,rfl,ya q<|.bl _⟩
 |In=>
  obtain⟨b,h1,he⟩:=bS_<|he;cases he;cases vy with
  |lst hs rl=>
   cases ry;obtain⟨its,rv,p,_⟩:=I.list hs.sq;refine SeqAt.in_listAt _ p.isList (λw hw=>RK I hk (by show X.A.units+1+50<cLine;exact q0f hu) vx rx rv rl (XA h1) w<|by simpa using hw) ?_;have:=GN I hk rv rl h1;rw[show its.toArray.any _=b by rw[<-this];simp];exact wD (I) (ya q<|.bl _) rfl
  |tup rp hs rl=>
   cases ry;obtain⟨its,rv,p,_⟩:=I.tuple hs;refine SeqAt.in_tupleAt _ p (λw hw=>RK I hk (by show X.A.units+1+50<cLine;exact q0f hu) vx rx rv rl (XA h1) w<|by simpa using hw) ?_;have:=GN I hk rv rl h1;rw[show its.toArray.any _=b by rw[<-this];simp];exact wD (I) (ya q<|.bl _) rfl
  |str z=>
   cases vx with
   |str i=>cases h1;exact Cw pins s σ H _ _ v u Q I rx ry ⟨_,_,rfl,rfl,ya q<|.bl _⟩
   |_=>cases h1
  |dct hs rm=>
   cases ry;obtain⟨k,k1,h1⟩:=bS_ h1;cases h1;obtain⟨z,hd,vs,rel,dd⟩:=Ku I hk hs;have ek:x=kV k:=by
    cases vx with
    |int i=>cases k1;rfl
    |str i=>cases k1;rfl
    |_=>cases k1
   subst ek;refine wpAny_in_of (HJ rx) hd dd.mapOf ?_;rw[<-(rel.val k).isSome_eq]
   rcases Er k rm with⟨v1,d1,e1,e2,_⟩|⟨e1,e2⟩
   . rw[e1];rw[e2]at q;exact wD (I.tok _) (ya q<|.bl _) rfl
   . rw[e1];rw[e2]at q;exact wD (I.tok _) (ya q<|.bl _) rfl
  |_=>cases h1
 |NotIn=>
  obtain⟨b,h1,he⟩:=bS_<|he;cases he;cases vy with
  |lst hs rl=>
   cases ry;obtain⟨its,rv,p,_⟩:=I.list hs.sq;refine SeqAt.notIn_listAt _ p.isList (λw hw=>RK I hk (by show X.A.units+1+50<cLine;exact q0f hu) vx rx rv rl (XA h1) w<|by simpa using hw) ?_;have:=GN I hk rv rl h1;rw[show its.toArray.any _=b by rw[<-this];simp];exact wD (I) (ya q<|.bl _) rfl
  |tup rp hs rl=>
   cases ry;obtain⟨its,rv,p,_⟩:=I.tuple hs;refine SeqAt.notIn_tupleAt _ p (λw hw=>RK I hk (by show X.A.units+1+50<cLine;exact q0f hu) vx rx rv rl (XA h1) w<|by simpa using hw) ?_;have:=GN I hk rv rl h1;rw[show its.toArray.any _=b by rw[<-this];simp];exact wD (I) (ya q<|.bl _) rfl
  |str z=>
   cases vx with
   |str i=>cases h1;exact MQ pins s σ H _ _ v u Q I rx ry ⟨_,_,rfl,rfl,ya q<|.bl _⟩
   |_=>cases h1
  |dct hs rm=>
   cases ry;obtain⟨k,k1,h1⟩:=bS_ h1;cases h1;obtain⟨z,hd,vs,rel,dd⟩:=Ku I hk hs;have ek:x=kV k:=by
    cases vx with
    |int i=>cases k1;rfl
    |str i=>cases k1;rfl
    |_=>cases k1
   subst ek;refine wpAny_notIn_of (HJ rx) hd dd.mapOf ?_;rw[<-(rel.val k).isSome_eq]
   rcases Er k rm with⟨v1,d1,e1,e2,_⟩|⟨e1,e2⟩
   . rw[e1];rw[e2]at q;exact wD (I.tok _) (ya q<|.bl _) rfl
   . rw[e1];rw[e2]at q;exact wD (I.tok _) (ya q<|.bl _) rfl
  |_=>cases h1
 |Is=>
  obtain⟨b,h1,he⟩:=bS_<|he;cases he;cases vy with
  |non=>
   refine qk pins s σ H _ _ v u Q I rx ry ⟨rfl, ?_⟩;have:decide (x=V.non)=b:=by cases vx<;>(cases h1;rfl)
   rw[this];exact ya q (.bl b)
  |bl c=>
   cases ry;exact zxF (K8 vx rx h1<|zxG<|wD I (ya q<|.bl _) rfl)
  |_=>cases h1
 |IsNot=>
  obtain⟨b,h1,he⟩:=bS_<|he;cases he;cases vy with
  |non=>
   refine uT pins s σ H _ _ v u Q I rx ry ⟨rfl, ?_⟩;have:decide (x=V.non)=b:=by cases vx<;>(cases h1;rfl)
   rw[this];exact ya q (.bl _)
  |bl c=>
   cases ry;exact zxF (K8 vx rx h1<|zxG<|wD I (ya q<|.bl _) rfl)
  |_=>cases h1
end
def Ow{K kd O H vs ds i d}(r:RpL K kd O H vs ds)(h:atI ds i=some d):∃v,atI vs i=some v/\Rp K kd O H v d:=by
 unfold atI at h ⊢;obtain⟨j,a,b⟩:=bS_ h;rw[r.length,a];exact r.get b
def Ji(o:Option D):Option R0:=o.bind λd=>some<|.im d
def zx(x y:D):Option R0:=match x with
 | .lst xs=>(HY y).bind λi=>Ji<|atI xs i
 | .tup xs=>(HY y).bind λi=>Ji<|atI xs i
 | .str x=>(HY y).bind λi=>if x.length<=sizeLine then(atI x.cps.toList i).bind λc=>some (.im<|.str ⟨#[c]⟩)else none
 | .dct kvs=>(uK y).bind λk=>Ji (PV kvs k)
 |_=>none
def Li(h:Ji o=some r):∃d,o=some d/\r = .im d:=by
 obtain⟨d,a,b⟩:=bS_<|h;cases b;exact⟨d,a,rfl⟩
section
variable{X:Cx}{kd:KD}
def A0{K O H x d k}(vx:Vw K kd O H x d)(e:uK d=some k):x=kV k:=by
 cases vx with
 |int i=>cases e;rfl
 |str i=>cases e;rfl
 |_=>cases e
def iZ(hk:KdOk X kd):fH X kd zx:=by
 intro b f g s σ H x y v u Q I A B h C;obtain⟨O,d,e,r,U,P,D,a,q⟩:=h;cases P with
 |lst m E=>
  obtain⟨i,n,a⟩:=bS_<|a;obtain⟨rfl,rfl⟩:=X1 D n;obtain⟨d,l,rfl⟩:=Li a;obtain⟨w,p,j⟩:=Ow E l;exact Dw b f g s σ H _ _ v u Q I A B ⟨_,_,_,w,rfl,rfl,m.sq,p,ya q j⟩ C
 |tup J m E=>
  obtain⟨i,n,a⟩:=bS_<|a;obtain⟨rfl,rfl⟩:=X1 D n;obtain⟨d,l,rfl⟩:=Li a;obtain⟨w,p,j⟩:=Ow E l;exact og b f g s σ H _ _ v u Q I A B ⟨_,_,_,w,rfl,rfl,m,p,ya q j⟩ C
 |str z=>
  obtain⟨i,n,a⟩:=bS_<|a;obtain⟨rfl,rfl⟩:=X1 D n;obtain⟨R,a⟩:=ite_some' a;obtain⟨c,l,a⟩:=bS_ a;cases a;exact pZ b f g s σ H _ _ v u Q I A B ⟨_,_,c,rfl,rfl,R,l,ya q<|.str _⟩ C
 |dct m S=>
  obtain⟨k,l,a⟩:=bS_<|a;obtain⟨d,K,rfl⟩:=Li a;cases A;obtain⟨z,V,T,G,L⟩:=Ku I hk m;have:=A0 D l;subst this
  rcases Er k S with⟨M,W,N,t,J⟩|⟨N,t⟩
  . rw[K]at t;cases t;obtain⟨Y,p,j⟩:=RB.some_of (by rw[<-N];exact G.val k);exact tail_any L.typeIs PySem.F.slot_dict_getitem.lookup (wpAny_getItem_of (HJ B) L.mapOf p ⟨M,H,I.tok _,j,ya q J⟩) C
  . rw[K]at t;cases t
 |_=>cases a
def cutD(xs:List D)(lo hi:Option Int):List D:=(xs.drop<|HT.sIx xs.length 0 lo).take<|HT.sIx xs.length xs.length hi-HT.sIx xs.length 0 lo
def HG{K O H vs ds}(r:RpL K kd O H vs ds)(lo hi):RpL K kd O H (CU vs lo hi) (cutD ds lo hi):=by
 unfold CU cutD;rw[r.length];exact(r.drop _).take _
def QE(x:D)(lo hi:Option Int):Option R0:=match x with
 | .lst xs=>some<|.fl<|cutD xs lo hi
 | .tup xs=>if HT.sIx xs.length 0 lo=0/\HT.sIx xs.length xs.length hi=xs.length then none else some (.im<|.tup<|cutD xs lo hi)
 |_=>none
abbrev OF:=AS->Option (Option Int×AS)
def oN:OF:=λas=>some (none,as)
def oS(f:EF):OF:=λas=>(f as).bind λp=>(f_ p.1).bind λi=>some (some i,p.2)
def WR(fa:EF)(fl fh:OF)(g:D->Option Int->Option Int->Option R0):EF:=λas=>(fa as).bind λp=>(fl p.2).bind λl=>(fh l.2).bind λh=>(p.1.frz.view h.2).bind λx=>(g x.1 l.1 h.1).bind λr=>(wrap x.2 r).bind λz=>some (z,h.2)
def dZ(K:zzA)(kd:KD)(f:OF):TO:=λσ H Q=>∃F B ad as o as',Rel K kd F B [] ad as σ H/\f as=some (o,as')/\
 ∀ad' H',Rel K kd F B [] ad' as' σ H'->Grow (Gw [] ad) H (Gw [] ad') H'->Q o H'
@[irreducible] def AO(X:Cx)(kd:KD)(e:Option Expr)(f:OF):Prop:=PO X e<|dZ X.K kd f
def Ik(h:PO X e t)(k:∀σ H Q,t' σ H Q->t σ H Q):PO X e t':=λa s σ H Q I q=>h a s σ H Q I<|k σ H Q q
def Em:AO X kd none oN:=by with_unfolding_all exact(Ik t9 λσ H Q h=>by
 obtain⟨F,B,a,as,o,b,R,e,q⟩:=h;cases e;exact q a H R Grow.refl)
def oQ{K F B T ad σ H v st c}(h:xo K kd F B T ad σ H v (.ow<|.lf st<|.int c)):T=[]/\v = .int c:=by
 have h:=h;generalize b:Gw T ad=G at h;cases h with
 |lf a=>cases a;exact⟨rfl,rfl⟩
def GI{a fa}(ha:AE X kd a fa):AO X kd (some a) (oS fa):=by with_unfolding_all exact(Ik (uE ha) λσ H Q h=>by
 obtain⟨F,B,d,as,o,f,R,e,q⟩:=h;obtain⟨⟨p,g⟩,j,e⟩:=bS_<|e;obtain⟨i,k,e⟩:=bS_ e;obtain⟨r,rfl⟩:=oK k;cases e;refine⟨F,B,d,as,_,_,R,j,λv s b l m c n=>?_⟩;obtain⟨rfl,rfl⟩:=oQ c;exact⟨i,rfl,q b l m n⟩)
def iV:jT X (λx lo hi H Q=>∃O d r,(∀a,O a->H a≠none)/\Vw X.K kd O H x d/\QE d lo hi=some r/\RQ X.K kd O H Q r):=by
 intro b s σ H x v j k e f l Q I m n o p h;obtain⟨O,d,r,t,u,c,q⟩:=h;cases u with
 |lst i g=>cases c;exact t8 b s σ H _ v j k e f l Q I m n o p ⟨_,_,rfl,i.sq,Pj q<|HG g e f⟩
 |tup y i g=>
  have c:(if _ then none else some _:Option R0)=_:=c
  split at c
  . cases c
  . rename_i w;cases c;exact r6 b s σ H _ v j k e f l Q I m n o p ⟨_,_,rfl,i,by rw[g.length];exact w,K5 t q<|HG g e f⟩
 |_=>cases c
def Ks{a lo hi fa fl fh pos p2}(ha:AE X kd a fa)(hl:AO X kd lo fl)(hh:AO X kd hi fh):AE X kd (.Subscript a (.Slice lo hi none p2) pos) (WR fa fl fh QE):=by with_unfolding_all exact(yo (JY iV ha hl hh) λσ H Q h=>by
 obtain⟨F,B,O,as,r,s,R,e,q⟩:=h;obtain⟨⟨p,c⟩,t,e⟩:=bS_<|e;obtain⟨⟨l,b⟩,x,e⟩:=bS_ e;obtain⟨⟨u,y⟩,A,e⟩:=bS_ e;obtain⟨⟨d,P⟩,C,e⟩:=bS_ e;obtain⟨D,E,e⟩:=bS_ e;obtain⟨z,G,e⟩:=bS_ e;cases e;refine vT R t λv f S I g J=>⟨F,B,f,c,l,b,I,x,λi T R2 n=>⟨F,B,i,b,u,_,R2,A,λj U k o=>?_⟩⟩;exact⟨_,d,D,k.tr _,xo.vw k ((g.grow n).grow o) C,E,Y2 k G λw K L M m N=>q w K j L M m<|((J.trans n).trans o).trans N⟩)
def EN:D->Option R0
 | .int i=>some (.im<|.int (-i))
 |_=>none
def gv:er X kd (unaryOp .USub) EN:=by
 intro a s σ H x v Q I c h;obtain⟨O,d,r,f,e,b,q⟩:=h;cases e with
 |int i=>cases b;exact q8 a s σ H _ v Q I c ⟨i,rfl,ya q<|.int _⟩
 |_=>cases b
noncomputable def kK:D->String
 | .non=>"NoneType" | .bl _=>"bool" | .int _=>"int" | .str _=>"str" | .tup _=>"tuple" | .lst _=>"list" | .dct _=>"dict"|_=>""
noncomputable def uv:D->Bool
 | .cl _=>false | .ob _ _ _=>false|_=>true
noncomputable def HR(t c:String):Bool:=t==c||(t=="bool"&&c=="int")
noncomputable def UP(c:String):Bool:=c=="int"||c=="bool"||c=="str"||c=="list"||c=="tuple"||c=="dict"
def qP(K)(d)(c)(h:UP c=true)(ho:uv d=true):W.kitOne K (.type<|kK d) (.type c)=some (HR (kK d) c):=by
 have:c="int"\/c="bool"\/c="str"\/c="list"\/c="tuple"\/c="dict":=by
  unfold UP at h;simp only[Bool.or_eq_true,beq_iff_eq]at h
  rcases h with((((h|h)|h)|h)|h)|h<;>simp[h]
 rcases this with rfl|rfl|rfl|rfl|rfl|rfl<;>cases d<;>first|rfl|cases ho
def qS(hk:KdOk X kd){pins σ H s O A E Q c x u d}(I:Inv X pins σ H s)(rx:RelV x u)(vx:Vw X.K kd O H x d)(hc:UP c=true)(ho:uv d=true)
 (h:∀tk,Q (.bool<|HR (kK d) c) {s with toks:=tk}):wpAny (model X.prog X.w) A (call (.builtin "isinstance") [u,.type c]) Q E s:=by
 have e:=qP X.K d c hc ho;cases vx with
 |non=>cases rx;exact W.kia_one W.kitx_none I.kIn True.intro e (λz=>nomatch z) h
 |bl y=>cases rx;exact W.kia_one W.kitx_bool I.kIn True.intro e (λz=>nomatch z) h
 |int i=>obtain⟨t,rfl⟩:=rx;exact W.kia_one W.kitx_int I.kIn True.intro e (λz=>nomatch z) h
 |str y=>obtain⟨t,rfl⟩:=rx;exact W.kia_one W.kitx_str I.kIn True.intro e (λz=>nomatch z) h
 |lst a j=>
  cases rx;obtain⟨g,k,⟨o,n,b,f,_⟩,_⟩:=I.list a.sq;exact W.kia_one W.kitx_list I.kIn ⟨o,b,f⟩ e (λz=>nomatch z) h
 |tup m a j=>
  cases rx;obtain⟨g,k,⟨o,b,f,_⟩,_⟩:=I.tuple a;exact W.kia_one W.kitx_tuple I.kIn ⟨o,b,f⟩ e (λz=>nomatch z) h
 |dct a p=>
  cases rx;obtain⟨z,q,r,l,⟨o,v,B,b,f,_⟩⟩:=Ku I hk a;exact W.kia_one W.kitx_dict I.kIn ⟨o,b,f.1⟩ e (λz=>nomatch z) h
 |cl=>cases ho
 |ob=>cases ho
end
noncomputable def V2:List D->Option (List Int)
 | []=>some []
 | .int i::r=>(V2 r).bind λs=>some (i::s)
 |_::_=>none
def la:List Int->Int
 | []=>0
 |x::r=>r.foldl (λa b=>if a<b then b else a) x
def ke:List Int->Int
 | []=>0
 |x::r=>r.foldl (λa b=>if b<a then b else a) x
theorem N2:∀(r:List Int) (x:Int),r.foldl (λa b=>if a<b then b else a) x ∈ x::r/\∀a ∈ x::r,a<=r.foldl (λa b=>if a<b then b else a) x
 | [],x=>⟨by simp,by simp⟩
 |y::r,x=>by
  rw[List.foldl_cons];obtain⟨h1,h2⟩:=N2 r _;refine⟨?_,λa ha=>?_⟩
  . rcases zzC.mp h1 with e|e
    . rw[e];split<;>simp
    . exact zzD _<|zzD _ e
  . have h3:=h2 _ zzF
    rcases zzC.mp ha with e|e
    . subst e;exact Int.le_trans (by split<;>omega) h3
    . rcases zzC.mp e with e|e
      . subst e;exact Int.le_trans (by split<;>omega) h3
      . exact h2 a<|zzD _ e
theorem Mi:∀(r:List Int) (x:Int),r.foldl (λa b=>if b<a then b else a) x ∈ x::r/\∀a ∈ x::r,r.foldl (λa b=>if b<a then b else a) x<=a
 | [],x=>⟨by simp,by simp⟩
 |y::r,x=>by
  rw[List.foldl_cons];obtain⟨h1,h2⟩:=Mi r _;refine⟨?_,λa ha=>?_⟩
  . rcases zzC.mp h1 with e|e
    . rw[e];split<;>simp
    . exact zzD _<|zzD _ e
  . have h3:=h2 _ zzF
    rcases zzC.mp ha with e|e
    . subst e;exact Int.le_trans h3 (by split<;>omega)
    . rcases zzC.mp e with e|e
      . subst e;exact Int.le_trans h3 (by split<;>omega)
      . exact h2 a<|zzD _ e
def uy(h1:M ∈ ns)(h2:∀a ∈ ns,a<=M):la ns=M:=by
 cases ns with
 |nil=>simp at h1
 |cons x r=>
  obtain⟨k1,k2⟩:=N2 r x;have a1:=k2 M h1;have a2:=h2 _ k1;show r.foldl _ x=M;exact q1D a2 a1
def u4(h1:M ∈ ns)(h2:∀a ∈ ns,M<=a):ke ns=M:=by
 cases ns with
 |nil=>simp at h1
 |cons x r=>
  obtain⟨k1,k2⟩:=Mi r x;have a1:=k2 M h1;have a2:=h2 _ k1;show r.foldl _ x=M;exact q1D a1 a2
noncomputable def qf(f:D->Option R0)(ds:List D):Option R0:=match ds with
 | [x]=>f x
 |_=>none
def Pp{K O}(vl:VwL K kd O H xs ds)(h:qf f ds=some r):∃x d,xs=[x]/\Vw K kd O H x d/\f d=some r:=by
 cases vl with
 |nil=>cases h
 |cons a b=>
  cases b with
  |nil=>exact⟨_,_,rfl,a,h⟩
  |cons _ _=>cases h
def OS:D->Option R0
 | .lst ds=>some<|.im<|.int ds.length
 | .tup ds=>some<|.im<|.int ds.length
 | .str x=>if x.length<=sizeLine then some (.im<|.int x.length)else none
 | .dct kvs=>some (.im<|.int kvs.length)
 |_=>none
def xq:List D->Option R0:=qf OS
noncomputable def gi:D->Option R0
 | .int i=>some<|.im<|.int i
 | .bl b=>some (.im<|.int (if b then 1 else 0))
 |_=>none
noncomputable def tupP:List D->Option R0
 | [.lst ds]=>some<|.im<|.tup ds
 | [.tup ds]=>some (.im<|.tup ds)
 |_=>none
def gq:D->Option R0
 | .lst ds=>some<|.fl ds
 | .tup ds=>some (.fl ds)
 |_=>none
def lstP:List D->Option R0:=qf gq
noncomputable def dctP:List D->Option R0
 | [.dct kvs]=>some (.fd kvs)
 |_=>none
def Nw(ds:List D):Option R0:=match ds with
 | [x,y]=>sS (λi j=>some<|.im<|.int (if j > i then j else i)) x y
 | [x]=>(oo x).bind λds=>(V2 ds).bind λns=>if 0<ns.length then some (.im<|.int<|la ns)else none
 |_=>none
def L_:List D->Option R0
 | [.int i,.int j]=>some<|.im<|.int (if j<i then j else i)
 | [.lst ds]=>(V2 ds).bind λns=>if 0<ns.length then some (.im<|.int<|ke ns)else none
 |_=>none
def GJ{K O}(h:VwL K kd O H xs [d]):∃x,xs=[x]/\Vw K kd O H x d:=by
 cases h with
 |cons a b=>cases b;exact⟨_,rfl,a⟩
def Hy{K O}(h:VwL K kd O H xs [d,e]):∃x y,xs=[x,y]/\Vw K kd O H x d/\Vw K kd O H y e:=by
 cases h with
 |cons a b=>
  cases b with
  |cons b c=>cases c;exact⟨_,_,rfl,a,b⟩
def FO{K O}(h:RpL K kd O H vs ds)(e:V2 ds=some ns):vs=ns.map V.int:=
 RpL.ind (P:=λvs ds=>∀ns,V2 ds=some ns->vs=ns.map V.int) (λns e=>by cases e;rfl) (λ{v d vs ds} a _ ih ns e=>by
  cases d with
  |int i=>
   obtain⟨s,h1,h2⟩:=bS_<|e;cases h2;cases a;rw[ih _ h1];rfl
  |_=>cases e) h ns e
section
variable{X:Cx}{kd:KD}
def XD(hk:KdOk X kd):Xb X kd (.builtin "len") xq:=by
 intro pins s σ H xs us Q I r h;obtain⟨O,ds,z,ht,vl,he,q⟩:=h;obtain⟨x,d,rfl,vx,he⟩:=Pp vl he;cases vx with
 |lst hr rl=>cases he;exact Ru pins s σ H _ us Q I r ⟨_,_,rfl,.inl hr.sq,by rw[rl.length];exact ya q<|.int _⟩
 |tup rp hr rl=>cases he;exact Ru pins s σ H _ us Q I r ⟨_,_,rfl,.inr hr,by rw[rl.length];exact ya q<|.int _⟩
 |str y=>
  obtain⟨c,rfl⟩:=zv he;exact E7 pins s σ H _ us Q I r ⟨_,rfl,c,ya q<|.int _⟩
 |dct hr rm=>
  cases he;obtain⟨u,rfl,ru⟩:=vals1 r;cases ru;obtain⟨z,hd,vs,rel,dd⟩:=Ku I hk hr;refine call_len_dict hd dd (by rw[<-rel.length];rw[sizeLine_eq]at z;omega) ?_;rw[<-rel.length,rm.length];exact⟨.int _,H,I.tok _,⟨_,rfl⟩,ya q<|.int _⟩
 |_=>cases he
def Ma:Xb X kd (.type "tuple") tupP:=by
 intro pins s σ H xs us Q I r h;obtain⟨O,ds,z,ht,vl,he,q⟩:=h;unfold tupP at he
 split at he
 . cases he;obtain⟨x,rfl,vx⟩:=GJ vl;cases vx with
   |lst hr rl=>exact QO pins s σ H _ us Q I r ⟨_,_,rfl,.inl ⟨hr.sq,K5 ht q rl⟩⟩
 . cases he;obtain⟨x,rfl,vx⟩:=GJ vl;cases vx with
   |tup rp hr rl=>exact QO pins s σ H _ us Q I r ⟨_,_,rfl,.inr ⟨hr,ya q rp⟩⟩
 . cases he
def C4:Xb X kd (.type "list") lstP:=by
 intro pins s σ H xs us Q I r h;obtain⟨O,ds,z,ht,vl,he,q⟩:=h;obtain⟨x,d,rfl,vx,he⟩:=Pp vl he;cases vx with
 |lst hr rl=>cases he;exact UJ pins s σ H _ us Q I r ⟨_,_,rfl,.inl hr.sq,Pj q rl⟩
 |tup rp hr rl=>cases he;exact UJ pins s σ H _ us Q I r ⟨_,_,rfl,.inr hr,Pj q rl⟩
 |_=>cases he
def Ct(hk:KdOk X kd):Xb X kd (.type "dict") dctP:=by
 intro pins s σ H xs us Q I r h;obtain⟨O,ds,z,ht,vl,he,q⟩:=h;unfold dctP at he
 split at he
 . cases he;obtain⟨x,rfl,vx⟩:=GJ vl;cases vx with
   |dct hr rm=>
    obtain⟨u,rfl,ru⟩:=vals1 r;cases ru;obtain⟨z,hd,vs,rel,dd⟩:=Ku I hk hr;refine kt_call_dict hd dd (by rw[<-rel.length];exact z) λh' dd' hs=>?_;refine⟨.ref _,_,(I.laid (t':=s.toks) (λb q hq=>?_) (zzN _)<|J7 z (beq_eq_false_iff_ne.mpr<|Ne.symm<|zzQ I.big) rel dd'),rfl,Jt q rm _<|I.hok.fresh<|zzN _⟩;exact(hs.2 b<|zzQ<|zxI hq).trans<|zxH _ hq
 . cases he
def Mq(hc:X.calm=true):Xb X kd (.builtin "max") Nw:=by
 intro pins s σ H xs us Q I r h;obtain⟨O,ds,z,ht,vl,he,q⟩:=h;cases vl with
 |nil=>cases he
 |cons vx vl=>
  cases vl with
  |nil=>
   obtain⟨ds,h0,he⟩:=bS_<|he;cases Pi h0;obtain⟨ns,h1,he⟩:=bS_ he;obtain⟨c,rfl⟩:=zv he;cases vx with
   |lst hr rl=>
    obtain⟨u,rfl,ru⟩:=vals1 r;cases ru;obtain⟨its,rv,p,_⟩:=I.list hr.sq;rw[FO rl h1]at rv;have hi:=intsAre_of rv;obtain⟨ys,e⟩:=hi.allInts.items;have hns:ns=ys.toList.map (·.1):=by rw[<-hi.numsOf,<-nums_intItems,<-e]
    have hsz:0<ys.size:=by
     have h3:=c;rw[hns,zzB,zyT]at h3;exact h3
    have hl:=p.isList;rw[e]at hl;refine max_intList (I.ok.hd hc) hl hsz λv h' tk hv kp=>?_;obtain⟨t,rfl⟩:=intItems_at hv;obtain⟨k1,k2⟩:=argBest_gt (numAt ys)<|ys.size-1;refine⟨.int _,H,I.kept kp,⟨t, ?_⟩,ya q<|.int _⟩
    congr 1
    refine(uy ?_ λa ha=>?_).symm
    . rw[hns,numAt_eq];have hlt:argBest (λi j=>decide (numAt ys i > numAt ys j)) (ys.size-1)<(ys.toList.map (·.1)).length:=by rw[zzB,zyT];exact q1a hsz k1
      rw[zyF,zzE hlt];exact zyZ hlt
    . rw[hns]at ha;obtain⟨j,hj,rfl⟩:=List.getElem_of_mem ha;have hj':=hj;rw[zzB,zyT]at hj;have:=k2 j<|q0Z hsz hj;rw[numAt_eq ys j,zyF,zzE hj']at this;exact this
  |cons vy vl=>
   cases vl with
   |nil=>
    obtain⟨i,j,rfl,rfl,he⟩:=Wa vx vy he;cases he;exact Cz hc pins s σ H _ us Q I r ⟨_,_,rfl,ya q<|.int _⟩
   |cons _ _=>cases he
def Cq(hc:X.calm=true):Xb X kd (.builtin "min") L_:=by
 intro pins s σ H xs us Q I r h;obtain⟨O,ds,z,ht,vl,he,q⟩:=h;unfold L_ at he
 split at he
 . cases he;obtain⟨x,y,rfl,vx,vy⟩:=Hy vl;cases vx;cases vy;exact O1 hc pins s σ H _ us Q I r ⟨_,_,rfl,ya q<|.int _⟩
 . obtain⟨ns,h1,he⟩:=bS_ he;obtain⟨c,rfl⟩:=zv he;obtain⟨x,rfl,vx⟩:=GJ vl;cases vx with
   |lst hr rl=>
    obtain⟨u,rfl,ru⟩:=vals1 r;cases ru;obtain⟨its,rv,p,_⟩:=I.list hr.sq;rw[FO rl h1]at rv;have hi:=intsAre_of rv;obtain⟨ys,e⟩:=hi.allInts.items;have hns:ns=ys.toList.map (·.1):=by rw[<-hi.numsOf,<-nums_intItems,<-e]
    have hsz:0<ys.size:=by
     have h3:=c;rw[hns,zzB,zyT]at h3;exact h3
    have hl:=p.isList;rw[e]at hl;refine min_intList (I.ok.hd hc) hl hsz λv h' tk hv kp=>?_;obtain⟨t,rfl⟩:=intItems_at hv;obtain⟨k1,k2⟩:=argBest_lt (numAt ys)<|ys.size-1;refine⟨.int _,H,I.kept kp,⟨t, ?_⟩,ya q<|.int _⟩
    congr 1
    refine(u4 ?_ λa ha=>?_).symm
    . rw[hns,numAt_eq];have hlt:argBest (λi j=>decide (numAt ys i<numAt ys j)) (ys.size-1)<(ys.toList.map (·.1)).length:=by rw[zzB,zyT];exact q1a hsz k1
      rw[zyF,zzE hlt];exact zyZ hlt
    . rw[hns]at ha;obtain⟨j,hj,rfl⟩:=List.getElem_of_mem ha;have hj':=hj;rw[zzB,zyT]at hj;have:=k2 j<|q0Z hsz hj;rw[numAt_eq ys j,zyF,zzE hj']at this;exact this
 . cases he
end
noncomputable def Za(env:Env):List (Str×NameKind)->List (Str×Addr)->List (Str×Addr)
 | [],cs=>cs
 |(n,k)::r,cs=>Za env r (if k == .free then((n,(env.cells.lookup n).getD 0)::cs)else cs)
def QT(h:∀x ∈ scope.names,x.2 = .free->∃c,env.cells.lookup x.1=some c):closureFor scope env=pure (Za env scope.names []):=by
 have s:∀b i f,
  (∀d g i,f (d,g) i=if g == .free then(do let a <-cellOf env d;pure (.yield ((d,a)::i)))else pure<|.yield i)->
  (∀x ∈ b,x.2 = .free->∃c,env.cells.lookup x.1=some c)->(forIn b i f:Sem _)=pure (Za env b i):=by
  intro b
  induction b with
  |nil=>intro i f _ _;rfl
  |cons x r p=>
   intro i f l m;obtain⟨n,k⟩:=x;rw[List.forIn_cons,l];unfold Za
   by_cases j:(k == .free)=true
   . obtain⟨c,q⟩:=m (n,k) zzF (by simpa using j);rw[if_pos j,if_pos j];have e:cellOf env n=pure c:=by unfold cellOf;rw[q]
     rw[e,q];exact p _ f l λy o=>m y<|zzD _ o
   . rw[if_neg j,if_neg j];exact p _ f l λy o=>m y<|zzD _ o
 simp only[closureFor];rw[s scope.names [] _ (λd g i=>?_) h]
 . rfl
 . rfl
theorem Mm:∀(names:List (Str×NameKind)) (cs:List (Str×Addr)) (p:Str×Addr),p ∈ Za env names cs->p ∈ cs\/((p.1,NameKind.free) ∈ names/\p.2=(env.cells.lookup p.1).getD 0)
 | [],_,_,h=>.inl h
 |(n,k)::r,b,p,h=>by
  unfold Za at h
  rcases Mm r _ p h with h|h
  . by_cases a:(k == .free)=true
    . rw[if_pos a]at h
      rcases zzC.mp h with e|h
      . subst e;have:k = .free:=by simpa using a
        subst this;exact .inr ⟨zzF,rfl⟩
      . exact .inl h
    . rw[if_neg a]at h;exact .inl h
  . exact .inr ⟨zzD _ h.1,h.2⟩
theorem Kz:∀(names:List (Str×NameKind)) (cs:List (Str×Addr)) (p:Str×Addr),p ∈ cs->p ∈ Za env names cs
 | [],_,_,h=>h
 |(n,k)::r,a,p,h=>by
  unfold Za;refine Kz r _ p ?_
  split
  . exact zzD _ h
  . exact h
theorem Mh:∀(names:List (Str×NameKind)) (cs:List (Str×Addr)) (x:Str),(x,NameKind.free) ∈ names->(x,(env.cells.lookup x).getD 0) ∈ Za env names cs
 |(n,k)::r,a,x,h=>by
  unfold Za
  rcases zzC.mp h with e|h
  . cases e;exact Kz r _ _ (by simp)
  . exact Mh r _ x h
theorem Xm:∀{l:List (Str×α)},(∀p ∈ l,p.1=x->p.2=a)->(∃b,(x,b) ∈ l)->l.lookup x=some a
 | [],_,h=>by obtain⟨_,h⟩:=h;cases h
 |(k,v)::r,u,h=>by
  rw[List.lookup_cons];cases hb:x==k with
  |true=>
   have:=u (k,v) zzF (beq_iff_eq.mp hb).symm;exact congrArg some this
  |false=>
   refine Xm (λp c=>u p<|zzD _ c) ?_;obtain⟨b,h⟩:=h
   rcases zzC.mp h with e|h
   . cases e;simp at hb
   . exact⟨b,h⟩
theorem PJ:∀(names:List (Str×NameKind)) (h:Heap) (acc:List (Str×Addr)) (p:Str×Addr),p ∈ cellsFrom h.objs.size names acc->
 p ∈ acc\/((p.1,NameKind.cell) ∈ names/\(pushCells h names).IsCell p.2 none/\h.objs.size<=p.2)
 | [],_,_,_,m=>.inl m
 |(n,k)::r,h,b,p,m=>by
  unfold cellsFrom at m;unfold pushCells
  split at m
  . rename_i a;rw[if_pos a];have e:(h.push {cls:=.type "cell",data:=.cell none}).objs.size=h.objs.size+1:=zxL ..;rw[<-e]at m
    rcases PJ r _ _ p m with m|⟨c,d,f⟩
    . rcases zzC.mp m with g|m
      . subst g;have:k = .cell:=by simpa using a
        subst this;refine .inr ⟨zzF, ?_,zzN _⟩;have z:(h.push {cls:=.type "cell",data:=.cell none}).IsCell h.objs.size none:=⟨_,zxJ _ rfl,rfl⟩;exact z.keeps<|pushCells_keeps r _
      . exact .inl m
    . exact .inr ⟨zzD _ c,d,by rw[e]at f;exact q1o f⟩
  . rename_i a;rw[if_neg a]
    rcases PJ r h b p m with m|⟨c,d,f⟩
    . exact .inl m
    . exact .inr ⟨zzD _ c,d,f⟩
theorem Wv:∀(names:List (Str×NameKind)) (n:Nat) (acc:List (Str×Addr)) (p:Str×Addr),p ∈ acc->p ∈ cellsFrom n names acc
 | [],_,_,_,m=>m
 |(_,k)::r,n,a,p,m=>by
  unfold cellsFrom
  split
  . exact Wv r _ _ p<|zzD _ m
  . exact Wv r _ _ p m
theorem Pd:∀(names:List (Str×NameKind)) (n:Nat) (acc:List (Str×Addr)) (x:Str),(x,NameKind.cell) ∈ names->∃c,(x,c) ∈ cellsFrom n names acc
 |(y,k)::r,n,a,x,m=>by
  unfold cellsFrom
  rcases zzC.mp m with e|m
  . cases e;rw[if_pos<|by decide];exact⟨n,Wv r _ _ _ zzF⟩
  . split
    . exact Pd r _ _ x m
    . exact Pd r _ _ x m
theorem PQ:∀(names:List (Str×NameKind)) (n:Nat) (acc:List (Str×Addr)),(∀p ∈ acc,p.2<n)->(∀p ∈ acc,∀q ∈ acc,p.2=q.2->p.1=q.1)->∀p ∈ cellsFrom n names acc,∀q ∈ cellsFrom n names acc,p.2=q.2->p.1=q.1
 | [],_,_,_,h=>h
 |(y,k)::r,n,c,b,h=>by
  unfold cellsFrom
  split
  . refine PQ r (n+1) _ (λp m=>?_) λp m q a e=>?_
    . rcases zzC.mp m with z|m
      . subst z;exact Nat.lt_succ_self _
      . exact zxA<|b p m
    . rcases zzC.mp m with z|m
      . rcases zzC.mp a with d|a
        . rw[z,d]
        . subst z;have:=b q a;rw[<-e]at this;exact absurd this<|Nat.lt_irrefl _
      . rcases zzC.mp a with d|a
        . subst d;have:=b p m;rw[e]at this;exact absurd this<|Nat.lt_irrefl _
        . exact h p m q a e
  . exact PQ r n c b h
section
variable{M:Model}{A:Around}{E:Value->Shared->Prop}{s:Shared}
noncomputable def VE(scope:Scope)(env:Env)(cl:List (Str×Addr))(L:Addr):Env:=
 {scope:=relabel scope env,locals:=L,globals:=env.globals,cells:=cellsFrom (L+1) scope.names cl,qual:=env.qual,func:=none,code:=env.code,frame:=env.frame,builtins:=env.builtins}
def Fh
 (h:∀h' env',{env' with scope:=relabel scope env}=VE scope env cl s.heap.objs.size->env'.locals=s.heap.objs.size->(∀b o,s.heap.get? b=some o->h'.get? b=some o)->h'.Ns s.heap.objs.size (λ_=>none)->
  (∀p ∈ cellsFrom (s.heap.objs.size+1) scope.names cl,p ∈ cl\/((p.1,NameKind.cell) ∈ scope.names/\h'.IsCell p.2 none/\s.heap.objs.size+1<=p.2))->Q env' {s with heap:=h'}):
 wpAny M A (newFunctionEnv scope env.globals cl [] env.qual none .none<|some env) Q E s:=by
 simp only[newFunctionEnv,Option.isSome_some,if_true];refine zxF<|wpAny_alloc ?_;refine zxF<|wpAny_layCells _ (λd a c=>by cases hkc:a==NameKind.cell<;>simp[hkc]) _ _ _ _ ?_;have e:(s.heap.push {cls:=.type "dict",data:=.dict #[]}).objs.size=s.heap.objs.size+1:=zxL ..;refine zxF<|zxG<|zxG<|h _ _ ?_ rfl (λb o q=>pushCells_keeps _ _ b o<|zxH _ q) ((Heap.Ns.new s.heap _).keeps<|pushCells_keeps _ _) λp m=>?_
 . unfold VE;rw[<-e]
 . rw[<-e]at m
   rcases PJ _ _ _ p m with m|⟨g,i,f⟩
   . exact .inl m
   . exact .inr ⟨g,i,by rw[e]at f;exact f⟩
end
abbrev yI(X:Cx)(N:List Str)(scope:Scope)(cl:List (Str×Addr))(s:Shared)(H:Hp)(fp:List Addr):Cx:=
 {X with N:=N,s₀:=s,H₀:=H,env:=VE scope X.env cl<|s.heap.objs.size+1,outer:=X.stack,ex:=fp,fn:=λx=>scope.names.lookup x==some .cell,pn:=[],xe:=λ_ _=>False}
noncomputable def kS(σ:St):Option Nat->Option V
 |none=>none
 |some j=>(σ[j]?).getD none
def ZY(cap:List (Option Nat))(σ:St):St:=cap.map<|kS σ
noncomputable def Ui(N XN:List Str)(names:List (Str×NameKind))(envNames:List (Str×NameKind))(cap:List (Option Nat)):Bool:=
 N.length==cap.length&&(N.zip cap).all (λp=>match p.2 with|none=>true|some j=>XN[j]? == some p.1&&names.contains (p.1,NameKind.free)) &&
 names.all (λp=>p.2 != .free||envNames.lookup p.1==some .cell||envNames.lookup p.1==some .free)&&decide (names.map (·.1)).Nodup
def C7(X:Cx)(ifs:List Expr)(t:TT):Prop:=
 ∀(pins:List (Addr×Obj)) (s:Shared) (σ:St) (H:Hp) (Q:Bool->Hp->Prop),Inv X pins σ H s->t σ H Q->
  wpAny (model X.prog X.w) X.A (forIn ifs true λc r=>if r=true then do let ok <-isTrue c X.env (eval c X.env);pure (ForInStep.yield ok)else pure<|ForInStep.yield r) (TP X pins σ Q) X.xe s
def ug:C7 X [] (λ_ H Q=>Q true H):=λa s σ H Q I h=>wpAny_tests_nil ⟨H,I,h⟩
def tM(h:PT X c t):C7 X [c] t:=λa s σ H Q I q=>wpAny_tests_one<|h a s σ H Q I q
def Ai(wi:TI)(cap:List (Option Nat))(g:TG)(tt:TT)(te:TE):TE:=λσ H Q=>wi σ H λJ H1=>∃W:Nat->Nat->List V->Hp->Prop,(∃m,W 0 m [] H1)/\∀i m ys H,W i m ys H->ys.length<=sizeLine/\
 ((J.stop i H/\∀p,H p=none->Q (.ref p) (upd H p<|.lst ys))\/(J.go i H/\∀x H',J.yld i H x H'->g x (ZY cap σ) H' λσ2 H2=>(∀(j:Nat) v,(ZY cap σ)[j]? = some (some v)->σ2[j]? = some (some v))/\
   tt σ2 H2 λb H3=>if b=true then ys.length<sizeLine/\te σ2 H3 λy H4=>∃m',m'<m/\W (i+1) m' (ys++[y]) H4 else ∃m',m'<m/\W (i+1) m' ys H3))
section
variable{prog:Program}{w:World}{A:Around}{E:Value->Shared->Prop}{R:Result->Shared->Prop}{s:Shared}
def E3(I:Nat->Shared->Prop)
 (turn:∀n s (E:Value->Shared->Prop),I n s->wpAny (model prog w) A (pyNext it) (λr s₁=>match r with
  |none=>R (.ok .next) s₁
  |some v=>wpAny (model prog w) A (letOwnedTupleGo target it v) (λ_ s₁=>wpAny (model prog w) A (assign target env v) (λ_ s₂=>
   wpAny (model prog w) A (forIn ifs true λc r=>if r=true then do let ok <-isTrue c env (eval c env);pure (ForInStep.yield ok)else pure<|ForInStep.yield r) (λok s₃=>
            if ok=true then wpAny (model prog w) A (eval elt env) (λx s₄=>
             wpAny (model prog w) A (call (.builtin "list.append") [acc,x]) (λ_ s₅=>∃m,m<n/\I m s₅) E s₄) E s₃
            else ∃m,m<n/\I m s₃) E s₂) E s₁) E s₁) E s)
 (n:Nat) (h:I n s):
 codeAny (model prog w) A (.compLoop (.ListComp elt [⟨target,iter,ifs,0⟩] scope pos) 0 it acc env) R s:=by
 refine codeAny_loop rfl I (λn s e=>?_) n h;refine wpAny_noted ?_;rw[compTurn_list];refine zxF<|wpAny_standAt<|zxF<|zxM (turn n s _ e) (λr f b=>?_) λ_ _ a=>a;cases r with
 |none=>exact zxG b
 |some v=>
  refine zxF<|zxM b (λ_ f b=>?_) λ_ _ a=>a;refine zxF<|zxM b (λ_ k g=>zxF<|zxM g (λok l d=>?_) λ_ _ a=>a) λ_ _ a=>a;cases ok with
  |false=>exact zxG ⟨rfl,d⟩
  |true=>
   exact zxF<|zxF<|zxM d (λx o i=>zxF<|zxM i (λ_ p j=>zxG<|zxG ⟨rfl,j⟩) λ_ _ a=>a) λ_ _ a=>a
end
structure CapOk(N XN:List Str)(names:List (Str×NameKind))(envNames:List (Str×NameKind))(cap:List (Option Nat)):Prop where
 len:N.length=cap.length
 at_:∀(i:Nat) x (j:Nat),N[i]? = some x->cap[i]? = some (some j)->XN[j]? = some x/\(x,NameKind.free) ∈ names
 fr:∀p ∈ names,p.2 = .free->envNames.lookup p.1=some .cell\/envNames.lookup p.1=some .free
 nd:(names.map (·.1)).Nodup
def FR(h:Ui N XN names envNames cap=true):CapOk N XN names envNames cap:=by
 unfold Ui at h;simp only[zyC,beq_iff_eq,List.all_eq_true,decide_eq_true_eq]at h;obtain⟨⟨⟨a,b⟩,c⟩,d⟩:=h;refine⟨a,λi x j f g=>?_,λp k e=>?_,d⟩
 . have m:(x,some j) ∈ N.zip cap:=zyA (by rw[List.getElem?_zip_eq_some];exact⟨f,g⟩);have:=b _ m;simp only[zyC,beq_iff_eq]at this;exact⟨this.1,by simpa using this.2⟩
 . have:=c p k;rw[e]at this;simpa using this
def E1{names:List (Str×NameKind)}(h:(names.map (·.1)).Nodup)(m:(x,k) ∈ names)(m':(x,k') ∈ names):k=k':=by
 induction names with
 |nil=>cases m
 |cons p r ih=>
  obtain⟨h1,h2⟩:=zzW.mp<|h
  rcases zzC.mp m with e|m
  . rcases zzC.mp m' with e'|m'
    . rw[<-e]at e';cases e';rfl
    . exact absurd (zxD.mpr ⟨_,m',by rw[<-e]⟩) h1
  . rcases zzC.mp m' with e'|m'
    . exact absurd (zxD.mpr ⟨_,m,by rw[<-e']⟩) h1
    . exact ih h2 m m'
def PB{names:List (Str×NameKind)}(h:(names.map (·.1)).Nodup)(m:(x,k) ∈ names):names.lookup x=some k:=
 Xm (λp a e=>by obtain⟨y,b⟩:=p;cases(e);exact E1 h a m) ⟨k,m⟩
def V4(x):(relabel scope env).names.lookup x=(scope.names.lookup x).map λk=>if(k == .free&&env.scope.kind == .function&&env.kindOf x==some .cell)=true then NameKind.cell else k:=by
 unfold relabel;generalize scope.names=a
 induction a with
 |nil=>rfl
 |cons p r b=>
  obtain⟨n,k⟩:=p;rw[zyS,List.lookup_cons (k:=n)];cases hb:x==n with
  |true=>
   have e:=beq_iff_eq.mp hb;subst e;show List.lookup x ((if _=true then _ else _)::_)=_;show _=some (if _=true then NameKind.cell else k)
   split
   . rw[List.lookup_cons,hb]
   . rw[List.lookup_cons,hb]
  |false=>
   show List.lookup x ((if _=true then _ else _)::_)=_
   split
   . rw[List.lookup_cons,hb];exact b
   . rw[List.lookup_cons,hb];exact b
def S0(I:Inv X pins σ H s)(C:CapOk N X.N scope.names X.env.scope.names cap)(hk:scope.kind = .function)
 (hf:∀b ∈ fp,Gx X pins H b) (ho:∀b ∈ fp,∃o,s.heap.get? b=some o)
 (old:∀b o,s.heap.get? b=some o->h'.get? b=some o) (ns:h'.Ns (s.heap.objs.size+1) (λ_=>none))
 (hc:∀p ∈ cellsFrom (s.heap.objs.size+1+1) scope.names (Za X.env scope.names []),p ∈ Za X.env scope.names []\/((p.1,NameKind.cell) ∈ scope.names/\h'.IsCell p.2 none/\s.heap.objs.size+1+1<=p.2)):
 Inv (yI X N scope (Za X.env scope.names []) s H fp) [] (ZY cap σ) H {s with heap:=h'}:=by
 have has:∀x,(x,NameKind.free) ∈ scope.names->∃c,X.env.cells.lookup x=some c:=λx m=>I.ok.has x<|C.fr _ m rfl;have clo:∀p ∈ Za X.env scope.names [],X.env.cells.lookup p.1=some p.2/\(p.1,NameKind.free) ∈ scope.names:=λp m=>by
  rcases Mm _ _ p m with z|⟨z1,z2⟩
  . cases z
  . obtain⟨c,e⟩:=has _ z1;rw[e]at z2;exact⟨by rw[e];exact congrArg some z2.symm,z1⟩
 have look:∀x c,(cellsFrom _ scope.names _).lookup x=some c->_\/_:=λx c e=>by
  rcases hc _ (mem_of_lookup e)with m|m
  . exact .inl<|clo _ m
  . exact .inr m
 have lt:∀x c,X.env.cells.lookup x=some c->c<s.heap.objs.size:=λx c e=>by obtain⟨v,z⟩:=I.cell x c e;exact z.lt
 have lookF:∀x,(x,NameKind.free) ∈ scope.names->∃c,(cellsFrom _ scope.names _).lookup x=some c/\X.env.cells.lookup x=some c:=λx m=>by
  obtain⟨c,e⟩:=has x m;have m1:=Wv scope.names (s.heap.objs.size+1+1) _ _<|Mh (env:=X.env) scope.names [] x m;refine⟨c,Xm (λp hp ep=>?_) ⟨_,m1⟩,e⟩
  rcases hc p hp with z|z
  . have:=(clo p z).1;rw[ep,e]at this;exact(zzZ this).symm
  . rw[ep]at z;exact absurd (E1 C.nd z.1 m) (by decide)
 have kinds:∀x,((relabel scope X.env).names.lookup x=some .cell\/(relabel scope X.env).names.lookup x=some .free)->(x,NameKind.free) ∈ scope.names\/(x,NameKind.cell) ∈ scope.names:=λx h=>by
  rw[V4]at h;cases e:scope.names.lookup x with
  |none=>rw[e]at h;rcases h with h|h<;>cases h
  |some k=>
   have m:=mem_of_lookup e;cases k with
   |free=>exact .inl m
   |cell=>exact .inr m
   |_=>rw[e]at h;rcases h with h|h<;>(simp at h)
 have lsz:=ns.lt;refine⟨⟨I.ok.mod,hk,I.ok.glob,I.ok.blt,zyW _, ?_, ?_, ?_,I.ok.hd,I.ok.frames,.inl rfl, ?_,I.bs,zzO I.ok.bsz I.sz, ?_, ?_,I.stack,I.stkFree⟩,rfl,I.bare,(Un.kept old),⟨_,ns, ?_⟩, ?_,I.hok.fresh<|zyW _, ?_,(λ_ z=>nomatch z),I.hok.kept old, ?_⟩
 . intro x y c e1 e2;refine PQ scope.names _ _ (λp m=>?_) (λp m q m' e=>?_) (x,c) (mem_of_lookup e1) (y,c) (mem_of_lookup e2) rfl
   . exact zxA<|zxA<|lt _ _ (clo p m).1
   . refine I.ok.inj _ _ _ (clo p m).1 ?_;rw[e];exact(clo q m').1
 . intro x h
   rcases kinds x h with m|m
   . obtain⟨c,e,_⟩:=lookF x m;exact⟨c,e⟩
   . obtain⟨c,e⟩:=Pd scope.names _ _ x m;cases q:(cellsFrom _ scope.names _).lookup x with
     |some c'=>exact⟨c',q⟩
     |none=>
      exfalso;have:=List.lookup_eq_none_iff.mp q (x,c) e;simp at this
 . intro x c hx e;have hx:=hx;have m:=mem_of_lookup<|beq_iff_eq.mp hx
   rcases look x c e with z|z
   . exact absurd (E1 C.nd z.2 m) (by decide)
   . exact zzO (zzO (zyW _)<|zyW _) z.2.2
 . intro b hb;obtain⟨o,e⟩:=ho b hb;refine⟨zzQ<|zxA<|zxI e,λx c ec=>?_⟩
   rcases look x c ec with z|z
   . exact(hf b hb).2.2.2.2.1 x c z.1
   . have:=zxI e;intro q;subst q;exact absurd (zzK this<|zzO (zzO (zyW _)<|zyW _) z.2.2)<|Nat.lt_irrefl _
 . intro b o e hb
   rcases(hf b hb).2.2.2.1 with z|z
   . exact I.ok.noex b o e z
   . exact absurd (zzK (zxI e)<|zzO I.ok.bsz z)<|Nat.lt_irrefl _
 . intro b hb hm
   rcases zzC.mp (I.stkSub b hm)with z|z
   . exact(hf b hb).2.1 z
   . exact(hf b hb).2.2.1 z
 . intro i x v e1 e2 e3;have e2:=e2;unfold ZY at e2;rw[zzI]at e2;cases ec:cap[i]? with
   |none=>rw[ec]at e2;cases e2
   |some c=>
    cases c with
    |none=>rw[ec]at e2;cases e2
    |some j=>
     rw[ec]at e2;have e2:(σ[j]?).getD none=some v:=zzZ e2;obtain⟨xn,m⟩:=C.at_ i x j e1 ec;have es:σ[j]? = some (some v):=by
      cases q:σ[j]? with
      |none=>rw[q]at e2;cases e2
      |some y=>rw[q]at e2;exact congrArg some e2
     have kf:=C.fr _ m rfl;obtain⟨mm,hn,hl⟩:=I.loc;obtain⟨u,r,l⟩:=hl j x v xn es (by rcases kf with k|k;exact .inr<|.inl k;exact .inr<|.inr k);refine⟨u,r,.inr ⟨?_, ?_⟩⟩
     . show(relabel scope X.env).names.lookup x=some .cell\/(relabel scope X.env).names.lookup x=some .free;rw[V4,PB C.nd m];show some (if _ then _ else _)=_\/some (if _ then _ else _)=_
       split
       . exact .inl rfl
       . exact .inr rfl
     . obtain⟨c,ec,eo⟩:=lookF x m;refine⟨c,ec, ?_⟩
       rcases l with⟨k1,_⟩|⟨_,c2,e4,z⟩
       . have k1:X.env.scope.names.lookup x=some .local:=k1
         rcases kf with k|k<;>(rw[k1]at k;cases k)
       . rw[eo]at e4;cases e4;exact z.keeps old
 . intro x c e
   rcases look x c e with z|z
   . obtain⟨v,q⟩:=I.cell x c z.1;exact⟨v,q.keeps old⟩
   . exact⟨none,z.2.1⟩
 . intro x c e
   rcases look x c e with z|z
   . exact I.freeC x c z.1
   . exact I.hok.fresh<|zzO (zzO (zyW _)<|zyW _) z.2.2
 . show _=_;unfold ZY;rw[zzB,C.len]
noncomputable abbrev lobj(its:List Value):Obj:={cls:=.type "list",data:=.seq its.toArray its.length}
section
variable{X:Cx}{pins:List (Addr×Obj)}{σ:St}{H2:Hp}{s2:Shared}{elt tg iter:Expr}{ifs:List Expr}{scope:Scope}{pos:Pos}{N:List Str}{cap:List (Option Nat)}{g:TG}{tt:TT}{te:TE}{wi:TI}
set_option maxHeartbeats 1000000
def L0{Q:VK}{R:Value->Addr->Result->Shared->Prop}
 (hc:X.calm=true) (C:CapOk N X.N scope.names X.env.scope.names cap) (hk:scope.kind = .function)
 (hg:∀cl s H fp,PG (yI X N scope cl s H fp) tg g) (ht:∀cl s H fp,C7 (yI X N scope cl s H fp) ifs tt) (he:∀cl s H fp,PE (yI X N scope cl s H fp) elt te)
 (I2:Inv X pins σ H2 s2) (T:Turn X.prog X.w X.K tg J fp it tn) (st2:tn 0 s2.heap) (f2:∀b ∈ fp,Gx X pins H2 b)
 (W:Nat->Nat->List V->Hp->Prop) (m0:Nat) (w0:W 0 m0 [] H2)
 (turn:∀i m ys H,W i m ys H->ys.length<=sizeLine/\((J.stop i H/\∀p,H p=none->Q (.ref p) (upd H p<|.lst ys))\/(J.go i H/\∀x H',J.yld i H x H'->g x (ZY cap σ) H' λσ2 H2=>(∀(j:Nat) v,(ZY cap σ)[j]? = some (some v)->σ2[j]? = some (some v))/\
  tt σ2 H2 λb H3=>if b=true then ys.length<sizeLine/\te σ2 H3 λy H4=>∃m',m'<m/\W (i+1) m' (ys++[y]) H4 else ∃m',m'<m/\W (i+1) m' ys H3)))
 (fin:∀ys H3 s1 m,Inv X pins σ (upd H3 s2.heap.objs.size<|.lst ys) s1->s1.heap.Ns (s2.heap.objs.size+1) m->Gx X pins (upd H3 s2.heap.objs.size<|.lst ys) (s2.heap.objs.size+1)->
  Q (.ref s2.heap.objs.size) (upd H3 s2.heap.objs.size<|.lst ys)->R (.ref s2.heap.objs.size) (s2.heap.objs.size+1) (.ok .next) s1):
 wpAny (model X.prog X.w) X.A (newList []) (λacc s₃=>wpAny (model X.prog X.w) X.A (newFunctionEnv scope X.env.globals (Za X.env scope.names []) [] X.env.qual none .none<|some X.env) (λcenv s₄=>
  codeAny (model X.prog X.w) X.A (.compStart (.ListComp elt [⟨tg,iter,ifs,0⟩] scope pos) 0 (.ref it) acc {cenv with scope:=relabel scope X.env}) (R acc cenv.locals) s₄) E s₃) E s2:=by
 refine wpAny_newObj_type<|Fh λh' env' eE eL old hns hcells=>?_;have e1:(s2.heap.push {cls:=.type "list",dict:=none,data:=.seq ([]:List Value).toArray}).objs.size=s2.heap.objs.size+1:=zxL ..;dsimp only at eE eL old hns hcells;rw[e1]at eE eL hns hcells;have hD0:(s2.heap.push {cls:=.type "list",dict:=none,data:=.seq ([]:List Value).toArray}).get? s2.heap.objs.size=some (lobj []):=zxJ _ rfl;have hD:=old _ _ hD0;have old':∀b o,s2.heap.get? b=some o->h'.get? b=some o:=λb o q=>old b o<|zxH _ q;have fex:∀b ∈ fp,∃o,s2.heap.get? b=some o:=λb hb=>by obtain⟨o,e,_⟩:=T.obj _ _ st2 b hb;exact⟨o,e⟩
 have flt:∀b ∈ fp,b<s2.heap.objs.size:=λb hb=>by obtain⟨o,e⟩:=fex b hb;exact zxI e
 have I':=S0 I2 C hk f2 fex old' hns hcells;rw[eE,eL];generalize hX:yI X N scope (Za X.env scope.names []) s2 H2 fp=X' at I';have xP:X'.prog=X.prog:=by rw[<-hX]
 have xw:X'.w=X.w:=by rw[<-hX]
 have xK:X'.K=X.K:=by rw[<-hX]
 have xA:X'.A=X.A:=by rw[<-hX]
 have xe:X'.env=VE scope X.env (Za X.env scope.names []) (s2.heap.objs.size+1):=by rw[<-hX]
 have xL:X'.env.locals=s2.heap.objs.size+1:=by rw[xe];rfl
 have xfs:X'.fs=C_ X.stack:=by rw[<-hX]
 have xex:X'.ex=fp:=by rw[<-hX]
 have xs:X'.s₀=s2:=by rw[<-hX]
 have xH:X'.H₀=H2:=by rw[<-hX]
 have xpn:X'.pn=[]:=by rw[<-hX]
 have xc:X'.calm=true:=by rw[<-hX];exact hc
 have xE:X'.xe=λ_ _=>False:=by rw[<-hX]
 have hg':PG X' tg g:=by rw[<-hX];exact hg _ _ _ _
 have ht':C7 X' ifs tt:=by rw[<-hX];exact ht _ _ _ _
 have he':PE X' elt te:=by rw[<-hX];exact he _ _ _ _
 have H2D:=I2.hok.fresh<|zzN _;have Dfs:s2.heap.objs.size ∉ X'.fs:=by
  rw[xfs];intro hm
  rcases zzC.mp (I2.stkSub _ hm)with z|z
  . exact absurd I2.lt (by rw[<-z];exact Nat.lt_irrefl _)
  . exact I2.nofs (zzN _) z
 have DL:s2.heap.objs.size≠X'.env.locals:=by rw[xL];exact zzQ<|Nat.lt_succ_self _
 have pinD:∀{σ':St}{H':Hp}{s':Shared}{its:List Value}{ps:List (Addr×Obj)},Inv X' ps σ' H' s'->s'.heap.get? s2.heap.objs.size=some (lobj its)->H' s2.heap.objs.size=none->Inv X' [(s2.heap.objs.size,lobj its)] σ' H' s':=λI e n=>
  I.pins_of λp hp=>by
   cases zzR.mp hp;exact⟨e,n,DL,Dfs,λv z=>by cases z⟩
 have stat:∀{H':Hp}{its:List Value},(∀b ∈ fp,H' b=none)->∀b ∈ fp,Gx X' [(s2.heap.objs.size,lobj its)] H' b:=λhn b hb=>by
  refine⟨hn b hb, ?_, ?_,.inl (by rw[xex];exact hb),(I'.ok.exf b<|by rw[xex];exact hb).2,λp hp=>?_⟩
  . exact(I'.ok.exf b<|by rw[xex];exact hb).1
  . exact I'.ok.exfs b (by rw[xex];exact hb)
  . rw[xpn,List.nil_append]at hp;cases zzR.mp hp;exact Nat.ne_of_gt<|flt b hb
 have loop:∀n s',(∃i ys its H3,Inv X' [(s2.heap.objs.size,lobj its)] (ZY cap σ) H3 s'/\tn i s'.heap/\(∀b ∈ fp,H3 b=none)/\zP ys its/\W i n ys H3)->
  codeAny (model X.prog X.w) X.A (.compLoop (.ListComp elt [⟨tg,iter,ifs,0⟩] scope pos) 0 (.ref it) (.ref s2.heap.objs.size)<|VE scope X.env (Za X.env scope.names [])<|s2.heap.objs.size+1)
   (R (.ref s2.heap.objs.size)<|s2.heap.objs.size+1) s':=by
  intro n s' h0;refine E3 (λn s'=>∃i ys its H3,Inv X' [(s2.heap.objs.size,lobj its)] (ZY cap σ) H3 s'/\tn i s'.heap/\(∀b ∈ fp,H3 b=none)/\zP ys its/\W i n ys H3) ?_ n h0;clear h0 n s'
  rintro n s3 E' ⟨i,ys,its,H3,I3,st3,fr3,rv3,w3⟩
  obtain⟨hz,hstep⟩:=turn i n ys H3 w3
  rcases hstep with⟨stop,qn⟩|⟨go,step⟩
  . have:=T.done X' xP xw xK xc i _ s3 _ H3 E' I3 (stat fr3) st3 stop;rw[xA]at this;refine zxM this (λr s4 ⟨hr,I4⟩=>?_) λ_ _ z=>z;subst hr;obtain⟨gD,nD,_⟩:=I4.pin (s2.heap.objs.size,lobj its) (by rw[xpn];simp);obtain⟨m,hn,_⟩:=I4.loc;rw[xL]at hn;have b4:=I4.base;rw[xfs,xex,xH,xs]at b4;have nL:H3 (s2.heap.objs.size+1)=none:=by have:=I4.free;rw[xL]at this;exact this
    have neD:∀b o,s2.heap.get? b=some o->b≠s2.heap.objs.size:=λb o e=>zzQ<|zxI e;have neH:∀b u,H2 b=some u->b≠s2.heap.objs.size:=λb u e z=>by rw[z,H2D]at e;cases e
    have ne3:∀b u,H3 b=some u->b≠s2.heap.objs.size:=λb u e z=>by rw[z,nD]at e;cases e
    have hok4:=I4.hok;rw[xP,xw]at hok4;refine fin ys H3 s4 m (I2.call' ?_ ⟨b4.keep,b4.slot,λb o e n hx=>?_,b4.there,λb xs e=>?_,λb o u e=>?_,λb ps e=>?_⟩ ?_ I4.bare λb hb=>?_) hn (I2.fpOk (zyW _)<|by rw[zH<|Nat.ne_of_gt<|Nat.lt_succ_self _];exact nL)<|qn _ nD
    . have:=I4.os;rw[xs]at this;exact this
    . rw[zH<|neD b o e];exact b4.free b o e n hx
    . rw[zH<|neH b _ e];exact b4.tups b xs e
    . rw[zH<|neH b _ e];exact b4.frzs b o u e
    . rw[zH<|neH b _ e];exact b4.tbls b ps e
    . intro b u e
      by_cases hb:b=s2.heap.objs.size
      . subst hb;rw[ye]at e;cases e;exact⟨hz,its,its.length,rv3,gD⟩
      . rw[zH hb]at e;exact(hok4 b u e).stay (λc v _ q=>q) (λc q=>by rw[zH<|ne3 c _ q];exact q) λc xs q=>by rw[zH<|ne3 c _ q];exact q
    . obtain⟨f0,f1,f3,f4,f5,f6⟩:=f2 b hb;exact⟨f4,f1,f5,f6⟩
  . have:=T.item X' xP xw xK xc i _ s3 _ H3 E' I3 (stat fr3) st3 go;rw[xA]at this;refine zxM this (λr s4 ⟨u,hr,h4⟩=>?_) λ_ _ z=>z;subst hr;refine zxM h4 (λ_ s5 ⟨x,H5,I5,r5,y5,st5,fr5⟩=>?_) λ_ _ z=>z;have I5':=I5.pinned (stat fr5)<|T.obj _ _ st5;have h6:=hg' _ s5 _ H5 x u _ I5' r5<|step x H5 y5;rw[xP,xw,xA,xe,xE]at h6;refine zxM h6 (λ_ s6 ⟨σ6,H6,I6,cap6,q6⟩=>?_) λ_ _ z=>z.elim;have h7:=ht' _ s6 σ6 H6 _ I6 q6;rw[xP,xw,xA,xe,xE]at h7;refine zxM h7 (λb s7 ⟨H7,I7,q7⟩=>?_) λ_ _ z=>z.elim;have keep:∀{H8:Hp}{s8:Shared},Inv X' _ σ6 H8 s8->Inv X' [(s2.heap.objs.size,lobj its)] (ZY cap σ) H8 s8/\tn (i+1) s8.heap/\∀b ∈ fp,H8 b=none:=λ{H8 s8} I8=>by
     refine⟨I8.unpinned.weak ?_ cap6,T.keep _ _ _ st5 λb hb o e=>(I8.pin (b,o)<|zzL _<|zzL _<|Wm hb e).1,λb hb=>?_⟩
     . rw[I3.len];exact I8.len.symm
     . obtain⟨o,e,d⟩:=T.obj _ _ st5 b hb;exact(I8.pin (b,o)<|zzL _<|zzL _<|Wm hb e).2.1
    cases b with
    |false=>
     obtain⟨m',hm,w7⟩:=q7;obtain⟨k1,k2,k3⟩:=keep I7;exact⟨m',hm,i+1,ys,its,H7,k1,k2,k3,rv3,w7⟩
    |true=>
     obtain⟨hz2,q7⟩:=q7;have h8:=he' _ s7 σ6 H7 _ I7 q7;rw[xP,xw,xA,xe,xE]at h8;refine zxM h8 (λyv s8 ⟨y,H8,I8,ry,m',hm,w8⟩=>?_) λ_ _ z=>z.elim;obtain⟨k1,k2,k3⟩:=keep I8;obtain⟨gD,nD,_⟩:=k1.pin (s2.heap.objs.size,lobj its) (by rw[xpn];simp);have hl:=rv3.length;refine append_at gD (λh9 sb gD9=>?_) (by rw[zzH];exact q0P hz2 hl);have I9:=(k1.pins_of (pins':=[]) (λ_ z=>nomatch z)).turned (t':=s8.toks) (λb o hb e=>(sb.2 b hb).trans e) nD DL (.inr<|by rw[xs];exact zzN _) (λx c ec z=>by
      obtain⟨v,o,ho,hd⟩:=k1.cell x c ec;rw[z,gD]at ho;cases ho;cases hd) (λp hp=>by rw[xpn]at hp;cases hp)
     have gD9':h9.get? s2.heap.objs.size=some (lobj<|its++[yv]):=by
      rw[gD9]
      congr 1
      show({cls:=.type "list",data:=.seq _ _}:Obj)={cls:=.type "list",data:=.seq (its++[yv]).toArray (its++[yv]).length};rw[zzJ,List.length_singleton,List.push_toArray]
     refine⟨m',hm,i+1,ys++[y],its++[yv],H8,pinD I9 gD9' nD,T.keep _ _ _ k2 λb hb o e=>(sb.2 b<|zzQ<|flt b hb).trans e,k3,rv3.append<|.cons ry .nil,w8⟩
 have start:∃i ys its H3,Inv X' [(s2.heap.objs.size,lobj its)] (ZY cap σ) H3 {s2 with heap:=h'}/\tn i h'/\(∀b ∈ fp,H3 b=none)/\zP ys its/\W i m0 ys H3:=
  ⟨0,[],[],H2,pinD I' hD H2D,T.keep _ _ _ st2 λb hb o e=>old' b o e,λb hb=>(f2 b hb).1,.nil,w0⟩
 exact codeAny_compStart_list (loop m0 _ start)<|T.self _ 0 _ _ _ (T.keep _ _ _ st2 λb hb o e=>old' b o e)<|loop m0 _ start
def D1(hc:X.calm=true)(hi:PI X tg iter wi)(hk:scope.kind = .function)(hcap:Ui N X.N scope.names X.env.scope.names cap=true)
 (hg:∀cl s H fp,PG (yI X N scope cl s H fp) tg g) (ht:∀cl s H fp,C7 (yI X N scope cl s H fp) ifs tt) (he:∀cl s H fp,PE (yI X N scope cl s H fp) elt te)
 (hs:∀x,foldedSetIterable iter X.env x=pure x):PE X (.ListComp elt [⟨tg,iter,ifs,0⟩] scope pos) (Ai wi cap g tt te):=by
 intro a s σ H Q I h;have C:=FR hcap;rw[eval_ListComp];refine wpAny_comprehension_free rfl hs (QT λx m e=>I.ok.has x.1<|C.fr x m e) hk (λy m e=>PB C.nd<|by rw[<-e];exact m) ?_;refine wC (hi a s σ H _ I h) λv O i=>wC i λj k l=>?_;obtain⟨P,S,U,J,V,e,n,T,d,f2,W,⟨p,t⟩,c⟩:=l;subst e;refine L0 hc C hk hg ht he n T d f2 W p t c λY Z z m B D fl q=>?_;refine⟨m,D,λh' E=>?_⟩;obtain⟨F,f1,f3,G,K,L⟩:=fl;exact⟨.ref k.heap.objs.size,_,B.turned (t':=z.toks) (λb o M e=>(E.2 b M).trans e) F f1 G K L,rfl,q⟩
def D_(hN:X.N.Nodup)(hiy:X.N[i]? = some y)(hy:Loc X.env.scope y)(hf:X.fn y=true\/X.env.scope.names.lookup y=some .local)
 (hsw:swapsWith (.ListComp elt [⟨tg,iter,ifs,0⟩] scope pos) (some<|.Name y py) spos.line X.env=pure true)
 (hc:X.calm=true) (hi:PI X tg iter wi) (hk:scope.kind = .function) (hcap:Ui N X.N scope.names X.env.scope.names cap=true)
 (hg:∀cl s H fp,PG (yI X N scope cl s H fp) tg g) (ht:∀cl s H fp,C7 (yI X N scope cl s H fp) ifs tt) (he:∀cl s H fp,PE (yI X N scope cl s H fp) elt te)
 (hs:∀x,foldedSetIterable iter X.env x=pure x):PS X (.Assign [.Name y py] (.ListComp elt [⟨tg,iter,ifs,0⟩] scope pos) spos) (px (Ai wi cap g tt te)<|Of i):=by
 intro c s σ H D I h;have C:=FR hcap;rw[exec_Assign_Name_used _ _ _ _ hsw];refine zxF<|wpAny_standAt<|zxF ?_;refine zxF<|zxM (wpAny_comprehension_free rfl hs (QT λx m e=>I.ok.has x.1<|C.fr x m e) hk (λy m e=>PB C.nd<|by rw[<-e];exact m) ?_) (λ_ d t=>zxG<|zxG t) λ_ _ e=>e;refine wC (hi c s σ H _ I h) λv s1 u=>wC u λB E F=>?_;obtain⟨it,fp,tn,J,H2,e,G,T,k,f2,W,⟨K,L⟩,f⟩:=F;subst e;refine L0 (Q:=λx M=>Of i x σ M D.nx) hc C hk hg ht he G T k f2 W K L f λys H3 s3 m O P fl q=>?_;obtain⟨S,f1,f3,U,p,V⟩:=fl;refine wpAny_assign_Name<|N5 O hN hiy hy (v:=.ref E.heap.objs.size) rfl (λY Z ⟨a,sb,j⟩=>?_) hf;refine⟨m,P.sameBut sb λz=>?_,λh' n=>?_⟩
 . rcases j with j|j
   . exact f1<|z.trans j
   . exact p y a j z.symm
 . exact⟨_,_,Z.turned (t':=Y.toks) (λb o hb e=>(n.2 b hb).trans e) S f1 U p V,q⟩
end
structure ItC(K:zzA)(kd:KD)(F:Addr->Prop)(H:Hp)(J:It)(ds:List wK):Prop where
 all:∀(H2:Hp) (T:Addr->Prop),(∀b u,H b=some u->H2 b=some u)->(∀a,T a->H a=none/\H2 a≠none)->∀i,(i<ds.length->J.go i H2)/\(ds.length<=i->J.stop i H2)/\
  ∀v H3,J.yld i H2 v H3->(∀b o,H2 b=some o->H3 b=some o)/\∀x,ds[i]? = some x->Rp K kd (λa=>x.1=true/\(F a\/T a)) H3 v x.2
def eB(K:zzA)(kd:KD)(f:IF):TI:=λσ H R=>∃F B ad as ds as',Rel K kd F B [] ad as σ H/\f as=some (ds,as')/\
 ∀J ad' H',Rel K kd F B [] ad' as' σ H'->Grow (Gw [] ad) H (Gw [] ad') H'->ItC K kd (Lv F B (Gw [] ad') true) H' J ds->R J H'
@[irreducible] def D0(X:Cx)(kd:KD)(tg iter:Expr)(f:IF):Prop:=PI X tg iter<|eB X.K kd f
def Ln(os:List O):List wK:=os.map λo=>match o with | .lf st d=>(st,d)|o=>(false,o.toD)
def ig(as:AS):RV->Option (List wK)
 | .ow o=>Rj (o.str,o.toD)
 | .bo i=>match as[i]? with
  |some (some (.nd .ls os))=>some (Ln os)
  |some (some (.nd .tp os))=>some (Ln os)
  |_=>none
def xC(f:EF):IF:=λas=>(f as).bind λp=>(ig p.2 p.1).bind λds=>some (ds,p.2)
section
variable{K:zzA}{kd:KD}{F B:Addr->Prop}{G:Addr->Prop}{T:List Addr}{ad:Ad}{as:AS}{σ:St}{H H':Hp}
inductive RpC(K:zzA)(kd:KD)(F:Addr->Prop)(H:Hp):List V->List wK->Prop
 |nil:RpC K kd F H [] []
 |cons {v:V}{x:wK}{vs:List V}{ds:List wK}:Rp K kd (λa=>x.1=true/\F a) H v x.2->RpC K kd F H vs ds->RpC K kd F H (v::vs) (x::ds)
theorem RpC.length(h:RpC K kd F H vs ds):vs.length=ds.length:=by
 induction h with
 |nil=>rfl
 |cons _ _ ih=>exact congrArg (· + 1) ih
def RpC.get{i:Nat}(h:RpC K kd F H vs ds)(e:ds[i]? = some x):∃v,vs[i]? = some v/\Rp K kd (λa=>x.1=true/\F a) H v x.2:=by
 induction h generalizing i with
 |nil=>simp at e
 |cons h r ih=>
  cases i with
  |zero=>simp at e;subst e;exact⟨_,rfl,h⟩
  |succ i=>
   obtain⟨v,h1,h2⟩:=ih (by simpa using e);exact⟨v,by simpa using h1,h2⟩
def Rp.since{T}(k:∀b u,H b=some u->H' b=some u)(hT:∀a,T a->H a=none)(h:Rp K kd Ob H v d):Rp K kd (VA Ob T) H' v d:=
 Rp.grow (W':=T) (H':=H') ⟨λb u q _=>k b u q,λb z=>.inr<|hT b z⟩ (h.less λa z=>z.elim id False.elim)
def G2{st}(h:RpL K kd (Lv F B G st) H vs ds):RpC K kd (Lv F B G true) H vs (kids st ds):=
 RpL.ind (P:=λvs ds=>RpC K kd _ H vs<|kids st ds) .nil (λ{v d vs ds} h _ ih=>by
  refine .cons (x:=(zC d||st,d)) ?_ ih;cases e:zC d with
  |true=>exact h.flat e
  |false=>
   refine h.less λa z=>?_;have zs:st=true:=z.1;rw[zs];exact z.2) h
def rB{os}(h:vR K kd F B G H vs os fp):RpC K kd (Lv F B G true) H vs (Ln os):=
 RoL.ind (P:=λvs os _=>RpC K kd _ H vs<|Ln os) .nil (λ{v o vs os fp fq} h _ ih=>by
  have ha:=G_ h;refine .cons ?_ ih;cases h with
  |lf rp=>exact rp.less λa z=>(by have zs:=z.1;dsimp only at zs;rw[zs];exact z.2)
  |ls=>exact ha.less λa z=>nomatch z.1
  |dc=>exact ha.less λa z=>nomatch z.1
  |ob=>exact ha.less λa z=>nomatch z.1
  |tp=>exact ha.less λa z=>nomatch z.1) h
def L4(h:Vp K H a vs)(r:RpC K kd F H vs ds):ItC K kd F H (jZ K a) ds:=⟨λH3 T k hT i=>by
 have hr3:Vp K H3 a vs:=by
  rcases h with(h|⟨o,h⟩)|h
  . exact .inl<|.inl<|k _ _ h
  . exact .inl<|.inr ⟨o,k _ _ h⟩
  . exact .inr h
 refine⟨λhi=>?_,λhi=>⟨_,hr3,by rw[r.length];exact hi⟩,λv H4 hy=>?_⟩
 . obtain⟨u,hu,_⟩:=r.get<|zzE hi;exact⟨_,u,hr3,hu⟩
 . obtain⟨rfl,hv⟩:=hy;refine⟨λ_ _ z=>z,λd hd=>?_⟩;obtain⟨u,hu,ru⟩:=r.get hd;have:=hv _ hr3;rw[hu]at this;cases this;exact(ru.since k λa z=>(hT a z).1).less λa z=>z.2.elim (λy=>.inl ⟨z.1,y⟩) .inr⟩
def Hw(h:UE K H a vs)(r:RpC K kd F H vs ds):ItC K kd F H (j_ K a) ds:=⟨λH3 T k hT i=>by
 have hr3:UE K H3 a vs:=by
  rcases h with(h|⟨o,h⟩)|h
  . exact .inl<|.inl<|k _ _ h
  . exact .inl<|.inr ⟨o,k _ _ h⟩
  . exact .inr h
 refine⟨λhi=>?_,λhi=>⟨_,hr3,by rw[r.length];exact hi⟩,λv H4 hy=>?_⟩
 . obtain⟨u,hu,_⟩:=r.get<|zzE hi;exact⟨_,u,hr3,hu⟩
 . obtain⟨rfl,hv⟩:=hy;refine⟨λ_ _ z=>z,λd hd=>?_⟩;obtain⟨u,hu,ru⟩:=r.get hd;have:=hv _ hr3;rw[hu]at this;cases this;exact(ru.since k λa z=>(hT a z).1).less λa z=>z.2.elim (λy=>.inl ⟨z.1,y⟩) .inr⟩
def DT(lo)(n:Nat):ItC K kd F H (nu lo n) (y4 lo n):=⟨λH2 T k hT i=>by
 have hl:(y4 lo n).length=n:=by unfold y4;simp
 refine⟨λhi=>by rw[hl]at hi;exact hi,λhi=>by rw[hl]at hi;exact hi,λv H3 hy=>?_⟩;obtain⟨rfl,rfl⟩:=hy;refine⟨λ_ _ z=>z,λd hd=>?_⟩;have hi:i<n:=by rw[<-hl];exact(zzG.mp hd).1
 unfold y4 at hd;rw[zzI,List.getElem?_range hi]at hd;cases hd;exact .int _⟩
end
def SU(he:AE X kd e fa):D0 X kd tg e (xC fa):=by
 with_unfolding_all (
 intro pins s σ H R I h;obtain⟨F,B,ad,as,ds,as',Rl,e,q⟩:=h;obtain⟨⟨p,as1⟩,h1,e⟩:=bS_<|e;obtain⟨ys,h2,e⟩:=bS_ e;cases e;cases p with
 |ow o=>
  have h2:Rj _=some ds:=h2;generalize hd:o.toD=d at h2;cases d with
  |lst xs=>
   cases h2;refine EG he pins s σ H R I ⟨F,B,ad,as,_,as1,Rl,h1,λv T1 ad1 H1 R1 rv1 g1=>?_⟩;have rp:=Hs R1 rv1;rw[hd]at rp;cases rp with
   |lst hn hr rl=>exact⟨_,rfl,⟨_,.inl hr⟩,q _ ad1 H1 R1.drop (g1.trans<|Grow.less Gw.drop)<|L4 (.inl hr)<|G2 rl⟩
   |lstK a b c rl=>exact⟨_,rfl,⟨_,.inr ⟨_,_,_,a,rfl,rfl,rfl,b,c⟩⟩,q _ ad1 H1 R1.drop (g1.trans<|Grow.less Gw.drop)<|L4 (.inr ⟨_,_,_,a,rfl,rfl,rfl,b,c⟩)<|G2 rl⟩
  |tup xs=>
   cases h2;refine Sn he pins s σ H R I ⟨F,B,ad,as,_,as1,Rl,h1,λv T1 ad1 H1 R1 rv1 g1=>?_⟩;have rp:=Hs R1 rv1;rw[hd]at rp;have go:∃a ys,v = .ref a/\UE X.K H1 a ys/\RpL X.K kd (Lv F B (Gw [] ad1) o.str) H1 ys xs:=by
    cases rp with
    |tup n h r=>exact⟨_,_,rfl,.inl h,r⟩
    |tupK a b c e f r=>exact⟨_,_,rfl,.inr ⟨_,_,_,a,b,c,e,f⟩,r⟩
   obtain⟨a,ys,rfl,hs,rl⟩:=go;exact⟨_,rfl,⟨_,hs⟩,q _ ad1 H1 R1.drop (g1.trans<|Grow.less Gw.drop)<|Hw hs<|G2 rl⟩
  |_=>cases h2
 |bo i=>
  have h2:(match as1[i]? with|some (some<|.nd .ls os)=>some _|some (some<|.nd .tp os)=>some _|_=>none)=some ds:=h2;cases k:as1[i]? with
  |none=>rw[k]at h2;cases h2
  |some s0=>
   rw[k]at h2
   match s0,h2,k with
   |some (.nd .ls os),h2,k=>
    cases h2;refine EG he pins s σ H R I ⟨F,B,ad,as,_,as1,Rl,h1,λv T1 ad1 H1 R1 rv1 g1=>?_⟩;obtain⟨rfl,hs⟩:=rv1;obtain⟨w,hw,ro⟩:=R1.sl i _ k;rw[hs]at hw;cases hw;generalize hfp:ad1 i=fp at ro;cases ro with
    |ls hH rl=>exact⟨_,rfl,⟨_,.inl<|.inl hH⟩,q _ ad1 H1 R1 g1<|L4 (.inl<|.inl hH)<|rB rl⟩
   |some (.nd .tp os),h2,k=>
    cases h2;refine Sn he pins s σ H R I ⟨F,B,ad,as,_,as1,Rl,h1,λv T1 ad1 H1 R1 rv1 g1=>?_⟩;obtain⟨rfl,hs⟩:=rv1;obtain⟨w,hw,ro⟩:=R1.sl i _ k;rw[hs]at hw;cases hw;generalize hfp:ad1 i=fp at ro;cases ro with
    |tp n hH rl=>exact⟨_,rfl,⟨_,.inl<|.inl hH⟩,q _ ad1 H1 R1 g1<|Hw (.inl<|.inl hH)<|rB rl⟩)
def CM(hg:Gl X "range")(hm:X.mg "range"=none)(ha:AA X kd [a] fr)(hs:starEach [a] X.env=[(false,eval a X.env)]):D0 X kd tg (.Call (.Name "range" p) [a] [] pos) (yB fr yO):=by
 with_unfolding_all (
 intro pins s σ H R I h;obtain⟨F,B,ad,as,ds,as',Rl,e,q⟩:=h;obtain⟨⟨ps,as1⟩,h1,e⟩:=bS_<|e;obtain⟨⟨xs,lv⟩,h2,e⟩:=bS_ e;obtain⟨ys,h3,e⟩:=bS_ e;cases e;obtain⟨j,rfl,h3⟩:=OG h3
 . obtain⟨hj,e3⟩:=zv h3;cases e3;refine MD hg hm ha hs pins s σ H R I ⟨F,B,ad,as,ps,_,Rl,h1,λvs ad1 H1 R1 rv1 g1=>?_⟩;have vl:=UY R1 rv1 h2;cases vl with
   |cons v1 v2=>
    cases v2;cases v1;exact⟨j,rfl,hj.1,hj.2,q _ ad1 H1 R1 g1<|DT 0 _⟩)
noncomputable def gU(as:AS):Option Nat->Option O
 |none=>none
 |some j=>match as[j]? with
  |some (some (.lf st d))=>some (.lf st d)
  |some (some o)=>some (.lf false o.toD)
  |_=>none
def Z6(cap:List (Option Nat))(as:AS):AS:=cap.map<|gU as
def xF(g:GF)(tt:TF)(fe:EF)(as0:AS):List wK->Option (List O)
 | []=>some []
 |x::r=>(g x as0).bind λas1=>(tt as1).bind λb=>if b.1=true then(fe b.2).bind λp=>(t7 p.2 p.1).bind λq=>if q.1.str=true then(xF g tt fe as0 r).bind λos=>some (q.1::os)else none
  else xF g tt fe as0 r
def zS(fi:IF)(cap:List (Option Nat))(g:GF)(tt:TF)(fe:EF):EF:=λas=>(fi as).bind λp=>if p.1.length<=sizeLine then(xF g tt fe (Z6 cap p.2) p.1).bind λos=>some (.ow<|.nd .ls os,p.2)else none
def yx:TF:=λas=>some (true,as)
section
variable{K:zzA}{kd:KD}{F B:Addr->Prop}{T:List Addr}{ad:Ad}{as:AS}{σ:St}{H H':Hp}{cap:List (Option Nat)}
def uu(R:Rel K kd F B [] ad as σ H)(k:∀b u,H b=some u->H' b=some u)(hT:∀a ∈ T,H a=none)(hT':∀a ∈ T,H' a≠none):
 Rel K kd (VA (Lv F B (Gw [] ad) true) (· ∈ T)) (λ_=>False) [] (λ_=>[]) (Z6 cap as) (ZY cap σ) H':=by
 have no:∀a,¬Gw [] (λ_=>[]) a:=λa z=>z.elim (λy=>nomatch y) λ⟨_,y⟩=>nomatch y;have kn:∀a,H a≠none->H' a≠none:=λa z=>by
  cases e:H a with
  |none=>exact absurd e z
  |some u=>rw[k a u e];simp
 have up:∀{st:Bool}{v:V}{d:D},Rp K kd (λa=>st=true/\Lv F B (Gw [] ad) true a) H v d->Rp K kd (Lv (VA _ (· ∈ T)) (λ_=>False) _ st) H' v d:=λ{st v d} h=>by
  have:=Rp.grow (W':=(· ∈ T)) (H':=H') ⟨λb u q _=>k b u q,λb z=>.inr<|hT b z⟩<|h.less λa z=>z.elim id False.elim;refine this.less λa z=>?_
  rcases z with(⟨z1,z2⟩|z)|z
  . rcases z2 with z2|z2
    . exact .inl ⟨z1,z2⟩
    . exact .inr z2
  . exact z.elim
  . exact(no a z).elim
 refine⟨by unfold Z6 ZY;rw[zzB,zzB],λ_ _=>rfl,λ_=>zyJ,(λ_ _ _ z=>nomatch z),zyJ,(λ_ _ _ z=>nomatch z),λa z=>z.elim (λy=>kn a<|R.trk true a y)<|hT' a,(λ_ z=>z.elim),λa z=>(no a z).elim,λi s e=>?_⟩;unfold Z6 at e;rw[zzI]at e;obtain⟨c,hc,rfl⟩:=zzX.mp e;have es:(ZY cap σ)[i]? = some (kS σ c):=by
  unfold ZY;rw[zzI,hc];rfl
 rw[es];cases c with
 |none=>rfl
 |some j=>
  show KS _ _ _ _ _ _ (match as[j]? with|some (some<|.lf st d)=>some _|some (some o)=>some _|_=>none) _ _;cases k2:as[j]? with
  |none=>rfl
  |some s0=>
   cases s0 with
   |none=>rfl
   |some o=>
    obtain⟨v,hv,ro⟩:=R.sl j _ k2;cases o with
    |lf st d=>
     have e0:ad j=[]:=by
            generalize hfp:ad j=fp at ro;cases ro;rfl
     rw[e0]at ro;refine⟨v,by show some ((σ[j]?).getD none)=_;rw[hv];rfl,.lf<|up ?_⟩;exact(Kg ro).less λa z=>by have zs:=z.1;rw[zs];exact z.2
    |nd kk os=>exact⟨v,by show some ((σ[j]?).getD none)=_;rw[hv];rfl,.lf<|up ((G_ ro).less λa z=>nomatch z.1)⟩
def Iy(hS:∀i ∈ S,cap[i]? = some none)(h:al K kd (zS fi cap g tt fe) σ H Q):
 Ai (eB K kd fi) cap (jI K kd S g) (uj K kd tt) (al K kd fe) σ H Q:=by
 obtain⟨F,B,ad,as,r,as',R,e,q⟩:=h;obtain⟨⟨ds,as1⟩,h1,e⟩:=bS_<|e
 by_cases hz:ds.length<=sizeLine
 . have e:(if ds.length<=sizeLine then(xF g tt fe (Z6 cap as1) ds).bind λos=>some (RV.ow<|.nd .ls os,as1)else none)=some (r,as'):=e;rw[if_pos hz]at e;obtain⟨os,h2,e⟩:=bS_ e;cases e;refine⟨F,B,ad,as,ds,as',R,h1,λJ ad1 H1 R1 g1 it=>?_⟩;refine⟨λi m ys H3=>m+i=ds.length/\∃T os1 os2,os=os1++os2/\xF g tt fe (Z6 cap as') (ds.drop i)=some os2/\os1.length<=i/\T.Nodup/\(∀a ∈ T,H1 a=none/\H3 a≠none)/\(∀b u,H1 b=some u->H3 b=some u)/\
    RoL (λ_ v d=>Rp K kd (VA (Lv F B (Gw [] ad1) true) (· ∈ T)) H3 v d) (λa=>¬VA (Lv F B (Gw [] ad1) true) (· ∈ T) a) H3 ys os1 T,⟨ds.length,rfl,[],[],os,rfl,h2,zzN _,zyJ,(λ_ m=>nomatch m),(λ_ _ z=>z),.nil⟩, ?_⟩
   rintro i m ys H3 ⟨hm,T,os1,os2,eo,ec,hl,tnd,tf,k3,rl⟩
   obtain⟨i1,i2,i3⟩:=it.all H3 (· ∈ T) k3 tf i;have yl:=rl.length;refine⟨by omega, ?_⟩
   by_cases hi:i<ds.length
   . refine .inr ⟨i1 hi,λv H4 hy=>?_⟩;obtain⟨k4,rp⟩:=i3 v H4 hy;rw[zyQ hi]at ec;obtain⟨as2,e2,ec⟩:=bS_<|ec;obtain⟨⟨b,as3⟩,e3,ec⟩:=bS_ ec;have k14:=λb u h=>k4 b u<|k3 b u h;have kn4:∀a,H3 a≠none->H4 a≠none:=λa z=>by
      cases e:H3 a with
      |none=>exact absurd e z
      |some u=>rw[k4 a u e];simp
     have R4:=uu (cap:=cap) R1 k14 (λa z=>(tf a z).1) λa z=>kn4 a (tf a z).2;have no:∀a,¬Gw [] (λ_=>[]) a:=λa z=>z.elim (λy=>nomatch y) λ⟨_,y⟩=>nomatch y;refine⟨_,_,_,_,ds[i],as2,R4,(rp _<|zzE hi).less λa z=>?_,e2,λσ5 ad5 H5 R5 g5 keep5=>⟨λj w hw=>?_,_,_,ad5,as2,b,as3,R5,e3,λad6 H6 R6 g6=>?_⟩⟩
     . rcases z with(z|z)|z
       . exact z
       . exact z.elim
       . exact(no a z).elim
     . rw[keep5 j λz=>?_]
       . exact hw
       . have:=hS j z;unfold ZY at hw;rw[zzI,this]at hw;cases hw
     . -- what stood is kept
       have g46:=g5.trans g6;have k46:=λb u h=>g46.keep b u h<|no b;have k36:=λb u h=>k46 b u<|k4 b u h;have kn6:∀a,H3 a≠none->H6 a≠none:=λa z=>by
        cases e:H3 a with
        |none=>exact absurd e z
        |some u=>rw[k36 a u e];simp
       have up:∀{H7:Hp}{T2:List Addr},_->_->RoL (λ_ v d=>Rp K kd (VA _ (· ∈ T++T2)) H7 v d) (λa=>¬VA _ (· ∈ T++T2) a) H7 ys os1 T:=λ{H7 T2} k7 f7=>
        RoL.mono (λst v d r=>(r.since k7 f7).less λa z=>z.elim (λy=>.inl<|.inl y) λy=>(zzM.mp y).elim (λx=>.inl<|.inr x) .inr)
            (λa vs n e=>⟨λz=>z.elim (λy=>n<|.inl y) λy=>(zzM.mp y).elim (λx=>n<|.inr x) λx=>(by have:=f7 a x;rw[this]at e;cases e),k7 _ _ e⟩) (λa _ u h=>k7 a u h) rl
       cases b with
       |false=>
        have:=up (T2:=[]) k36 (λ_ m=>nomatch m);rw[zyE]at this;exact⟨m-1,q0s hm hi,q0l hm hi,T,os1,os2,eo,ec,Nat.le_succ_of_le hl,tnd,λa z=>⟨(tf a z).1,kn6 a (tf a z).2⟩,λb u h=>k36 b u<|k3 b u h,this⟩
       |true=>
        rw[if_pos rfl]at ec;obtain⟨⟨p,as7⟩,e7,ec⟩:=bS_ ec;obtain⟨⟨o,as8⟩,e8,ec⟩:=bS_ ec
        by_cases hs:o.str=true
        . have ec:=ec;rw[if_pos hs]at ec;obtain⟨os3,e9,ec⟩:=bS_ ec;cases ec;refine⟨by omega,_,_,ad6,as3,p,as7,R6,e7,λy T2 ad7 H7 R7 rv7 g7=>?_⟩;obtain⟨ad8,R8,ro8,le8⟩:=LX R7 rv7 e8;have g47:=g46.trans g7;have k47:=λb u h=>g47.keep b u h<|no b;have k37:=λb u h=>k47 b u<|k4 b u h;have f42:=λa z=>(g47.own a<|.inl z).resolve_left<|no a;have f32:∀a ∈ T2,H3 a=none:=λa z=>by
             cases e:H3 a with
             |none=>rfl
             |some u=>have:=k4 a u e;rw[f42 a z]at this;cases this
          have rt:=Eo R8 R8.tnd (λa z=>.inl z) ro8 hs;have ro9:Ro (λ_ v d=>Rp K kd (VA _ (· ∈ T++T2)) H7 v d) (λa=>¬VA _ (· ∈ T++T2) a) H7 y o T2:=
             Ro.mono (λst v d r=>r.less λa z=>z.elim (λy=>.inl<|.inl y) λy=>(zzM.mp y).elim (λx=>.inl<|.inr x) .inr)
              (λa vs n e=>⟨λz=>n<|z.elim (λy=>.inl<|.inl y) λy=>(zzM.mp y).elim (λx=>.inl<|.inr x) .inr,e⟩) (λ_ _ _ h=>h) rt.ro
          refine⟨m-1,q0s hm hi,q0l hm hi,T++T2,os1++[o],os3,by rw[eo,zxC];rfl,e9,by rw[zzJ,List.length_singleton];omega,zxE.mpr ⟨tnd,rt.nd,λa z b z' e=>?_⟩,λa z=>?_,λb u h=>k37 b u<|k3 b u h,(up k37 f32).append<|RoL.one ro9⟩
          . subst e;exact(tf a z).2<|f32 a z'
          . rcases zzM.mp z with z|z
            . refine⟨(tf a z).1, ?_⟩;cases e:H3 a with
              |none=>exact absurd e (tf a z).2
              |some u=>rw[k37 a u e];simp
            . refine⟨?_,rt.tr a z⟩;cases e:H1 a with
              |none=>rfl
              |some u=>have:=k3 a u e;rw[f32 a z]at this;cases this
        . have ec:=ec;rw[if_neg hs]at ec;cases ec
   . refine .inl ⟨i2<|q0q hm hi,λp hp=>?_⟩;rw[List.drop_eq_nil_of_le<|q0q hm hi]at ec;cases ec;rw[zyE]at eo;subst eo;have pT:=λz=>(tf p z).2 hp;have H1p:H1 p=none:=by
      cases e:H1 p with
      |none=>rfl
      |some u=>have:=k3 p u e;rw[hp]at this;cases this
     have kp:∀b u,H3 b=some u->upd H3 p (.lst ys) b=some u:=λb u h=>by rw[zH<|zY h hp];exact h
     obtain⟨R9,g9⟩:=R1.news (T':=p::T) (H':=upd H3 p<|.lst ys) (zzW.mpr ⟨pT,tnd⟩) (λa z=>(zzC.mp z).elim (λe=>by rw[e];exact H1p) λz=>(tf a z).1) (λb u h=>kp b u<|k3 b u h) (λa z=>by
      rcases zzC.mp z with e|z
      . rw[e,ye];simp
      . cases e:H3 a with
        |none=>exact absurd e (tf a z).2
        |some u=>rw[kp a u e];simp)
     refine q _ (p::T) ad1 _ R9 (.ls ye ?_)<|g1.trans g9;have le:∀st a,Lv F B (Gw (p::T) ad1) st a->VA (VA (Lv F B (Gw [] ad1) true) (· ∈ T)) (· = p) a:=λst a z=>by
      rcases z with(z|z)|z|z
      . exact .inl<|.inl<|.inl<|.inl ⟨rfl,z.2⟩
      . exact .inl<|.inl<|.inl<|.inr z
      . exact(zzC.mp z).elim .inr λy=>.inl<|.inr y
      . exact .inl<|.inl<|.inr<|.inr z
     exact RoL.mono (λst v d r=>(r.since kp λa z=>by rw[z];exact hp).less<|le st) (λa vs n e=>⟨λz=>(le true a z).elim n λy=>(by rw[y,hp]at e;cases e),kp _ _ e⟩) (λa _ u h=>kp a u h) rl
 . have e:=e;rw[if_neg hz]at e;cases e
end
section
variable{X:Cx}{kd:KD}{elt tg iter e a b c:Expr}{es ifs:List Expr}{scope:Scope}{pos:Pos}{N:List Str}{cap:List (Option Nat)}{g:GF}{tt:TF}{fe fa fb:EF}{fi:IF}{S:List Nat}{fr:AF}{fd:DF}
def M9:C7 X [] (uj X.K kd yx):=λa s σ H Q I h=>by
 obtain⟨F,B,c,as,b,d,R,e,q⟩:=h;cases e;exact ug a s σ H Q I<|q c H R Grow.refl
def tL(h:AT X kd c tt):C7 X [c] (uj X.K kd tt):=by with_unfolding_all exact(tM h)
def Ed(hc:X.calm=true)(hi:D0 X kd tg iter fi)(hk:scope.kind = .function)(hcap:Ui N X.N scope.names X.env.scope.names cap=true)(hS:S.all (λi=>cap[i]? == some none)=true)
 (hg:∀cl s H fp,AG (yI X N scope cl s H fp) kd tg S g) (ht:∀cl s H fp,C7 (yI X N scope cl s H fp) ifs<|uj X.K kd tt) (he:∀cl s H fp,AE (yI X N scope cl s H fp) kd elt fe)
 (hs:∀x,foldedSetIterable iter X.env x=pure x):AE X kd (.ListComp elt [⟨tg,iter,ifs,0⟩] scope pos) (zS fi cap g tt fe):=by with_unfolding_all exact(yo (D1 (g:=jI X.K kd S g) (te:=al X.K kd fe) hc hi hk hcap hg ht he hs) λσ H Q h=>Iy (λi m=>by simpa using List.all_eq_true.mp hS i m) h)
def Dt(hN:X.N.Nodup)(hiy:X.N[i]? = some y)(hy:Loc X.env.scope y)(hf:X.fn y=true\/X.env.scope.names.lookup y=some .local)
 (hsw:swapsWith (.ListComp elt [⟨tg,iter,ifs,0⟩] scope pos) (some<|.Name y py) spos.line X.env=pure true)
 (hc:X.calm=true) (hi:D0 X kd tg iter fi) (hk:scope.kind = .function) (hcap:Ui N X.N scope.names X.env.scope.names cap=true) (hS:S.all (λi=>cap[i]? == some none)=true)
 (hg:∀cl s H fp,AG (yI X N scope cl s H fp) kd tg S g) (ht:∀cl s H fp,C7 (yI X N scope cl s H fp) ifs<|uj X.K kd tt) (he:∀cl s H fp,AE (yI X N scope cl s H fp) kd elt fe)
 (hs:∀x,foldedSetIterable iter X.env x=pure x):B2 X kd (.Assign [.Name y py] (.ListComp elt [⟨tg,iter,ifs,0⟩] scope pos) spos) (zp z i<|zS fi cap g tt fe):=by with_unfolding_all exact(xR (D_ (g:=jI X.K kd S g) (te:=al X.K kd fe) hN hiy hy hf hsw hc hi hk hcap hg ht he hs) λD σ H h=>by
 obtain⟨F,B,c,as,o,R,e,q⟩:=h;obtain⟨⟨p,a⟩,d,e⟩:=bS_<|e;obtain⟨⟨y,f⟩,j,e⟩:=bS_ e;obtain⟨k,e⟩:=zv e;cases e;refine Iy (λi m=>by simpa using List.all_eq_true.mp hS i m) ⟨F,B,c,as,p,a,R,d,λv A n r t u g=>?_⟩;obtain⟨b,R2,w⟩:=SG t u j k;exact q _ b r R2<|g.trans<|Grow.less w)
def OL(F:FnOk X.prog X.w X.K X.mg X.base vI k f fdt ps (Tf X.K kd gg))(hr:Room k X.A)(hg:Gl X x)(hm:X.mg x=some (.ref f))(hk:W.keepIn X.K (.ref f)=true)
 (hb:Binds X.K fdt ps []) (hx:Zc vI X (λ_ _ _=>False)) (ha:AA X kd (e::es) fr) (hdb:(x==("__debug__":Str))=false) (he:starEach (e::es) X.env=(false,eval e X.env)::starEach es X.env) (hpl:(backTo pos<|starEach es X.env).any (·.1)=false):
 AE X kd (.Call (.Name x p) (e::es) [] pos) (zh fr gg):=by with_unfolding_all exact(yo (Om F hr hg hm hk hb .nil hx ha hdb he hpl) λσ H Q h=>ph h)
def pz{id}(hc:Xb X kd (.builtin id) gg)(hg:Gl X x)(hm:X.mg x=none)(hv:bootBuiltins x=some (.builtin id))(ha:AA X kd (e::es) fr)(hn:x≠"__name__")(hdb:(x==("__debug__":Str))=false)
 (he:starEach (e::es) X.env=(false,eval e X.env)::starEach es X.env) (hpl:(backTo pos<|starEach es X.env).any (·.1)=false):AE X kd (.Call (.Name x p) (e::es) [] pos) (fP fr gg):=by with_unfolding_all exact(yo (Lp hc hg hm hv ha hn hdb he hpl) λσ H Q h=>fE (λ_ _ _ z=>z) h)
def o4(hc:Xb X kd (.type T) gg)(hg:Gl X x)(hm:X.mg x=none)(hv:bootBuiltins x=some (.type T))(ha:AA X kd (e::es) fr)(hn:x≠"__name__")(hdb:(x==("__debug__":Str))=false)
 (he:starEach (e::es) X.env=(false,eval e X.env)::starEach es X.env) (hpl:(backTo pos<|starEach es X.env).any (·.1)=false):AE X kd (.Call (.Name x p) (e::es) [] pos) (fP fr gg):=by with_unfolding_all exact(yo (Cd hc hg hm hv ha hn hdb he hpl) λσ H Q h=>fE (λ_ _ _ z=>z) h)
def Ux(fa:EF)(c:String):EF:=λas=>(fa as).bind λp=>(p.1.frz.view p.2).bind λx=>if uv x.1=true then some (.ow<|.lf true<|.bl<|HR (kK x.1) c,p.2)else none
def Am(hk:KdOk X kd):XW X (.builtin "isinstance") (λxs H Q=>∃x c O d,xs=[x,.ty c]/\UP c=true/\Vw X.K kd O H x d/\uv d=true/\Q (.bl<|HR (kK d) c) H):=by
 intro b s σ H l m Q I r h;obtain⟨x,c,O,d,rfl,e,f,g,q⟩:=h;cases r with
 |cons i a=>
  cases a with
  |cons a j=>
   cases j;cases(a);exact qS hk I i f e g λk=>⟨.bl _,H,I.tok k,rfl,q⟩
def Kh{c}(hkd:KdOk X kd)(hc:UP c=true)(hg:Gl X x)(hm:X.mg x=none)(hv:bootBuiltins x=some (.builtin "isinstance"))(hg2:Gl X y)(hm2:X.mg y=none)(hv2:bootBuiltins y=some (.type c))(ha:AE X kd a fa)
 (hn:x≠"__name__") (hdb:(x==("__debug__":Str))=false) (hn2:y≠"__name__") (hdb2:(y==("__debug__":Str))=false)
 (he:starEach [a,.Name y p2] X.env=(false,eval a X.env)::starEach [.Name y p2] X.env) (he2:starEach [.Name y p2] X.env=(false,eval (.Name y p2) X.env)::starEach [] X.env) (hpl:(backTo pos<|starEach [.Name y p2] X.env).any (·.1)=false):
 AE X kd (.Call (.Name x p) [a,.Name y p2] [] pos) (Ux fa c):=by with_unfolding_all exact(yo (Lp (Am hkd) hg hm hv (Qp ha (Qp (um (v:=.ty c) hg2 hm2 hv2 rfl hn2 hdb2) Lu he2) he) hn hdb he hpl) λσ H Q h=>by
 obtain⟨F,B,s,as,r,i,R,e,q⟩:=h;obtain⟨⟨p,j⟩,k,e⟩:=bS_<|e;obtain⟨⟨d,t⟩,l,e⟩:=bS_ e;obtain⟨m,e⟩:=zv e;cases e;exact vT R k λv b n g f o=>⟨v,c,_,d,rfl,hc,xo.vw g f l,m,q _ [] b n g (.lf<|.bl _) o⟩)
noncomputable def vM:MG:=λos es=>match es with | [o]=>if os.length<sizeLine then some (os++[o],.lf true .non)else none|_=>none
noncomputable def QN(i:Int)(n:Nat):Nat:=if i<0 then(i+(n:Int)).toNat else min i.toNat n
def Sv:MG:=λos es=>match es with | [.lf _<|.int i,o]=>if(-(2 ^ 63)<=i/\i<2 ^ 63)/\os.length<sizeLine then some (os.take (QN i os.length)++o::os.drop (QN i os.length),.lf true .non)else none|_=>none
def Ap:jY X kd OB vM:=by
 intro F B G l f p q r g o s t H Q h c b d e k;unfold vM at e
 split at e
 . obtain⟨i,e⟩:=zv e;cases e;cases b with
   |cons j n=>
    cases n;rw[zyE]at d k;exact⟨l,f,_,rfl,rfl,h,by rw[c.length];exact i,k _ _ _ [] (c.append<|RoL.one j) (.lf .non) (λa m=>by rwa [zyE]at m)<|by rw[zyE];exact d⟩
 . cases e
def nR:V->List V->Hp->VK->Prop:=λx vs H Q=>∃l xs i y,x = .ref l/\vs=[.int i,y]/\H l=some (.lst xs) /\ -(2 ^ 63)<=i/\i<2 ^ 63/\xs.length<sizeLine/\Q .non (upd H l<|.lst (xs.take (QN i xs.length)++y::xs.drop (QN i xs.length)))
def o6:iJ X "list.insert" nR:=by
 intro c s σ H x p v A Q I f g h;obtain⟨l,B,i,y,rfl,rfl,d,j,k,C,q⟩:=h;cases f;obtain⟨u,w,rfl,m,b⟩:=g.two;obtain⟨t,rfl⟩:=m;obtain⟨z,a,n,r,o,e⟩:=I.lstM d;refine call_meets F.slot_list_insert ⟨_,e,rfl⟩ F.entry_list_insert (F.args_list_insert_3 _ _ _) (AutoSeq1.list_insert_list_int_val_1 l a.toArray n i t w (by rw[fitsIndex_both j k];exact zyV)<|by rw[zzH];exact q0P C o) ⟨e, ?_⟩;refine⟨.non,_,I.lset (its':=a.take (QN i a.length)++w::a.drop (QN i a.length)) d e ?_ ((r.take _).append<|.cons b<|r.drop _) ?_,rfl, ?_⟩
 . show((a.toArray.extract 0<|QN i a.toArray.size).push w++a.toArray.extract _)=_;rw[zzH];simp;exact List.take_of_length_le (by rw[List.length_drop];omega)
 . rw[zzJ,zzT,zzS,List.length_drop];omega
 . rw[<-o];exact q
def r_:jY X kd nR Sv:=by
 intro F B G l r C s D t o E I H Q u g b h e k;unfold Sv at e
 split at e
 . rename_i J i K;obtain⟨c,e⟩:=zv e;cases e;cases b with
   |cons v d=>
    cases d with
    |cons d w=>
     cases w;cases v with
     |lf x=>
      cases x;rw[List.nil_append,zyE]at h k;obtain⟨f,j,y,z,A⟩:=g.part _;have n:=g.length;rename_i q;refine⟨l,r,i,_,rfl,rfl,u,c.1.1,c.1.2,by rw[n];exact c.2, ?_⟩;rw[n];subst y;have p:((f++j)++q).Perm (f++(q++j)):=by
       rw[zxC];exact(List.perm_append_comm).append_left f
      refine k _ _ _ [] (z.append<|.cons d A) (.lf .non) (λa m=>?_) (by rw[zyE];exact p.nodup_iff.mp h);rw[zyE]at m;exact p.mem_iff.mpr m
 . cases e
def Sr{i:Nat}{id}(hm:iJ X id r)(hr:jY X kd r gg)(slot:Slot "list" name id)(hty:typeOf (.builtin id)=pure (.type "method_descriptor"))(ho:PE X (.Name x p) (UC i))(ha:AD X kd (e::es) fd)
 (hbase:attributeBase (.Name x p) name X.env (eval (.Name x p) X.env)=eval (.Name x p) X.env)
 (hfew:((backTo cpos<|starEach (e::es) X.env).all (λx=>!x.1)&&(backToKw cpos<|keywordEach [] X.env).all (λx=>x.1.isSome)
  && decide ((e::es).length+([]:List Keyword).length+(if([]:List Keyword).isEmpty then 0 else 1)<30))=true)
 (hline:(apos.endLine==cpos.line)=true) (hs:starEach (e::es) X.env=(false,eval e X.env)::starEach es X.env) (hplain:(backTo cpos<|starEach es X.env).any (·.1)=false):
 AE X kd (.Call (.Attribute (.Name x p) name apos) (e::es) [] cpos) (vX i fd gg):=by with_unfolding_all exact(yo (sE PySem.F.plainAttrs_list slot hty hm ho ha hbase hfew hline hs hplain) λσ H Q h=>nK hr h)
end
inductive Ty where
 |str|lst|dct|int
def Ty.nm:Ty->String
 | .str=>"str" | .lst=>"list" | .dct=>"dict" | .int=>"int"
noncomputable def Dv:Ty->D->Bool
 | .str,.str _=>true
 | .lst,.lst _=>true
 | .dct,.dct _=>true
 | .int,.int _=>true
 |_,_=>false
def eM(X:Cx)(T:String)(x:V)(H:Hp):Prop:=∀(pins:List (Addr×Obj)) (σ:St) (s:Shared) (v:Value),Inv X pins σ H s->RelV x v->s.TypeIs v T/\∀a,v = .ref a->∃ob,s.heap.get? a=some ob/\ob.dict=none
def fO(X:Cx)(T:String)(r:V->List V->Hp->VK->Prop)(to:TE)(t:TA):TE:=λσ H Q=>to σ H λx H1=>eM X T x H1/\t σ H1 λxs H2=>r x xs H2 Q
section
variable{X:Cx}{kd:KD}{o e:Expr}{es:List Expr}{to:TE}{t:TA}{name:Str}{apos cpos:Pos}{T id:String}{r:V->List V->Hp->VK->Prop}
def kx(pa:PlainAttrs T)(slot:Slot T name id)(hty:typeOf (.builtin id)=pure (.type "method_descriptor"))(hm:iS X id r)(ho:PE X o to)(ha:PA X (e::es) t)
 (hbase:attributeBase o name X.env (eval o X.env)=eval o X.env)
 (hfew:((backTo cpos<|starEach (e::es) X.env).all (λx=>!x.1)&&(backToKw cpos<|keywordEach [] X.env).all (λx=>x.1.isSome)
  && decide ((e::es).length+([]:List Keyword).length+(if([]:List Keyword).isEmpty then 0 else 1)<30))=true)
 (hline:(apos.endLine==cpos.line)=true) (hs:starEach (e::es) X.env=(false,eval e X.env)::starEach es X.env) (hplain:(backTo cpos<|starEach es X.env).any (·.1)=false):
 PE X (.Call (.Attribute o name apos) (e::es) [] cpos) (fO X T r to t):=by
 intro a s σ H Q I h;refine wpAny_Call_method_late hbase hfew hline rfl<|wC (ho a s σ H _ I h) λv f ⟨x,g,b,c,i,j⟩=>?_;obtain⟨k,l⟩:=i _ _ _ _ b c;refine⟨T,id,pa,slot,hty,k,l, ?_⟩;have d:=ha cpos a f σ g _ b j;rw[hs]at d ⊢;refine Calls.callWith_builtin (by show(false||(backTo cpos _).any (·.1))=false;rw[hplain]<;>rfl)<|Calls.evalArgs_plain ?_;exact wC d λm n ⟨p,q,u,w,y⟩=>hm a n σ q x p v m Q u c w y
def eA(X:Cx)(kd:KD)(id:String)(g:D->List D->Option R0):Prop:=
 iS X id (λx xs H Q=>∃O d ds r,(∀a,O a->H a≠none)/\Vw X.K kd O H x d/\VwL X.K kd O H xs ds/\g d ds=some r/\RQ X.K kd O H Q r)
def mX(hk:KdOk X kd){O}(h:Vw X.K kd O H x d)(e:Dv ty d=true):eM X ty.nm x H:=by
 intro pins σ s v I rx;cases h with
 |str z=>
  obtain⟨t,rfl⟩:=rx;cases ty<;>first|(cases e;done)|exact⟨typeIs_str s z t,λ_ e=>nomatch e⟩
 |int z=>
  obtain⟨t,rfl⟩:=rx;cases ty<;>first|(cases e;done)|exact⟨typeIs_int s z t,λ_ e=>nomatch e⟩
 |lst hr rl=>
  cases rx;obtain⟨its,_,pl,_⟩:=I.list hr.sq;cases ty<;>first|(cases e;done)|skip
  refine⟨pl.isList.typeIs,λa e=>?_⟩;cases e;obtain⟨o,n,e,c,hd,_⟩:=pl;exact⟨o,e,hd⟩
 |dct hr rm=>
  cases rx;obtain⟨z,hd,vs,rel,dd⟩:=Ku I hk hr;cases ty<;>first|(cases e;done)|skip
  refine⟨dd.typeIs,λb q=>?_⟩;cases q;obtain⟨ob,_,_,h1,h2,_⟩:=dd;exact⟨ob,h1,h2.2.1⟩
 |non=>cases ty<;>cases e
 |bl=>cases ty<;>cases e
 |tup=>cases ty<;>cases e
 |cl=>cases ty<;>cases e
 |ob=>cases ty<;>cases e
def Mz(ty:Ty)(fa:EF)(fr:AF)(g:D->List D->Option R0):EF:=λas=>(fa as).bind λp=>(p.1.frz.view p.2).bind λw=>if Dv ty w.1=true then(fr p.2).bind λq=>(p.1.frz.view q.2).bind λx=>(views q.2 q.1).bind λy=>(g x.1 y.1).bind λr=>(wrap (meet x.2 y.2) r).bind λz=>some (z,q.2)else none
def rX(hk:KdOk X kd)(h:al X.K kd (Mz ty fa fr g) σ H Q):
 fO X ty.nm (λx xs H Q=>∃O d ds r,(∀a,O a->H a≠none)/\Vw X.K kd O H x d/\VwL X.K kd O H xs ds/\g d ds=some r/\RQ X.K kd O H Q r) (al X.K kd fa) (rS X.K kd fr) σ H Q:=by
 obtain⟨F,B,U,as,r,o,R,e,q⟩:=h;obtain⟨⟨p,c⟩,s,e⟩:=bS_<|e;obtain⟨⟨V,W⟩,t,e⟩:=bS_ e;obtain⟨f,e⟩:=ite_some' e;obtain⟨⟨u,y⟩,A,e⟩:=bS_ e;obtain⟨⟨d,Y⟩,C,e⟩:=bS_ e;obtain⟨⟨D,E⟩,G,e⟩:=bS_ e;obtain⟨I,J,e⟩:=bS_ e;obtain⟨z,L,e⟩:=bS_ e;cases e;refine vT R s λv i Z m b M=>⟨mX hk (xo.vw m b t) f,F,B,i,c,u,_,m,A,λvs j H2 R2 k n=>?_⟩;exact⟨_,d,D,I,R2.tr _,(xo.vw R2 (b.grow n) C).less TY.meet1,(UY R2 k G).less TY.meet2,J,Y2 R2 L λw N P S l T=>q w N j P S l<|(M.trans n).trans T⟩
def tK(hk:KdOk X kd)(hm:eA X kd id g)(pa:PlainAttrs ty.nm)(slot:Slot ty.nm name id)(hty:typeOf (.builtin id)=pure (.type "method_descriptor"))(ho:AE X kd a fa)(ha:AA X kd (e::es) fr)
 (hbase:attributeBase a name X.env (eval a X.env)=eval a X.env)
 (hfew:((backTo cpos<|starEach (e::es) X.env).all (λx=>!x.1)&&(backToKw cpos<|keywordEach [] X.env).all (λx=>x.1.isSome)
  && decide ((e::es).length+([]:List Keyword).length+(if([]:List Keyword).isEmpty then 0 else 1)<30))=true)
 (hline:(apos.endLine==cpos.line)=true) (hs:starEach (e::es) X.env=(false,eval e X.env)::starEach es X.env) (hplain:(backTo cpos<|starEach es X.env).any (·.1)=false):
 AE X kd (.Call (.Attribute a name apos) (e::es) [] cpos) (Mz ty fa fr g):=by with_unfolding_all exact(yo (kx pa slot hty hm ho ha hbase hfew hline hs hplain) λσ H Q h=>rX hk h)
end
section
variable{K:zzA}{kd:KD}{F B G:Addr->Prop}{T:List Addr}{ad:Ad}{as:AS}{σ:St}{H H':Hp}
inductive RPs(K:zzA)(kd:KD)(F B G:Addr->Prop)(H:Hp):List (V×V)->List (Key×O)->Prop
 |nil:RPs K kd F B G H [] []
 |cons {k:Key}{v:V}{o:O}{ps:List (V×V)}{kos:List (Key×O)}:YV K kd F B G H v o []->RPs K kd F B G H ps kos->RPs K kd F B G H ((kV k,v)::ps) ((k,o)::kos)
end
abbrev Fn:=List (Bool×D)->Option O
section
variable{P:Program}{w:World}{K:zzA}{mg:Str->Option Value}{base:Heap}{kd:KD}
def Eh:FnOk P w K mg base vI k f fd ps (Tf K kd λ_=>none):=
 ⟨λc H Q E h=>(by obtain⟨_,_,_,_,_,e,_⟩:=h;cases e),λA a s H b d c Q E _ _ _ _ h=>(by obtain⟨_,_,_,_,_,e,_⟩:=h;cases e)⟩
def G6(hr:Room k A):A.units+100<cLine:=by have:=hr.un;omega
def Df(P:Program)(w:World)(K:zzA)(kd:KD):Prop:=∀X:Cx,X.prog=P->X.w=w->X.K=K->KdOk X kd
theorem V7{O}:∀ns:List Int,RpL K kd O H (ns.map V.int)<|ns.map D.int
 | []=>.nil
 |_::r=>.cons (.int _)<|V7 r
def qI{ns:List Int}(hg:g [(true,.lst<|ns.map D.int)]=some (.lf true<|.bl true))(hS:AQ K H a (ns.map V.int)):Tf K kd g [.ref a] H (λv _=>v = .bl true) E:=by
 refine⟨λ_=>False,[(true,.lst _)],.lf true _,(λ_ z=>z.elim),.cons ?_ .nil,hg,λv T e _ _ _ _ b=>?_⟩
 . rcases hS with h|⟨c,n,k,z,r⟩
   . exact .lst (λz=>z.2) h<|V7 ns
   . exact .lstK k z r<|V7 ns
 . cases b with
   |lf d=>cases d;rfl
end
namespace Bt
theorem len:bootBuiltins "len"=some (.builtin "len"):=by decide +kernel
theorem max:bootBuiltins "max"=some (.builtin "max"):=by decide +kernel
theorem min:bootBuiltins "min"=some (.builtin "min"):=by decide +kernel
theorem sum:bootBuiltins "sum"=some (.builtin "sum"):=by decide +kernel
theorem divmod:bootBuiltins "divmod"=some (.builtin "divmod"):=by decide +kernel
theorem isinstance:bootBuiltins "isinstance"=some (.builtin "isinstance"):=by decide +kernel
theorem int:bootBuiltins "int"=some (.type "int"):=by decide +kernel
theorem bool:bootBuiltins "bool"=some (.type "bool"):=by decide +kernel
theorem str:bootBuiltins "str"=some (.type "str"):=by decide +kernel
theorem list:bootBuiltins "list"=some (.type "list"):=by decide +kernel
theorem tuple:bootBuiltins "tuple"=some (.type "tuple"):=by decide +kernel
theorem dict:bootBuiltins "dict"=some (.type "dict"):=by decide +kernel
def n(x)(h:(x==("__name__":Str))=false):x≠"__name__":=λe=>by subst e;simp at h
end Bt
def WD(f:EF)(as:AS)(st:Bool)(d:D):Prop:=f as=some (.ow<|.lf st d,as)
def WT(f:TF)(as:AS)(b:Bool):Prop:=f as=some (b,as)
def WA(f:AF)(as:AS)(rs:List (Bool×D)):Prop:=f as=some (rs.map λx=>.ow<|.lf x.1 x.2,as)
def WO(f:DF)(as:AS)(os:List O):Prop:=f as=some (os,as)
section
variable{as:AS}{f a b:EF}{s t:Bool}{x y z:D}{i j:Int}
def zb:WD (fC x) as true x:=rfl
def za{i:Nat}(h:as[i]? = some (some<|.lf s x)):WD (fV i) as s x:=by unfold WD fV;rw[h]
def sG(ha:WD a as s x)(hb:WD b as t y)(hg:g x y=some (.im z)):WD (f2 a b g) as (zC z||(s&&t)) z:=by
 unfold WD f2 at *;rw[ha];show((b as).bind _)=_;rw[hb];show((g x y).bind _)=_;rw[hg];show(if _=true then _ else _:Option RV).bind _=_;rw[if_pos<|by unfold meet;simp];rfl
def je(ha:a as=some (.ow oa,as))(hb:b as=some (.ow ob,as))(hg:g oa.toD ob.toD=some (.im z)):WD (f2 a b g) as (zC z||(oa.str&&ob.str)) z:=by
 unfold WD f2 at *;rw[ha];show((b as).bind _)=_;rw[hb];show((g oa.toD ob.toD).bind _)=_;rw[hg];show(if _=true then _ else _:Option RV).bind _=_;rw[if_pos<|by unfold meet;simp];rfl
def zB(ha:WD a as s x)(hb:WD b as t y)(hg:g x y=some (.im z))(e:zC z=true):WD (f2 a b g) as true z:=by
 have:=sG ha hb hg;rw[e]at this;exact this
def zK(ha:WD a as s (.int i))(hb:WD b as t (.int j)):WD (f2 a b<|Yq .Add) as true (.int<|i+j):=zB ha hb rfl rfl
def ZS(ha:WD a as s (.int i))(hb:WD b as t (.int j)):WD (f2 a b<|Yq .Sub) as true (.int<|i-j):=zB ha hb rfl rfl
def MX(ha:WD a as s (.int i))(hb:WD b as t (.int j))(h:j.natAbs<2 ^ 64):WD (f2 a b<|Yq .Mult) as true (.int<|i*j):=zB ha hb (by show(if _ then _ else _)=_;rw[if_pos<|.inr h]) rfl
def y7(ha:WD a as s (.int i))(hb:WD b as t (.int j))(h1:i.natAbs<big)(h2:j.natAbs<big):WD (f2 a b<|Yq .Mult) as true (.int<|i*j):=zB ha hb (by show(if _ then _ else _)=_;rw[if_pos<|.inl ⟨h1,h2⟩]) rfl
def xi(ha:WD a as s (.int i))(hb:WD b as t (.int j))(h1:0<j)(h2:j.natAbs<big):WD (f2 a b<|Yq .FloorDiv) as true (.int<|i/j):=zB ha hb (by show(if _ then _ else _)=_;rw[if_pos ⟨h1,h2⟩]) rfl
def zU(ha:WD a as s (.int i))(hb:WD b as t (.int j))(h1:0<j):WD (f2 a b<|Yq .Mod) as true (.int<|i%j):=zB ha hb (by show(if _ then _ else _)=_;rw[if_pos h1]) rfl
def A8(ha:WD a as s (.int i))(hb:WD b as t (.int j))(h1:0<=j/\j<=1000000/\i.natAbs<2 ^ 64):WD (f2 a b<|Yq .Pow) as true (.int<|i ^ j.toNat):=zB ha hb (by show(if _ then _ else _)=_;rw[if_pos h1]) rfl
def Re(ha:WD a as s x)(hb:WD b as t y)(h:Xr 60 x y=some c):WD (f2 a b<|zy .Eq) as true (.bl c):=zB ha hb (by show(Xr 60 x y).bind _=_;rw[h];rfl) rfl
def Ov(ha:WD a as s x)(hb:WD b as t y)(h:Xr 60 x y=some c):WD (f2 a b<|zy .NotEq) as true (.bl<|!c):=zB ha hb (by show(Xr 60 x y).bind _=_;rw[h];rfl) rfl
def JW(ha:WD a as s (.int i))(hb:WD b as t (.int j)):WD (f2 a b<|zy .Lt) as true (.bl<|decide (i<j)):=zB ha hb rfl rfl
def jD(ha:WD a as s (.int i))(hb:WD b as t (.int j)):WD (f2 a b<|zy .Gt) as true (.bl<|decide (j<i)):=zB ha hb rfl rfl
def mI(ha:WD a as s (.int i))(hb:WD b as t (.int j)):WD (f2 a b<|zy .GtE) as true (.bl<|decide (j<=i)):=zB ha hb rfl rfl
def pM(ha:WD a as s (.int i)):WD (f1 a EN) as true (.int (-i)):=by
 unfold WD f1 at *;rw[ha];rfl
def yf(h:WD f as s x)(e:truth x=some c):WT (fT f) as c:=by
 unfold WT fT;unfold WD at h;rw[h];show((truth x).bind _)=_;rw[e];rfl
def Wd(h:WT c as k):WT (wH c) as (!k):=by unfold WT wH at *;rw[h];rfl
def Ao(h:WT c as k)(h2:k=true->WT e as l)(h3:k=false->l=false):WT (BO c e) as l:=by
 unfold WT BO at *;rw[h];cases k with
 |true=>exact h2 rfl
 |false=>rw[h3 rfl];rfl
def AX(h:WT c as k)(h2:k=false->WT e as l)(h3:k=true->l=true):WT (Fs c e) as l:=by
 unfold WT Fs at *;rw[h];cases k with
 |false=>exact h2 rfl
 |true=>rw[h3 rfl];rfl
def q5(h:WT c as true)(ha:WD a as s x):WD (Ou c a b) as s x:=by unfold WD Ou;unfold WT at h;rw[h];exact ha
def oU(h:WT c as false)(hb:WD b as s x):WD (Ou c a b) as s x:=by unfold WD Ou;unfold WT at h;rw[h];exact hb
def LF(h:WD a as s (.bl k))(h2:k=true->WD b as true (.bl l))(h3:k=false->l=false):WD (Nr a b) as true (.bl l):=by
 unfold WD Nr at *;rw[h];cases k with
 |true=>exact h2 rfl
 |false=>rw[h3 rfl];rfl
def zr:WA aN as []:=rfl
def zj(ha:WD a as s x)(hr:WA fr as rs):WA (aC a fr) as ((s,x)::rs):=by
 unfold WA aC at *;unfold WD at ha;rw[ha];show((fr as).bind _)=_;rw[hr];rfl
theorem Ym:∀rs:List (Bool×D),Xl as (rs.map λx=>.ow<|.lf x.1 x.2)=some (rs.map λx=>(zC x.2||x.1,x.2))
 | []=>rfl
 |r::a=>by
  show(Xl as _).bind _=_;rw[Ym a];rfl
theorem YG:∀rs:List (Bool×D),views as (rs.map λx=>.ow<|.lf x.1 x.2)=some (rs.map (·.2),some (rs.all (·.1)))
 | []=>rfl
 |r::a=>by
  show(views as _).bind _=_;rw[YG a];rfl
def Qt(ha:WA fr as rs)(hg:g (rs.map λx=>(zC x.2||x.1,x.2))=some (.lf s x)):WD (zh fr g) as s x:=by
 unfold WD zh;unfold WA at ha;rw[ha];show(Xl as _).bind _=_;rw[Ym];show(g _).bind _=_;rw[hg];rfl
def vN(ha:WA fr as rs)(hg:g (rs.map λx=>(zC x.2||x.1,x.2))=some o):zh fr g as=some (.ow o,as):=by
 unfold zh;unfold WA at ha;rw[ha];show(Xl as _).bind _=_;rw[Ym];show(g _).bind _=_;rw[hg];rfl
def HZ(ha:WA fr as rs)(hg:g (rs.map (·.2))=some (.im x)):WD (fP fr g) as (zC x||rs.all (·.1)) x:=by
 unfold WD fP;unfold WA at ha;rw[ha];show(views as _).bind _=_;rw[YG];show(g _).bind _=_;rw[hg];show(if _=true then _ else _:Option RV).bind _=_;rw[if_pos<|by simp];rfl
def yr(ha:WA fr as rs)(hg:g (rs.map (·.2))=some (.im x))(e:zC x=true):WD (fP fr g) as true x:=by
 have:=HZ ha hg;rw[e]at this;exact this
def yi:WO dN as []:=rfl
def zu{os}(ha:WD a as s x)(hr:WO fr as os):WO (dC a fr) as (.lf s x::os):=by
 unfold WO dC at *;unfold WD at ha;rw[ha];show((fr as).bind _)=_;rw[hr];rfl
def wq{os}(h:WO fr as os)(hl:os.length<=sizeLine):zZ fr as=some (.ow<|.nd .ls os,as):=by
 unfold zZ;unfold WO at h;rw[h];show(if os.length<=sizeLine then _ else _)=_;rw[if_pos hl]
def zo{f g}(h1:f as=some (.nx as1))(h2:g as1=o):ze f g as=o:=by unfold ze;rw[h1];exact h2
def vV{f g}(h1:f as=some (.rt o)):ze f g as=some (.rt o):=by unfold ze;rw[h1];rfl
def y6{f g}(h:WT c as true)(h1:f as=o):yR c f g as=o:=by unfold yR;unfold WT at h;rw[h];exact h1
def zq{f g}(h:WT c as false)(h1:g as=o):yR c f g as=o:=by unfold yR;unfold WT at h;rw[h];exact h1
def zG{i:Nat}{st}(h:WD f as s x)(hi:i<as.length):zp st i f as=some (.nx<|as.set i<|some<|.lf s x):=by
 unfold zp;unfold WD at h;rw[h];cases st<;>exact if_pos hi
def yV{i:Nat}(h:f as=some (.ow o,as))(hi:i<as.length):zp false i f as=some (.nx<|as.set i<|some o):=by
 unfold zp;rw[h];exact if_pos hi
def Du{i:Nat}(h:f as=some (.ow o,as))(hi:i<as.length):zp true i f as=some (.nx<|as.set i<|some o.frz):=by
 unfold zp;rw[h];exact if_pos hi
def xS(h:WD f as true x):zw f as=some (.rt<|.lf true x):=by unfold zw;unfold WD at h;rw[h];rfl
def xV(hl:ds.length=m)(h:c (Zh n ds)=some (.rt o)):xY n m c ds=some o:=by unfold xY;rw[if_pos hl,h];rfl
theorem yW{f}(I:Nat->AS->Prop):∀(xs:List wK) (k:Nat) (as:AS),(∀i x as,xs[i]? = some x->I (k+i) as->∃as1,g x as=some as1/\∃as2,f as1=some (.nx as2)/\I (k+i+1) as2)->I k as->∃as',forL g f xs as=some (.nx as')/\I (k+xs.length) as'
 | [],k,as,_,h=>⟨as,rfl,h⟩
 |x::r,k,as,d,h=>by
  obtain⟨a,j,b,l,m⟩:=d 0 x as rfl h;obtain⟨c,n,o⟩:=yW I r (k+1) b (λi y as e q=>by
   obtain⟨u,p,v,s,t⟩:=d (i+1) y as e (by rw[show k+(i+1)=k+1+i from q0e];exact q);exact⟨u,p,v,s,by rw[show k+1+i+1=k+(i+1)+1 by omega];exact t⟩) m
  refine⟨c, ?_,by rw[zzT,show k+_=k+1+r.length from q0e];exact o⟩;show(g x as).bind _=_;rw[j];show(f a).bind _=_;rw[l];exact n
def yn{f}(h:fi as=some (xs,as'))(h2:forL g f xs as'=o):yJ fi g f as=o:=by unfold yJ;rw[h];exact h2
def xk{lo}{n i:Nat}{x}(h:(y4 lo n)[i]? = some x):x=(true,.int<|lo+i)/\i<n:=by
 unfold y4 at h;rw[zzI]at h;cases e:(List.range n)[i]? with
 |none=>rw[e]at h;cases h
 |some k=>
  rw[e]at h;obtain⟨a,b⟩:=zzG.mp e;rw[zyU]at a;rw[List.getElem_range]at b;subst b;exact⟨(zzZ h).symm,a⟩
def xf(h:WA fr as [(u,.int j)])(h0:0<=j)(h1:j<1000000):yB fr yO as=some (y4 0 j.toNat,as):=by
 unfold yB;unfold WA at h;rw[h];simp only[zyL,YG];show((if -_<=j/\j<2 ^ 62 then some _ else none).bind _)=_;rw[if_pos ⟨by omega,by omega⟩];rfl
def Jd(ha:a as=some (.ow o,as))(hr:WA fr as rs):WA (aC a fr) as ((o.str,o.toD)::rs):=by
 unfold WA aC at *;rw[ha];show((fr as).bind _)=_;rw[hr];rfl
def Oc{i:Nat}(h:as[i]? = some (some o)):RV.view as (.bo i)=some (o.toD,o.kl):=by simp only[RV.view,h]
def qR{i:Nat}(h:as[i]? = some (some o)):t7 as (.bo i)=some (o.frz,as.set i<|some o.frz):=by simp only[t7,h]
def tZ{i:Nat}(h:as[i]? = some (some o))(hs:o.str=true):Ir as (.bo i)=some o:=by simp only[Ir,h,hs,if_true]
def FK{i:Nat}{os}(h:as[i]? = some (some<|.nd k os)):fV i as=some (.bo i,as):=by unfold fV;rw[h]
def gy{i:Nat}{os}(h:as[i]? = some (some<|.nd .ls os)):WD (fP (aC (fV i) aN) xq) as true (.int os.length):=by
 have e:views as [.bo i]=some ([.lst<|O.toDs os],meet (O.nd .ls os).kl<|some true):=by
  show(RV.view as _).bind _=_;rw[Oc h];rfl
 unfold WD fP aC;rw[FK h];simp only[zyL,aN,RV.frz,e];rw[show xq [.lst _]=some _ by show some _=_;rw[Y_]];rfl
def cu{i:Nat}{os}(h:as[i]? = some (some<|.nd .ls os))(hl:os.all O.isLf=true)(hb:WD b as t y)(hg:zx (.lst<|O.toDs os) y=some (.im z)):WD (f2 (fV i) b zx) as (zC z||(O.strs os&&t)) z:=by
 unfold WD f2 at *;rw[FK h];show((b as).bind _)=_;rw[hb];show((RV.view as<|.bo i).bind _)=_;rw[Oc h];have e:(O.nd .ls os).kl=some (O.strs os):=by simp only[O.kl,hl,if_true]
 rw[e];show((zx (.lst _) y).bind _)=_;rw[hg];show(if _=true then _ else _:Option RV).bind _=_;rw[if_pos<|by unfold meet;simp];rfl
def I0{i:Nat}(h:as[i]? = some (some<|.lf s<|.lst ds)):YU (fV i) as=some (kids s ds,as):=by
 unfold YU fV;rw[h];rfl
def xZ{f}(h1:g d as=some as1)(h2:f as1=some (.nx as2))(h3:forL g f r as2=o):forL g f (d::r) as=o:=by
 show(g d as).bind _=_;rw[h1];show(f as1).bind _=_;rw[h2];exact h3
def A5{f}(h1:g d as=some as1)(h2:f as1=some (.rt o)):forL g f (d::r) as=some (.rt o):=by
 show(g d as).bind _=_;rw[h1];show(f as1).bind _=_;rw[h2];rfl
def AZ{i:Nat}{os}(h:as[i]? = some (some<|.nd .ls os))(hl:os.length<sizeLine)(ha:WD a as s x):yq (vX i (dC a dN) vM) as=some (.nx<|as.set i<|some<|.nd .ls<|os++[.lf s x]):=by
 unfold yq vX;rw[h];have e:=zu ha yi;rw[e];show(Option.bind (match as[i]? with|some (some<|.nd .ls os)=>_|_=>none) _)=_;rw[h];show((vM os _).bind _).bind _=_;have e2:vM os [.lf s x]=some (os++[.lf s x],.lf true .non):=by unfold vM;exact if_pos hl
 rw[e2];rfl
def SK(h:f as=some (.ow o,as))(hg:g (o.str,o.toD) as=some as'):Vu f g as=some (.nx as'):=by
 unfold Vu;rw[h];show(g _ as).bind _=_;rw[hg];rfl
def Qy{i:Nat}(h:as[i]? = some (some o))(hs:o.str=true):zw (fV i) as=some (.rt o):=by
 cases o with
 |lf a d=>unfold zw fV;rw[h];have:a=true:=hs;subst this;rfl
 |nd k b=>
  unfold zw;rw[FK h];show(Ir as _).bind _=_;rw[tZ h hs];rfl
def pd{os}(h:WO fr as os)(hl:os.length<=sizeLine)(ha:os.all O.isLf=true):WD (yd fr) as (O.strs os) (.tup<|O.toDs os):=by
 unfold WD yd;unfold WO at h;rw[h];show(if os.length<=sizeLine then some _ else _)=_;rw[if_pos hl];unfold Q3;rw[if_pos ha]
def pX(ha:a as=some (.ow oa,as1))(hb:b as1=some (.ow ob,as2))(hg:g oa.toD ob.toD=some (.fl zs)):f2 a b g as=some (.ow<|.nd .ls<|zs.map<|OI<|oa.str&&ob.str,as2):=by
 unfold f2;rw[ha];show((b as1).bind _)=_;rw[hb];show((g oa.toD ob.toD).bind _)=_;rw[hg];show(if _=true then _ else _:Option RV).bind _=_;rw[if_pos<|by unfold meet;simp];rfl
def yE(ha:WD a as true x)(hb:WD b as true y)(hg:g x y=some (.im z)):WD (f2 a b g) as true z:=by
 have:=sG ha hb hg;rw[show(zC z||_)=true by simp]at this;exact this
def jf{i:Nat}{os}(h:as[i]? = some (some<|.nd .ls os))(hl:os.all O.isLf=true)(hs:O.strs os=true)(hb:WD b as true y)(hg:zx (.lst<|O.toDs os) y=some (.im z)):WD (f2 (fV i) b zx) as true z:=by
 have:=cu h hl hb hg;rw[hs,show(zC z||_)=true by simp]at this;exact this
theorem GS:∀zs:List D,zs.map (OI true)=zs.map (O.lf true)
 | []=>rfl
 |z::r=>by
  show OI true z::r.map _=_;rw[GS r];unfold OI;rw[zyD];rfl
def DJ(ha:a as=some (.ow oa,as1))(hb:b as1=some (.ow ob,as2))(hg:g oa.toD ob.toD=some (.fl zs))(h1:oa.str=true)(h2:ob.str=true):f2 a b g as=some (.ow<|.nd .ls<|zs.map<|O.lf true,as2):=by
 have:=pX ha hb hg;rw[h1,h2,show(true&&true)=true from rfl,GS]at this;exact this
def xW{os}(ha:a as=some (.ow o,as1))(hr:fr as1=some (os,as2)):dC a fr as=some (o::os,as2):=by
 unfold dC;rw[ha];show((fr as1).bind _)=_;rw[hr];rfl
def DE{os}(h:fr as=some (os,as1))(hl:os.length<=sizeLine):zZ fr as=some (.ow<|.nd .ls os,as1):=by
 unfold zZ;rw[h];show(if os.length<=sizeLine then _ else _)=_;rw[if_pos hl]
def add_lists(h:xs.length+ys.length<=sizeLine):Yq .Add (.lst xs) (.lst ys)=some (.fl<|xs++ys):=if_pos h
def N6(lo)(n:Nat):y4 lo (n+1)=(true,.int lo)::y4 (lo+1) n:=by
 unfold y4;rw[List.range_succ_eq_map,zyS,zyB]
 congr 1
 . simp
 . apply List.map_congr_left;intro i _;show(true,D.int _)=_
   congr 2
   omega
def Bj(ha:WA fr as rs)(hg:g (rs.map (·.2))=some (.im x))(e:rs.all (·.1)=true):WD (fP fr g) as true x:=by
 have:=HZ ha hg;rw[e,zyD]at this;exact this
def ub(ha:WD a as s y)(ht:Dv ty y=true)(hr:WA fr as rs)(hg:g y (rs.map (·.2))=some (.im x))(e:zC x=true):WD (Mz ty a fr g) as true x:=by
 unfold WD Mz;unfold WD at ha;unfold WA at hr;rw[ha];show(if Dv ty y=true then _ else _:Option _)=_;rw[if_pos ht,hr];simp only[zyL,YG];show((g y _).bind _)=_;rw[hg];show(if _=true then _ else _:Option RV).bind _=_;rw[if_pos<|by rw[e];rfl];show some (RV.ow<|.lf _ x,as)=_;rw[e];rfl
def Av{fl fh lo hi g}(ha:WD a as s y)(hl:fl as=some (lo,as))(hh:fh as=some (hi,as))(hg:g y lo hi=some (.im x)):WD (WR a fl fh g) as (zC x||s) x:=by
 unfold WD WR;unfold WD at ha;rw[ha];show((fl as).bind _)=_;rw[hl];show((fh as).bind _)=_;rw[hh];show((g y lo hi).bind _)=_;rw[hg];show(if _=true then _ else _:Option RV).bind _=_;rw[if_pos<|by simp];rfl
def tY(h:WD f as s x)(e:Rj (s,x)=some ds):xC f as=some (ds,as):=by
 unfold xC;unfold WD at h;rw[h];show(Rj (s,x)).bind _=_;rw[e];rfl
def Pm{g fe as0 as1 y r os}(h1:g y as0=some as1)(h2:WD fe as1 true x)(h3:xF g yx fe as0 r=some os):xF g yx fe as0 (y::r)=some (.lf true x::os):=by
 show(g y as0).bind _=_;rw[h1];show(fe as1).bind _=_;unfold WD at h2;rw[h2];show _=_;rw[h3];rfl
def Rn{fi cap g tt fe xs os}(h1:fi as=some (xs,as))(hl:xs.length<=sizeLine)(h2:xF g tt fe (Z6 cap as) xs=some os):zS fi cap g tt fe as=some (.ow<|.nd .ls os,as):=by
 unfold zS;rw[h1];show(if xs.length<=sizeLine then _ else _)=_;rw[if_pos hl];show _=_;rw[h2];rfl
end
def VI(h:Nat.ble n 1000=true):n<=sizeLine:=Nat.le_of_lt<|Pe<|Nat.le_of_ble_eq_true h
def zg(h:Nat.ble (a+1) b=true):a<b:=Nat.le_of_ble_eq_true h
def zz(h0 : -(10 ^ 200)<i)(h1:i<10 ^ 200):i.natAbs<big:=by
 have:10 ^ 200<big:=by unfold big;decide +kernel
 have e:((10 ^ 200:Nat):Int)=(10:Int) ^ 200:=by norm_cast
 have:i.natAbs<((10 ^ 200:Nat):Int):=by rw[e];omega
 omega
def GC(K:zzA)(kd:KD)(mg:Str->Option Value)(x:Str)(d:D):Prop:=∃v u,mg x=some u/\RelV v u/\∀(O:Addr->Prop) (H:Hp),Rp K kd O H v d
section
variable{X:Cx}{kd:KD}{K:zzA}{mg:Str->Option Value}
def oH(h:GC X.K kd X.mg x d)(hg:Gl X x)(hd:(x==("__debug__":Str))=false):AE X kd (.Name x pos) (fC d):=by
 with_unfolding_all (
 obtain⟨v,u,h1,h2,h3⟩:=h;exact KH (uX hg h1 h2 hd) h3)
theorem GC.int(h:mg x=some (.int i t)):GC K kd mg x (.int i):=⟨.int i,_,h,⟨t,rfl⟩,λ_ _=>.int i⟩
def iY(K:zzA)(g:Fn):Sp:=λvs H Q E=>∀kd:KD,Tf K kd g vs H Q E
end
def Ei(fa fb fc:EF)(g g':D->D->Option R0):EF:=λas=>(fa as).bind λp=>(fb p.2).bind λq=>(p.1.frz.view q.2).bind λx=>(q.1.frz.view q.2).bind λy=>(g x.1 y.1).bind λr=>match r with
 | .im (.bl true)=>(fc q.2).bind λt=>(q.1.frz.view t.2).bind λy'=>(t.1.frz.view t.2).bind λz=>(g' y'.1 z.1).bind λr'=>(wrap (meet y'.2 z.2) r').bind λo=>some (o,t.2)
 | .im (.bl false)=>some (.ow<|.lf true<|.bl false,q.2)
 |_=>none
section
variable{X:Cx}{kd:KD}{a b c:Expr}{fa fb fc:EF}{pos:Pos}
def Bx(ho:pW X kd (compareOp op) g)(ho':pW X kd (compareOp op') g')(ha:AE X kd a fa)(hb:AE X kd b fb)(hc:AE X kd c fc)(hm:lastMarks [op,op'] [b,c]=false):
 AE X kd (.Compare a [op,op'] [b,c] pos) (Ei fa fb fc g g'):=by with_unfolding_all exact(yo (IX ho ho' ha hb hc hm) λσ H Q h=>by
 obtain⟨F,B,ad,as,r,O,R,e,q⟩:=h;obtain⟨⟨p,P⟩,S,e⟩:=bS_<|e;obtain⟨⟨z,j⟩,T,e⟩:=bS_ e;obtain⟨⟨x,U⟩,V,e⟩:=bS_ e;obtain⟨⟨y,W⟩,Y,e⟩:=bS_ e;obtain⟨K,Z,e⟩:=bS_ e;refine vT R S λv ad1 H1 R1 k L=>vT R1 T λu l H2 R2 d m=>⟨_,x,y,K,R2.tr _,(xo.vw R2 (k.grow m) V).less TY.meet1,(xo.vw R2 d Y).less TY.meet2,Z, ?_⟩
 match K,e with
 | .im (.bl true),e=>
  obtain⟨⟨t,as3⟩,h6,e⟩:=bS_<|e;obtain⟨⟨y',n⟩,h7,e⟩:=bS_ e;obtain⟨⟨z',s⟩,h8,e⟩:=bS_ e;obtain⟨r1,h9,e⟩:=bS_ e;obtain⟨o,A,e⟩:=bS_ e;cases e;intro w M C D;cases D;obtain⟨E,f⟩:=R2.more C;refine⟨true,rfl, ?_⟩;rw[if_pos rfl];refine vT E h6 λw' G H4 i I N=>⟨_,y',z',r1,i.tr _,(xo.vw i ((d.grow f).grow N) h7).less TY.meet1,(xo.vw i I h8).less TY.meet2,h9, ?_⟩;exact Y2 i A λw T' H' R' J g'=>q w T' G H' R' J<|(((L.trans m).trans f).trans N).trans g'
 | .im (.bl false),e=>
  cases e;intro w M C D;cases D;obtain⟨E,f⟩:=R2.more C;refine⟨false,rfl, ?_⟩;rw[if_neg zyV];exact q _ [] l M E (.lf<|.bl _)<|(L.trans m).trans f)
end
inductive Ents(w:World):List DictEntry->List (Key×V)->Prop
 |nil:Ents w [] []
 |str {x:Str}{t:Tok}{v:V}{u:Value}{r:List DictEntry}{s:List (Key×V)}:RelV v u->Ents w r s->Ents w (⟨PyData.keyHash w.params x,.str x t,u⟩::r) ((.inr x,v)::s)
theorem Ents.keys:∀{es:List DictEntry}{kvs:List (Key×V)},Ents w es kvs->∀e ∈ es,∃k,(x6 P w).is k e.key=true/\e.hash=(x6 P w).hash k
 |_,_,.nil,_,m=>nomatch m
 |_,_,.str (x:=x) (t:=t) _ r,e,m=>by
  rcases zzC.mp m with rfl|m
  . exact⟨.inr x,VW P w x t,rfl⟩
  . exact r.keys e m
theorem Ents.pairs:∀{es:List DictEntry}{kvs:List (Key×V)},Ents w es kvs->∃vs,KV kvs vs/\Pairs (x6 P w) es vs/\vs.map (·.1)=kvs.map (·.1)
 |_,_,.nil=>⟨[],.nil,.nil,rfl⟩
 |_,_,.str (x:=x) (t:=t) (u:=u) h r=>by
  obtain⟨a,b,c,d⟩:=r.pairs;exact⟨(.inr x,u)::a,.cons ⟨rfl,h⟩ b,.cons (VW P w x t) rfl c,by rw[zyS,zyS,d]⟩
structure DctAt(w:World)(K:zzA)(a:Addr)(kvs:List (Key×V)):Prop where
 ex:∃es ep,K.lookup a=some {cls:=.type "dict",data:=.dict es ep}/\Ents w es.toList kvs
 nd:(kvs.map (·.1)).Nodup
 le:kvs.length<=sizeLine
 ns:(a==sysModules)=false
def gJ(l:List (Addr×List (Key×V)))(c:Str->Addr:=λ_=>0):KD:=⟨λa k=>l.lookup a=some k,c⟩
def lookup_mem{l:List (Addr×List (Key×V))}(h:l.lookup a=some k):(a,k) ∈ l:=by
 induction l with
 |nil=>cases h
 |cons p r b=>
  rw[List.lookup_cons]at h
  by_cases e:a=p.1
  . subst e;rw[beq_self_eq_true]at h;cases h;exact zzF
  . rw[show _=false from beq_eq_false_iff_ne.mpr e]at h;exact zzD _<|b h
def qA{K}(h:∀p ∈ l,DctAt w K p.1 p.2):Df P w K (gJ l c):=λX n o r=>by
 subst n;subst o;subst r;refine⟨λa k v b d=>zzZ<|b.symm.trans d,λa k b=>?_,λa k y b f=>?_⟩
 . obtain⟨g,i,e,_⟩:=(h _<|lookup_mem b).ex;exact⟨_,e⟩
 . have q:=h _<|lookup_mem b;obtain⟨g,i,e,j⟩:=q.ex;obtain⟨s,d,t,u⟩:=j.pairs;refine⟨q.le,q.ns,s,d,_,g,i,f _ _ e,⟨rfl,rfl,rfl⟩,rfl,λx m=>j.keys x (by simpa using m),t,by rw[u];exact q.nd⟩
def isStar:Expr->Bool
 | .Starred .. => true
 |_=>false
def MA(h:isStar a=false):starEach (a::es) env=(false,eval a env)::starEach es env:=by
 cases a<;>first|rfl|cases h
section
variable{as:AS}{f a b c:EF}{s t u:Bool}{x y z:D}{i j k:Int}
def CZ{lo hi}(ha:WD a as true y)(hl:fl as=some (lo,as))(hh:fh as=some (hi,as))(hg:g y lo hi=some (.im x)):WD (WR a fl fh g) as true x:=by
 have:=Av ha hl hh hg;rw[zyD]at this;exact this
def AK(h:WD f as s (.bl q)):WD (CQ f) as true (.bl<|!q):=by
 unfold WD CQ at *;rw[h];rfl
def Ca(h1:g w as0=some as1)(h2:WT tt as1 false)(h3:xF g tt fe as0 r=o):xF g tt fe as0 (w::r)=o:=by
 unfold WT at h2;show(g w as0).bind _=_;rw[h1];show(tt as1).bind _=_;rw[h2];exact h3
def WE(f:EF)(as:AS)(x:D):Prop:=∃o,f as=some (.ow o,as)/\o.str=true/\o.toD=x
def RE(r:Option O)(x:D):Prop:=∃o,r=some o/\o.str=true/\o.toD=x
def WD.e(h:WD f as true x):WE f as x:=⟨_,h,rfl,rfl⟩
def RE.of(h:r=some (.lf true x)):RE r x:=⟨_,h,rfl,rfl⟩
def Zq{os}(h:WO fr as os)(hl:os.length<=sizeLine)(hs:O.strs os=true)(e:D.lst (O.toDs os)=x):WE (zZ fr) as x:=⟨_,wq h hl,hs,e⟩
def yZ(h:WE a as x)(hr:WA fr as rs):WA (aC a fr) as ((true,x)::rs):=by
 obtain⟨o,b,c,rfl⟩:=h;have:=Jd b hr;rw[c]at this;exact this
def wF(ha:WE a as x)(hg:RE (g [(true,x)]) z):WE (zh (aC a aN) g) as z:=by
 obtain⟨o,b,c,d⟩:=hg;exact⟨o,vN (yZ ha zr) (by show g [(zC x||true,x)]=_;rw[zyD];exact b),c,d⟩
def xx(ha:WE a as x)(hb:WE b as y)(hg:RE (g [(true,x),(true,y)]) z):WE (zh (aC a<|aC b aN) g) as z:=by
 obtain⟨o,c,d,e⟩:=hg;exact⟨o,vN (yZ ha<|yZ hb zr) (by show g [(zC x||true,x),(zC y||true,y)]=_;rw[zyD,zyD];exact c),d,e⟩
def z_(ha:WE a as x)(hb:WE b as y)(hc:WE c as w)(hg:RE (g [(true,x),(true,y),(true,w)]) z):WE (zh (aC a<|aC b<|aC c aN) g) as z:=by
 obtain⟨o,d,e,f⟩:=hg;exact⟨o,vN (yZ ha<|yZ hb<|yZ hc zr) (by show g [(zC x||true,x),(zC y||true,y),(zC w||true,w)]=_;rw[zyD,zyD,zyD];exact d),e,f⟩
def qG(ha:WE a as x)(hg:g [(true,x)]=some (.lf s z)):WD (zh (aC a aN) g) as s z:=vN (yZ ha zr) (by show g [(zC x||true,x)]=_;rw[zyD];exact hg)
def Sw(ha:WE a as x)(hb:WE b as y)(hg:g [(true,x),(true,y)]=some (.lf s z)):WD (zh (aC a<|aC b aN) g) as s z:=vN (yZ ha<|yZ hb zr) (by show g [(zC x||true,x),(zC y||true,y)]=_;rw[zyD,zyD];exact hg)
def I_(ha:WE a as x)(hb:WE b as y)(hc:WE c as w)(hg:g [(true,x),(true,y),(true,w)]=some (.lf s z)):WD (zh (aC a<|aC b<|aC c aN) g) as s z:=vN (yZ ha<|yZ hb<|yZ hc zr) (by show g [(zC x||true,x),(zC y||true,y),(zC w||true,w)]=_;rw[zyD,zyD,zyD];exact hg)
def OU(ha:WE a as x)(hb:WE b as y)(hg:g x y=some (.im z)):WD (f2 a b g) as true z:=by
 obtain⟨o,c,d,rfl⟩:=ha;obtain⟨p,e,f,rfl⟩:=hb;have:=je c e hg;rw[d,f,Bool.and_true,zyD]at this;exact this
def cz(ha:WE a as x)(hb:WE b as y)(hg:g x y=some (.fl zs)):f2 a b g as=some (.ow<|.nd .ls<|zs.map<|O.lf true,as):=by
 obtain⟨o,c,d,rfl⟩:=ha;obtain⟨p,e,f,rfl⟩:=hb;exact DJ c e hg d f
theorem U8:∀zs:List D,O.strs (zs.map<|O.lf true)=true
 | []=>rfl
 |_::r=>U8 r
theorem TQ:∀zs:List D,O.toDs (zs.map<|O.lf true)=zs
 | []=>rfl
 |z::r=>congrArg (z :: ·)<|TQ r
def JJ(ha:WE a as x)(hb:WE b as y)(hg:g x y=some (.fl zs)):WE (f2 a b g) as (.lst zs):=⟨_,cz ha hb hg,U8 zs,congrArg D.lst<|TQ zs⟩
def yL(h:WE f as x)(hi:p<as.length):zp true p f as=some (.nx<|as.set p<|some<|.lf true x):=by
 obtain⟨o,a,b,rfl⟩:=h;have:=Du a hi;rw[show o.frz = .lf true o.toD by unfold O.frz;rw[b]]at this;exact this
def Iz(ha:WE a as x)(hb:WE b as y)(h:Xr 60 x y=some q):WD (f2 a b<|zy .Eq) as true (.bl q):=OU ha hb (by show(Xr 60 x y).bind _=_;rw[h];rfl)
def EI(ha:WE a as x)(hb:WE b as y)(h:Xr 60 x y=some q):WD (f2 a b<|zy .NotEq) as true (.bl<|!q):=OU ha hb (by show(Xr 60 x y).bind _=_;rw[h];rfl)
def Ho(ha:WE a as x)(hg:g [x]=some (.im z)):WD (fP (aC a aN) g) as true z:=Bj (yZ ha zr) hg rfl
def Jw{os}(ha:a as=some (.ow o,as))(hr:WO fr as os):WO (dC a fr) as (o::os):=xW ha hr
def Ju{os}(h:WO fr as os)(hl:os.length<=sizeLine):yd fr as=some (.ow<|Q3 os,as):=by
 unfold yd;unfold WO at h;rw[h];show(if os.length<=sizeLine then some _ else _)=_;rw[if_pos hl]
def uI{lo hi}(ha:WE a as y)(hl:fl as=some (lo,as))(hh:fh as=some (hi,as))(hg:g y lo hi=some (.fl zs)):WE (WR a fl fh g) as (.lst zs):=by
 obtain⟨o,b,c,rfl⟩:=ha;refine⟨.nd .ls _, ?_,U8 zs,congrArg D.lst<|TQ zs⟩;unfold WR;rw[b];show((fl as).bind _)=_;rw[hl];show((fh as).bind _)=_;rw[hh];show((g o.toD lo hi).bind _)=_;rw[hg];show(if _=true then some (RV.ow<|.nd .ls<|zs.map<|OI<|(some o.str).getD false)else none:Option RV).bind _=_;rw[if_pos (by simp),c];show some (RV.ow<|.nd .ls<|zs.map<|OI true,as)=_;rw[GS]
def Bq:QE (.lst<|xs++ys) (some (xs.length:Int)) none=some (.fl ys):=by
 show some _=_
 congr 2
 unfold cutD;rw[HT.WB,HT.K0,zzJ,Nat.min_eq_left<|q0v,List.drop_left,List.take_of_length_le<|by omega]
theorem X0:∀ds:List D,kids true ds=ds.map λd=>(true,d)
 | []=>rfl
 |d::r=>by show(zC d||true,d)::kids true r=_;rw[X0 r,zyD];rfl
def mC(h:WE f as (.lst ds)):xC f as=some (ds.map λd=>(true,d),as):=by
 obtain⟨o,a,b,c⟩:=h;unfold xC;rw[a];show(Rj _).bind _=_;rw[b,c];show some _=_;rw[X0]
def Oz(h:WD f as true (.lst ds)):YU f as=some (ds.map λd=>(true,d),as):=by
 unfold YU;unfold WD at h;rw[h];show some (kids true ds,as)=_;rw[X0]
end
section
variable{X:Cx}{kd:KD}
def gR:D->Option R0
 | .str x=>if x.length<=640 then(PySem.intText? x).bind λn=>some (.im<|.int n)else none
 |d=>gi d
def My:List D->Option R0:=qf gR
def Ht:Xb X kd (.type "int") My:=by
 intro c s σ H m e Q I r h;obtain⟨O,o,z,p,f,a,q⟩:=h;obtain⟨x,d,rfl,g,a⟩:=Pp f a;cases g with
 |str y=>
  obtain⟨j,a⟩:=ite_some' a;obtain⟨n,k,a⟩:=bS_ a;cases a;obtain⟨u,rfl,l⟩:=vals1 r;obtain⟨t,rfl⟩:=l;exact PySem.W.KIN.call_text k j ⟨.int _,H,I.tok _,⟨_,rfl⟩,ya q<|.int _⟩
 |int i=>cases a;exact NT c s σ H _ e Q I r (.inl ⟨_,rfl,ya q<|.int _⟩)
 |bl b=>cases a;exact NT c s σ H _ e Q I r (.inr ⟨_,rfl,ya q<|.int _⟩)
 |_=>cases a
end
section
variable{X:Cx}{pins:List (Addr×Obj)}{σ:List (Option V)}{H:Hp}{s:Shared}{h':Heap}
def RP{t':Nat}{ch:List Addr}(I:Inv X pins σ H s)(hf:∀b ∈ ch,Gx X pins H b)(k:∀b u,b ∉ ch->s.heap.get? b=some u->h'.get? b=some u)(hp:s.heap.objs.size<=T)
 (new:v_ X.prog X.w (upd H T o) h' T o):Inv X pins σ (upd H T o) {s with heap:=h',toks:=t'}:=by
 have hn:=I.hok.fresh hp;have nT:∀b u,s.heap.get? b=some u->b≠T:=λb u e z=>absurd (zzK (zxI e)<|by rw[z];exact hp)<|Nat.lt_irrefl _;have nc:∀b u,H b=some u->b ∉ ch:=λb u e z=>by have:=(hf b z).1;rw[e]at this;cases this
 refine I.step (g':=s.gens) (d':=s.drawn) (λb hb=>?_) (λb o _ _ hc e _=>k b o hc e) (λb o _ _ hc e _=>⟨o.slots,k b o hc e⟩) (λb o _ e n=>by rw[zH<|nT b o e];exact n)
  (λb o hc e=>⟨o,k b o hc e⟩) (λb xs e=>by rw[zH<|zY e hn];exact e) (λb o u e=>by rw[zH<|zY e hn];exact e) (λb ps e=>⟨#[],by rw[zH<|zY e hn,e];simp⟩) (λm hm=>?_) (λb u e=>?_) I.bare
 . obtain⟨f0,f1,f2,f3,f4,f5⟩:=hf b hb;exact⟨f3,f1,f4,f5⟩
 . obtain⟨o,es,ep,ho,r⟩:=hm;exact⟨o,es,ep,k _ o (λz=>(hf _ z).2.1 rfl) ho,r⟩
 . by_cases hb:b=T
   . subst hb;rw[ye]at e;cases e;exact new
   . rw[zH hb]at e;refine(I.hok b u e).stay (λc v hc q=>k c v ?_ q) (λc q=>by rw[zH<|zY q hn];exact q) λc xs q=>by rw[zH<|zY q hn];exact q
     rcases hc with z|z
     . rw[z];exact nc b u e
     . exact nc c _ z
end
section
variable{as:AS}{f a b:EF}{s t:Bool}{x y z:D}
def qQ(h:WE f as (.tup ds)):xC f as=some (ds.map λd=>(true,d),as):=by
 obtain⟨o,a,b,c⟩:=h;unfold xC;rw[a];show(Rj _).bind _=_;rw[b,c];show some _=_;rw[X0]
def Dc:QE (.lst<|xs++ys) none (some (xs.length:Int))=some (.fl xs):=by
 show some _=_
 congr 2
 unfold cutD;rw[HT.WB,HT.K0,zzJ,Nat.min_eq_left<|q0v,List.drop_zero,Nat.sub_zero,List.take_left]
end
def Kt{t':Nat}{ch:List Addr}(I:Inv X pins σ H s)(hf:∀b ∈ ch,Gx X pins H b)(k:∀b u,b ∉ ch->s.heap.get? b=some u->h'.get? b=some u):Inv X pins σ H {s with heap:=h',toks:=t'}:=by
 have nc:∀b u,H b=some u->b ∉ ch:=λb u e z=>by have:=(hf b z).1;rw[e]at this;cases this
 refine I.step (g':=s.gens) (d':=s.drawn) (λb hb=>?_) (λb o _ _ hc e _=>k b o hc e) (λb o _ _ hc e _=>⟨o.slots,k b o hc e⟩) (λb o _ e n=>n)
  (λb o hc e=>⟨o,k b o hc e⟩) (λb xs e=>e) (λb o u e=>e) (λb ps e=>⟨#[],by rw[e];simp⟩) (λm hm=>?_) (λb u e=>?_) I.bare
 . obtain⟨f0,f1,f2,f3,f4,f5⟩:=hf b hb;exact⟨f3,f1,f4,f5⟩
 . obtain⟨o,es,ep,ho,r⟩:=hm;exact⟨o,es,ep,k _ o (λz=>(hf _ z).2.1 rfl) ho,r⟩
 . refine(I.hok b u e).stay (λc v hc q=>k c v ?_ q) (λc q=>q) λc xs q=>q
   rcases hc with z|z
   . rw[z];exact nc b u e
   . exact nc c _ z
section
variable{X:Cx}{tg:Expr}
def OV(I l1 l2:Nat)(h1:l1<I)(h2:l2<I):ZipApart (I+4) (I+2) (I+3) I (I+1) l1 l2:=by
 constructor<;>(show(_:Nat)≠_;omega)
end
section
variable{X:Cx}{kd:KD}{tg e:Expr}{fa:EF}
noncomputable def Qc(st:Bool):List D->List D->List wK
 |x::r,y::t=>(st,.tup [x,y])::Qc st r t
 |_,_=>[]
theorem Rb(st):∀(xs ys:List D),(Qc st xs ys).length=min xs.length ys.length
 | [],_=>by simp[Qc]
 |_::_,[]=>by simp[Qc]
 |_::r,_::t=>by simp only[Qc,zzT,Rb st r t];omega
theorem L5{st}:∀{xs ys:List D}{i:Nat}{y:wK},(Qc st xs ys)[i]? = some y->∃d e,xs[i]? = some d/\ys[i]? = some e/\y=(st,.tup [d,e])
 | [],_,_,_,h=>by simp[Qc]at h
 |_::_,[],_,_,h=>by simp[Qc]at h
 |x::r,y::t,0,z,h=>by
  simp only[Qc,List.getElem?_cons_zero]at h;cases h;exact⟨x,y,rfl,rfl,rfl⟩
 |x::r,y::t,i+1,z,h=>by
  simp only[Qc,List.getElem?_cons_succ]at h;obtain⟨d,e,h1,h2,h3⟩:=L5 h;exact⟨d,e,by simpa using h1,by simpa using h2,h3⟩
end
def tE{K O}(h:RpL K kd O H vs ds)(hv:zP vs us)(e:V2 ds=some ns):IntsAre us ns:=
 RpL.ind (P:=λvs ds=>∀us ns,zP vs us->V2 ds=some ns->IntsAre us ns) (λus ns hv e=>by cases e;cases hv;exact .nil) (λ{v d vs ds} a _ ih us ns hv e=>by
  cases hv with
  |cons b t=>
   cases a with
   |int x=>
    obtain⟨ys,h1,h2⟩:=bS_<|e;cases h2;obtain⟨tk,rfl⟩:=b;exact .cons _ _ (ih _ _ t h1)
   |_=>cases e) h us ns hv e
def ES(f:D->Option Bool):List D->Option Nat
 | []=>none
 |x::r=>(f x).bind λb=>if b=true then(anyF f r).bind λ_=>some 0 else(ES f r).bind λj=>some<|j+1
def Hb(d:D):List D->Option R0:=qf λx=>(oo d).bind λds=>(ES (λy=>Xr 50 y x) ds).bind λj=>if ds.length<=1000 then some (.im<|.int j)else none
theorem Be:∀{ds:List D}{j:Nat},ES f ds=some j->∀d ∈ ds,∃c,f d=some c
 | [],_,h,_,m=>nomatch m
 |x::r,j,h,d,m=>by
  obtain⟨b,e,h⟩:=bS_<|h
  rcases zzC.mp m with rfl|m
  . exact⟨b,e⟩
  . cases b with
    |true=>
     obtain⟨c,a,_⟩:=bS_<|h;exact XA a d m
    |false=>
     obtain⟨k,a,_⟩:=bS_<|h;exact Be a d m
section
variable{X:Cx}{kd:KD}{pins:List (Addr×Obj)}{σ:St}{H:Hp}{s:Shared}{O:Addr->Prop}
def DA(I:Inv X pins σ H s)(hk:KdOk X kd)(hv:zP vs us)(h:RpL X.K kd O H vs ds)(e:ES (λy=>Xr n y x) ds=some j):∃h:j<us.length,tF X.K kd O H n x us[j]=true/\∀m (hm:m<us.length),m<j->tF X.K kd O H n x us[m]=false:=
 RpL.ind (P:=λvs ds=>∀us j,zP vs us->ES (λy=>Xr n y x) ds=some j->∃h:j<us.length,tF X.K kd O H n x us[j]=true/\∀m hm,m<j->tF X.K kd O H n x us[m]=false) (λus j hv e=>by cases e) (λ{v d vs ds} a _ ih us j hv h=>by
  cases hv with
  |cons r t=>
   obtain⟨b,h1,h⟩:=bS_<|h;cases b with
   |true=>
    obtain⟨c,h2,h3⟩:=bS_<|h;cases h3;exact⟨by simp,M7 I hk r a h1,λm hm hlt=>by omega⟩
   |false=>
    obtain⟨k,h2,h3⟩:=bS_<|h;cases h3;obtain⟨hk',e1,e2⟩:=ih _ _ t h2;refine⟨by simpa using hk',by simpa using e1,λm hm hlt=>?_⟩;cases m with
    |zero=>exact M7 I hk r a h1
    |succ m=>simpa using e2 m (by simpa using hm) (by omega)) h us j hv e
def IG(hk:KdOk X kd)(hu:X.A.units+100<cLine):eA X kd "list.index" Hb:=by
 intro k s σ H x Y v Z Q I C r h;obtain⟨O,d,ds,r0,ht,D,E,a,q⟩:=h;obtain⟨y',y,rfl,G,a⟩:=Pp E a;obtain⟨es,J,b⟩:=bS_<|a;cases Pi J
 . obtain⟨j,l,a⟩:=bS_ b;obtain⟨hz,a⟩:=zv a;cases a;obtain⟨u,rfl,L⟩:=vals1 r;cases D with
   |lst M c=>
    cases C;obtain⟨e,f,N,_⟩:=I.list M.sq;obtain⟨⟨cls,P,o,R⟩,p,t,n,z⟩:=N.isList;simp only at t z;subst t z;obtain⟨S,T,U⟩:=DA I hk f c l;have B:=f.length;have g:=c.length;refine call_meets PySem.F.slot_list_index ⟨_,p,rfl⟩ PySem.F.entry_list_index (PySem.F.args_list_index_2 _ _)
     (SeqAt.list_indexAt _ e.toArray n P R _ _ j (by simpa using S) (by omega) (by simpa using T) λm V i=>by simpa using U m (by simpa using V) i)
     ⟨p,λw W=>RK I hk (by show X.A.units+1+50<cLine;exact q0f hu) G L f c (Be l) w (by simpa using W),⟨.int j,H,I.tok _,⟨_,rfl⟩,ya q<|.int _⟩⟩
end
def Yw(n:Nat)(os:List O):AS:=os.map some++List.replicate (n-os.length) none
theorem OE:∀(ls:List O) {vs:List V}{fp:List Addr},ls.all O.isLf=true->RoL L N H vs ls fp->fp=[]
 | [],_,_,_,r=>by cases r;rfl
 |o::ls,_,_,h,r=>by
  rw[List.all_cons,zyC]at h;cases r with
  |cons a r=>
   cases a with
   |lf _=>rw[OE ls h.2 r];rfl
   |_=>exact absurd h.1 (by simp[O.isLf])
def uh(h:RoL L N H vs ls fp):vs.length=ls.length:=RoL.length h
theorem H0:∀(ls:List O) {vs:List V}{fp:List Addr}{i:Nat}{o:O},ls.all O.isLf=true->RoL L N H vs ls fp->ls[i]? = some o->∃v,vs[i]? = some v/\Ro L N H v o []
 | [],_,_,_,_,_,_,e=>by simp at e
 |d::ls,_,_,i,o,h,r,e=>by
  rw[List.all_cons,zyC]at h;cases r with
  |cons a r=>
   cases i with
   |zero=>
    simp at e;subst e;cases a with
    |lf z=>exact⟨_,rfl,.lf z⟩
    |_=>exact absurd h.1 (by simp[O.isLf])
   |succ i=>
    obtain⟨v,b,c⟩:=H0 ls h.2 r (by simpa using e);exact⟨v,by simpa using b,c⟩
def LU{K}(ht:∀a,F a->H a≠none)(hn:T.Nodup)(hT:∀a ∈ T,H a≠none/\¬F a)(hl:ls.all O.isLf=true)(hN:(o::ls).length<=N.length)(ro:vR K kd F (λ_=>False) (· ∈ T) H vs (o::ls) T):
 Rel K kd F (λ_=>False) [] (λi=>if i=0 then T else[]) (Yw N.length (o::ls)) (L2.start N vs) H:=by
 have b:=uh ro;have n:∀a,Gw [] (λi=>if i=0 then T else[]) a ↔ a ∈ T:=λa=>⟨λz=>z.elim (λy=>nomatch y) λ⟨i,y⟩=>by
  by_cases e:i=0
  . subst e;simpa using y
  . simp[e]at y,λz=>.inr ⟨0,by simpa using z⟩⟩
 have p:∀f a,Lv F (λ_=>False) _ f a->Lv F (λ_=>False) (· ∈ T) f a:=λf a z=>z.imp id (n a).mp;refine⟨by unfold Yw L2.start;simp[b];omega,λi c=>?_,λi=>?_,λi j a x y=>?_,zyJ,(λ_ _ _ z=>nomatch z),ht,(λ_ z=>z.elim),λa z=>hT a<|(n a).mp z,λi s e=>?_⟩
 . have:i≠0:=λz=>by subst z;unfold Yw at c;simp at c
   simp[this]
 . by_cases e:i=0
   . subst e;simpa using hn
   . simp[e]
 . have g:i=0:=by
    by_cases e:i=0
    . exact e
    . simp[e]at x
   have h:j=0:=by
    by_cases e:j=0
    . exact e
    . simp[e]at y
   rw[g,h]
 . unfold Yw at e;unfold L2.start
   by_cases c:i<(o::ls).length
   . rw[zyP (by rw[zzB];exact c),zzI]at e;obtain⟨d,k,l⟩:=zzX.mp e;subst l;rw[zyP (by rw[zzB,b];exact c),zzI];cases ro with
     |cons a r=>
      rename_i v q A t;have u:=OE ls hl r;subst u;cases i with
      |zero=>
       simp at k;subst k;exact⟨v,rfl,by simpa using YV.lv p a⟩
      |succ i=>
       obtain⟨w,g,h⟩:=H0 ls hl r (show ls[i]? = some d by simpa using k);exact⟨w,by simp[g],by simpa using YV.lv p h⟩
   . rw[zyR<|by rw[zzB];exact q0O b c]at e;have:=zyA e;have l:=(List.mem_replicate.mp this).2;subst l;have m:i≠0:=λz=>by subst z;exact c (by simp)
     show _=[];rw[if_neg m]
section
variable{K:zzA}{kd:KD}{F B G:Addr->Prop}{H:Hp}
theorem FW{st}(h:L st v d):∀(os:List O) {vs:List V}{fp:List Addr},RoL L N H vs os fp->RoL L N H (vs++[v]) (os++[.lf st d]) fp
 | [],_,_,r=>by cases r;exact .cons (.lf h) .nil
 |o::b,_,_,r=>by
  cases r with
  |cons a r=>
   exact .cons a<|FW h b r
end
def Fc:typeLookup (.type "list") "keys"=pure none:=am_miss_of_fast (by decide +kernel)
def Sx
 (hx:s.heap.get? a=some o) (hc:o.cls = .type "list") (hdat:o.data = .seq xs k) (hd:o.dict=none) (hA:A.handled=none)
 (h:∀h' tk,(∀b o,s.heap.get? b=some o->h'.get? b=some o)->Q none {s with heap:=h',toks:=tk}):
 wpAny (model prog w) A (getAttr? (.ref a) "keys") Q E s:=by
 obtain⟨c,dct,dat,sl⟩:=o;simp only at hc hdat hd;subst hc hdat hd;obtain⟨hp,g,d,tk,os⟩:=s;have hT:∀tk',(⟨hp,g,d,tk',os⟩:Shared).TypeIs (.ref a) "list":=λ_=>⟨_,hx,rfl⟩;have f1:=sub_AttributeError;have f3:=F.slot_list_getattribute.lookup;have f4:=F.slot_list_getattribute.bind<|.ref a;have f5:=am_list_getattr_none;unfold getAttr? getAttrBy? getAttrBy
 repeat (any_goals (first|assumption|exact hT _|((with_reducible show wpAny _ _ (call _ _ _) _ _ _);refine call_meets F.slot_list_getattribute (hT _) am_entry_list_getattribute (F.args_list_getattribute_2 _ _) (meets_getattribute_miss_list a xs k sl "keys" _ Fc<|by decide +kernel) ⟨hx,hA,λh' tk' e hx'=>?_⟩)|wp_step))
 obtain⟨t',u',he⟩:=hx'.there;unfold getattributeRaised
 repeat (any_goals (first|assumption|wp_step))
 exact h _ _ hx'.keeps
def vU:plainId "dict.update.loop"=true:=by decide +kernel
theorem V6:entryFor table "dict.update.loop"=some Builtin.«dict.update.loop» := entryFor_of_fast (by kernel_rfl)
section
variable{prog:Program}{w:World}{κ:Type}[DecidableEq κ]{knd:KeyKind prog w κ}{A:Around}{R:Result->Shared->Prop}{d I l:Addr}{items:Array Value}{N:Nat}
noncomputable def putAll(kvs:List (κ×Value)):List (κ×Value)->List (κ×Value)
 | []=>kvs
 |p::r=>putAll (stored kvs p.1 p.2) r
def S9(kvs)(k:κ)(v):(stored kvs k v).length<=kvs.length+1:=by
 unfold stored
 split
 . rw[zzB];omega
 . rw[zzJ];exact zzN _
def Iv(hh:A.handled=none)(hdN:N<=d)(hIN:N<=I)(hdI:d≠I)(hlN:l<N):∀(rest:List (κ×Value)) (i:Nat) (s:Shared) (kvs:List (κ×Value)),s.heap.IsListIter I l i->s.heap.IsList l items->s.heap.DictOf knd d kvs->kvs.length+rest.length<=sizeLine->
 (∀j p,rest[j]? = some p->∃q key,items[i+j]? = some (.ref q)/\q<N/\IsTup s.heap q #[key,p.2]/\knd.is p.1 key=true)->items[i+rest.length]? = none->
 (∀h' tk,h'.DictOf knd d (putAll kvs rest)->(∀b o,b<N->s.heap.get? b=some o->h'.get? b=some o)->R (.ok<|.ret .none) {s with heap:=h',toks:=tk})->
 codeAny (model prog w) A (.builtin "dict.update.loop" ⟨[.ref d,.ref I,rawInt i,.none],[]⟩) R s:=by
 intro rest
 induction rest with
 |nil=>
  intro i s kvs hit hl hm hz hp he hR;refine codeAny_builtin V6 ?_;rw[Around.under_plainId vU _];refine zxF<|wpAny_pyNext_list_end hh hit hl he λh' hx=>?_;refine zxF<|zxG<|zxG ?_;obtain⟨o,es,ep,ho,r⟩:=hm;exact hR h' s.toks ⟨o,es,ep,hx d o hdI ho,r⟩ λb o hb e=>hx b o (zzQ<|zzK hb hIN) e
 |cons p rest ih=>
  intro i s kvs hit hl hm hz hp he hR;obtain⟨q,key,hq,hqN,ht,hkey⟩:=hp 0 p rfl;refine codeAny_builtin V6 ?_;rw[Around.under_plainId vU _];refine zxF<|wpAny_pyNext_list_item hit hl hq λh' hit' hs=>?_;have sm:∀b o,b≠I->s.heap.get? b=some o->h'.get? b=some o:=λb o hb e=>(hs.2 b hb).trans e;obtain⟨oq,hoq,hcq,nq,hdq⟩:=ht;have hoq':=sm q oq (zzQ<|zzK hqN hIN) hoq;have hm':h'.DictOf knd d kvs:=let⟨o,es,ep,ho,r⟩:=hm;⟨o,es,ep,sm d o hdI ho,r⟩;have hl':h'.IsList l items:=let⟨o,ho,r⟩:=hl;⟨o,sm l o (zzQ<|zzK hlN hIN) ho,r⟩;have hT:({s with heap:=h'}:Shared).TypeIs (.ref q) "tuple":=⟨oq,hoq',hcq⟩;refine zxF<|zxK<|zxF<|wpAny_tryCatch ?_;unfold Builtin.Dict.pairItems;refine zxF<|wpAny_typeOf hT ?_;rw[if_pos<|by decide];refine zxF<|wpAny_seqItems hoq' hdq<|zxG ?_;refine zxK<|wpAny_dictSet_pairs hkey hm' λh'' hm'' hs''=>?_;have sm2:∀b o,b≠d->h'.get? b=some o->h''.get? b=some o:=λb o hb e=>(hs''.2 b hb).trans e;refine zxG ⟨plainId_quiet vU _, ?_⟩;have hit'':h''.IsListIter I l (i+1):=let⟨o,ho,r⟩:=hit';⟨o,sm2 I o (Ne.symm hdI) ho,r⟩;have hl'':h''.IsList l items:=let⟨o,ho,r⟩:=hl';⟨o,sm2 l o (zzQ<|zzK hlN hdN) ho,r⟩;have keep:=λb o hb e=>sm2 b o (zzQ<|zzK hb hdN)<|sm b o (zzQ<|zzK hb hIN) e;have:=ih (i+1) {s with heap:=h'',toks:=s.toks+1} _ hit'' hl'' hm'' (by have:=S9 kvs p.1 p.2;simp only[zzT]at hz;omega)
   (λj p' hj=>by
    obtain⟨q',key',a1,a2,⟨o',a3,a4⟩,a5⟩:=hp (j+1) p' (by simpa using hj);exact⟨q',key',by rw[show i+1+j=i+(j+1) from q0r];exact a1,a2,⟨o',keep q' o' a2 a3,a4⟩,a5⟩)
   (by rw[show i+1+rest.length=i+(p::rest).length by simp only[zzT];exact q0r];exact he)
   (λh3 tk hm3 k3=>hR h3 tk hm3 λb o hb e=>k3 b o hb<|keep b o hb e)
  exact this
end
def Ky{κ:Type}[DecidableEq κ]{knd:KeyKind prog w κ}{n:Nat}{ps}(hh:A.handled=none)
 (ho:s.heap.get? l=some o) (hc:o.cls = .type "list") (hd:o.data = .seq items n) (hn:o.dict=none) (hsz:ps.length<=sizeLine)
 (hp:∀(j:Nat) (p:κ×Value),ps[j]? = some p->∃(q:Addr) (key:Value),items[j]? = some (Value.ref q)/\IsTup s.heap q #[key,p.2]/\knd.is p.1 key=true) (he:items[ps.length]? = none)
 (h:∀h' tk,h'.DictOf knd s.heap.objs.size (putAll [] ps)->(∀b o,s.heap.get? b=some o->h'.get? b=some o)->Q (.ref s.heap.objs.size) {s with heap:=h',toks:=tk}):wpAny (model prog w) A (call (.type "dict") [.ref l]) Q E s:=by
 refine callType_codes (Q₁:=λd z=>d = .ref s.heap.objs.size/\z={s with heap:=s.heap.push {cls:=.type "dict",data:=.dict #[]}}) F.kt_called_dict (F.kt_typeCall_dict_1 _) F.entry_dict_init (kt_code_dict_new _ ⟨rfl,rfl⟩) ?_
 rintro d z ⟨rfl,rfl⟩
 have a:(s.heap.push {cls:=.type "dict",data:=.dict #[]}).DictOf knd s.heap.objs.size []:=Heap.DictOf.new s.heap;have f:∀b o,s.heap.get? b=some o->(s.heap.push {cls:=.type "dict",data:=.dict #[]}).get? b=some o:=λb o e=>zxH _ e;have C:({s with heap:=s.heap.push {cls:=.type "dict",data:=.dict #[]}}:Shared).TypeIs (.ref l) "list":=⟨o,f l o ho,hc⟩;refine⟨a.typeIs,F.args_dict_init_2 _ _, ?_⟩;unfold Builtin.«dict.__init__»;refine zxF ?_;unfold Builtin.Dict.selfAndRest;refine zxF<|wpAny_notOrdered_dict a.typeIs ?_;refine zxG ?_;show wpAny _ _ (Builtin.Dict.updateFrom "dict.__init__" s.heap.objs.size _ [] .none) _ _ _;unfold Builtin.Dict.updateFrom;refine zxF<|wpAny_typeOf C ?_;rw[if_pos<|by decide];refine zxF<|Sx (f l o ho) hc hd hn hh λg v i=>?_;rw[if_pos<|by decide];refine zxF<|wpAny_rule ?_;have k:=i l o<|f l o ho;have x:g.IsList l items:=⟨o,k,hc,n,hd⟩;refine zxF<|wpAny_pyIter_list x ?_;have t:∀b o,g.get? b=some o->(g.push {cls:=.type "list_iterator",data:=.fields #[.ref l,.int 0 0]}).get? b=some o:=λb o e=>zxH _ e;have m:s.heap.objs.size<g.objs.size:=by
  obtain⟨u,_,_,c,_⟩:=a;exact zxI<|i _ _ c
 refine zxG ⟨plainId_quiet vU _, ?_⟩;refine Iv (A:=A.in1) (knd:=knd) hh (zzN _) (Nat.le_of_lt m) (zzQ m) (zxI ho) ps 0 {s with heap:=g.push {cls:=.type "list_iterator",data:=.fields #[.ref l,.int 0 0]},toks:=v} [] ⟨_,zxJ _ rfl,rfl,rfl⟩ ⟨o,t l o k,hc,n,hd⟩ ?_ (by rw[List.length_nil];omega) (λj p D=>?_) (by rw[zyX];exact he) λG H I J=>?_
 . obtain⟨u,K,L,c,r⟩:=a;exact⟨u,K,L,t _ _<|i _ _ c,r⟩
 . obtain⟨q,y,M,⟨u,B,O⟩,P⟩:=hp j p D;exact⟨q,y,by rw[zyX];exact M,zxI B,⟨u,t _ _<|i _ _<|f _ _ B,O⟩,P⟩
 . exact⟨rfl,h G H I λb o e=>J b o (zxI e)<|t _ _<|i _ _<|f _ _ e⟩
def PM:List D->Option (List<|Key×D)
 | []=>some []
 |d::r=>(gX d).bind λl=>(pV l).bind λp=>(uK p.1).bind λk=>(PM r).bind λt=>some ((k,p.2)::t)
def iy:D->Option R0
 | .dct kvs=>some<|.fd kvs
 | .lst ds=>(PM ds).bind λkvs=>if(kvs.map (·.1)).Nodup then some (.fd kvs)else none
 |_=>none
def LY:List D->Option R0:=qf iy
theorem LQ[DecidableEq κ]:∀(ps acc:List (κ×Value)),((acc++ps).map (·.1)).Nodup->putAll acc ps=acc++ps
 | [],a,_=>(zyE a).symm
 |p::r,a,h=>by
  have b:stored a p.1 p.2=a++[p]:=by
   unfold stored;rw[if_neg];rw[zyM,zyS]at h;obtain⟨_,_,c⟩:=zxE.mp h;intro z;obtain⟨q,m,e⟩:=List.any_eq_true.mp z;exact c q.1 (List.mem_map_of_mem m) p.1 (zzF ..)<|of_decide_eq_true e
  show putAll _ r=_;rw[b,LQ r _ (by rw[zxC];exact h),zxC];rfl
section
variable{X:Cx}{kd:KD}{O:Addr->Prop}{pins:List (Addr×Obj)}{σ:St}{H:Hp}{s:Shared}
theorem Ly(I:Inv X pins σ H s):∀{vs:List V}{us:List Value}{ds:List D}{dk:List (Key×D)},RpL X.K kd O H vs ds->zP vs us->PM ds=some dk->
 ∃(kvs:List (Key×V)) (ps:List (Key×Value)),KV kvs ps/\RpM X.K kd O H kvs dk/\ps.length=us.length/\ps.map (·.1)=dk.map (·.1)/\kvs.length=ps.length/\
  ∀(j:Nat) (p:Key×Value),ps[j]? = some p->∃(q:Addr) (key:Value),us[j]? = some (Value.ref q)/\IsTup s.heap q #[key,p.2]/\(x6 X.prog X.w).is p.1 key=true
 |_,_,[],_,b,r,e=>by
  cases b;cases r;cases e;exact⟨[],[],.nil,.nil,rfl,rfl,rfl,λj p h=>by simp at h⟩
 |_,_,d::i,dk,b,r,e=>by
  cases b with
  |cons l b=>
   rename_i v vs;cases r with
   |cons m r=>
    rename_i u us;obtain⟨l0,n,o⟩:=bS_<|e;obtain⟨⟨k,dv⟩,x,y⟩:=bS_ o;cases JT n;cases EM x
    . obtain⟨c,z,e⟩:=bS_ y;obtain⟨t,A,e⟩:=bS_ e;cases e;obtain⟨f,B,C,E,F,G,J,L⟩:=Ly I b r A;cases l.vw with
      | tup M N a=>
            rename_i q ws;cases a with
            |cons P a=>
             cases a with
             |cons Q a=>
              cases a;rename_i R g;have S:=A0 P.vw z;subst S;obtain⟨T,U,W,_⟩:=I.tuple N;obtain⟨Y,Z,rfl,r1,r2⟩:=vals2 U;cases m;refine⟨(c,g)::f,(c,Z)::B,.cons ⟨rfl,r2⟩ C,.cons Q E,congrArg (· + 1) F,congrArg (c :: ·) G,congrArg (· + 1) J,λj p h=>?_⟩;cases j with
              |zero=>
               simp at h;subst h;exact⟨q,Y,rfl,W,HJ r1⟩
              |succ j=>simpa using L j p (by simpa using h)
def Ut(hc:X.calm=true)(hk:KdOk X kd):Xb X kd (.type "dict") LY:=by
 intro c s σ H xs A Q I r h;obtain⟨O,ds,z,B,C,b,q⟩:=h;obtain⟨x,d,rfl,D,b⟩:=Pp C b;cases D with
 |dct e E=>exact Ct hk c s σ H _ A Q I r ⟨O,[.dct _],z,B,.cons (.dct e E) .nil,b,q⟩
 |lst e F=>
  obtain⟨dk,G,b⟩:=bS_<|b;obtain⟨J,b⟩:=zv b;cases b;obtain⟨u,rfl,K⟩:=vals1 r;cases K;obtain⟨L,m,⟨o,n,M,f,g,i⟩,hz⟩:=I.list e.sq;obtain⟨k,t,N,P,R,S,a5,T⟩:=Ly I F m G;have v:=m.length;refine Ky (knd:=x6 X.prog X.w) (ps:=t) (I.ok.hd hc) M f i g (by omega) (λj p U=>?_) (by rw[R];simp) λh' V y W=>?_
  . obtain⟨Y,l,Z,b2,b3⟩:=T j p U;exact⟨Y,l,by simpa using Z,b2,b3⟩
  . rw[LQ t [] (by rw[List.nil_append,S];exact J),List.nil_append]at y;exact⟨.ref _,_,I.laid (t':=V) W (zzN _)<|J7 (by omega) (beq_eq_false_iff_ne.mpr<|Ne.symm<|zzQ I.big) N y,rfl,Jt q P _<|I.hok.fresh<|zzN _⟩
 |_=>cases b
end
noncomputable def DY:List D->Option R0
 | [.int i,.int j]=>if 0<j/\j<1073741824 then some (.im<|.tup [.int<|i/j,.int<|i%j])else none
 |_=>none
def eZ{α:Type}{P:List α->Prop}(h:∀a,P [a]):∀us:List α,us.length=1->P us
 | [a],_=>h a
def dt{α:Type}{P:List α->Prop}(h:∀a b,P [a,b]):∀us:List α,us.length=2->P us
 | [a,b],_=>h a b
def e_{α:Type}{P:List α->Prop}(h:∀a b c,P [a,b,c]):∀us:List α,us.length=3->P us
 | [a,b,c],_=>h a b c
def de{α:Type}{P:List α->Prop}(h:∀a b c d,P [a,b,c,d]):∀us:List α,us.length=4->P us
 | [a,b,c,d],_=>h a b c d
def cw{α:Type}{P:List α->Prop}(h:∀a b c d e,P [a,b,c,d,e]):∀us:List α,us.length=5->P us
 | [a,b,c,d,e],_=>h a b c d e
section
variable{X:Cx}{kd:KD}
def CV:Xb X kd (.builtin "divmod") DY:=by
 intro a s σ H j c Q I r h;obtain⟨O,k,z,d,e,b,q⟩:=h;unfold DY at b
 split at b
 . obtain⟨f,rfl⟩:=zv b;obtain⟨x,y,rfl,g,i⟩:=Hy e;cases g;cases i;exact Br a s σ H _ c Q I r ⟨_,_,rfl,f,K5 d q<|.cons (.int _)<|.cons (.int _) .nil⟩
 . cases b
def aI:AE X kd (.Constant (.int c) j pos) (fC<|.int c):=KH qr λ_ _=>.int _
def aS:AE X kd (.Constant (.str c) j pos) (fC<|.str c):=KH p7 λ_ _=>.str _
def aZ:AE X kd (.Constant .none j pos) (fC .non):=KH oj λ_ _=>.non
def aB:AE X kd (.Constant (.bool c) j pos) (fC<|.bl c):=KH jj λ_ _=>.bl _
def ax{K}(hkd:Df P w K kd)(ha:AE X kd a fa)(hb:AE X kd b fb)(h1:X.prog=P:=by rfl)(h2:X.w=w:=by rfl)(h3:X.K=K:=by rfl)(hm:MO b:=by exact λ_ _=>rfl):AE X kd (.Subscript a b pos) (f2 fa fb zx):=jq (iZ<|hkd _ h1 h2 h3) ha hb hm
def sv(z)(i:Nat)(hN:X.N.Nodup)(he:AE X kd e fa)(hi:X.N[i]? = some x:=by rfl)(hx:Loc X.env.scope x:=by first|exact Or.inl rfl|exact Or.inr rfl)(hs:swapsWith e (some<|.Name x pos') pos.line X.env=pure false:=by rfl)(hf:X.fn x=true\/X.env.scope.names.lookup x=some .local:=by first|exact Or.inl rfl|exact Or.inr rfl):
 B2 X kd (.Assign [.Name x pos'] e pos) (zp z i fa):=Ak hN hi hx he hs hf
def an(i:Nat)(hN:X.N.Nodup)(hi:X.N[i]? = some x:=by rfl)(hx:Loc X.env.scope x:=by first|exact Or.inl rfl|exact Or.inr rfl)(hf:X.fn x=true\/X.env.scope.names.lookup x=some .local:=by first|exact Or.inl rfl|exact Or.inr rfl):AG X kd (.Name x pos) [i] (gN i):=Od hN hi hx hf
def av(i:Nat)(hN:X.N[i]? = some x:=by rfl)(hv:jO X.env.scope x:=by first|exact Or.inl rfl|exact Or.inr (Or.inl rfl)|exact Or.inr (Or.inr rfl))(hd:(x==("__debug__":Str))=false:=by decide)
 (hcd:(x==("__classdict__":Str))=false:=by decide):AE X kd (.Name x pos) (fV i):=ng<|A9 hN hv hd hcd
end
noncomputable def B6{α:Type}:List Str->List α->Str->Option α
 | [],_,_=>none
 |_,[],_=>none
 |n::ns,a::as,f=>if f=n then some a else B6 ns as f
theorem YC(f):∀(ns:List Str) (vs:List V),(ns.zip vs).lookup f=B6 ns vs f
 | [],_=>rfl
 |_::_,[]=>rfl
 |n::a,v::b=>by
  show List.lookup f (_::a.zip b)=if f=n then some v else B6 a b f
  rw[List.lookup_cons]
  by_cases h:f=n
  . rw[if_pos h,beq_iff_eq.mpr h]
  . rw[if_neg h,beq_eq_false_iff_ne.mpr h];exact YC f a b
theorem JN{K O}:∀{ns:List Str}{vs:List V}{ds:List D},RpL K kd O H vs ds->B6 ns ds f=some d->∃v,B6 ns vs f=some v/\Rp K kd O H v d
 | [],_,_,_,e=>by cases e
 |_::_,_,_,.nil,e=>by cases e
 |n::a,_,_,.cons (v:=v) (d:=b) (vs:=c) (ds:=g) h r,e=>by
  have e:(if f=n then some b else B6 a g f)=some d:=e;show ∃w,(if f=n then some v else B6 a c f)=some w/\_
  by_cases q:f=n
  . rw[if_pos q]at e ⊢;cases e;exact⟨v,rfl,h⟩
  . rw[if_neg q]at e ⊢;exact JN r e
theorem Rr:∀{ns:List Str}{vs:List α},f ∉ ns->B6 ns vs f=none
 | [],_,_=>rfl
 |_::_,[],_=>rfl
 |n::a,v::b,h=>by
  show(if f=n then some v else B6 a b f)=_;rw[if_neg λe=>h<|by rw[e];exact zzF];exact Rr λm=>h<|zzD _ m
theorem K6:∀{ns:List Str}{vs:List V},ns.length=vs.length->f ∉ ns->VL f v (ns.zip vs)=(ns++[f]).zip (vs++[v])
 | [],[],_,_=>rfl
 | [],_::_,h,_=>by cases h
 |_::_,[],h,_=>by cases h
 |n::a,w::b,h,c=>by
  show(if n=f then _::a.zip b else _::VL f v (a.zip b))=_::(a++[f]).zip (b++[v]);rw[if_neg λe=>c (by rw[e];exact zzF),K6 (Nat.succ.inj h) λm=>c<|zzD _ m]
def zT(cs:List Str)(f:Str):D->Option R0
 | .ob c ns ds=>if c ∈ cs then(B6 ns ds f).bind λd=>some (.im d)else none
 |_=>none
def CF(K:zzA)(kd:KD)(cs:List Str)(f:Str):Prop:=∀c ∈ cs,Cls K (kd.c c)/\yC K (kd.c c) f
section
variable{X:Cx}{kd:KD}{a e o:Expr}{es:List Expr}{fa fo fe:EF}{fr:AF}{pos pos' apos:Pos}{m f:Str}{cs:List Str}
def rW(hc:CF X.K kd cs f)(ha:AE X kd a fa)(hb:attributeBase a f X.env (eval a X.env)=eval a X.env):AE X kd (.Attribute a f pos) (f1 fa<|zT cs f):=by
 with_unfolding_all exact(yo (Ec ha hb) λσ H Q h=>by
  obtain⟨F,B,P,as,r,m,R,e,q⟩:=h;obtain⟨⟨p,n⟩,o,e⟩:=bS_<|e;obtain⟨⟨x,S⟩,s,e⟩:=bS_ e;obtain⟨z,b,e⟩:=bS_ e;obtain⟨y,t,e⟩:=bS_ e;cases e;refine vT R o λv c u k g A=>?_;have C:=xo.vw k g s;have D:=Y2 k t λw E G I i J=>q w E c G I i<|A.trans J;cases C with
  |ob L T M=>
   obtain⟨l,b⟩:=ite_some' b;obtain⟨d,N,b⟩:=bS_ b;cases b;obtain⟨w,O,j⟩:=JN M N;exact⟨_,_,_,_,w,rfl,L,(hc _ l).1,(hc _ l).2,(YC _ _ _).trans O,D w u (λ_ _ z=>z) j⟩
  |_=>cases b)
def DO(X:Cx)(m:Str)(ta:TE)(t:TA):TE:=λσ H Q=>ta σ H λx H1=>∃a C dx fs k f fd ps sp,x = .ref a/\H1 a=some (.ins C dx fs)/\Cls X.K C/\Meth X.K C m f/\fs.lookup m=none/\
 FnOk X.prog X.w X.K X.mg X.base vI k f fd ps sp/\Room k X.A/\Binds X.K fd ps []/\t σ H1 λvs H2=>sp (x::vs) H2 Q λ_ _ _=>False
def So(he:PE X o ta)(hx:Zc vI X λ_ _ _=>False)(ha:PA X (e::es) t)
 (hst:starEach (e::es) X.env=(false,eval e X.env)::starEach es X.env) (hpl:(backTo pos<|starEach es X.env).any (·.1)=false)
 (ht:eval (.Call (.Attribute o m apos) (e::es) [] pos) X.env=(do
  let ov <-eval o X.env
  standAt apos.atName
  let(f,first) <-holding [ov] (getMethod ov m pl)
  callWith pos f first (backTo pos<|starEach (e::es) X.env) (backToKw pos<|keywordEach [] X.env))):
 PE X (.Call (.Attribute o m apos) (e::es) [] pos) (DO X m ta t):=by
 intro b s σ H Q I h;refine W.methodCall_KW (wC (he b s σ H _ I h) λu j ⟨x,n,d,p,a,C,E,G,k,f,fd,J,K,v,w,c,g,l,F,y,z,q⟩=>?_) ht;subst v;obtain rfl:u=Value.ref a:=p;refine S5 d w c g l ?_;refine W.callWith_K I.ok.mod.kin g.kp (wC (ha pos b j σ n _ d q) λA L ⟨B,M,i,r,D⟩=>⟨i.kIn, ?_⟩) hst hpl;refine JP (vs:=.ref a::B) F y z .nil hx i (.cons rfl r) ?_;rw[zyE];exact D
end
noncomputable def Oi:List (Str×Fn)->Str->Option Fn
 | [],_=>none
 |p::r,c=>if c=p.1 then some p.2 else Oi r c
def MT(P:Program)(w:World)(K:zzA)(mg:Str->Option Value)(base:Heap)(kd:KD)(m:Str)(k:Nat)(tbl:List (Str×Fn)):Prop:=
 ∀c g,Oi tbl c=some g->∃k' f fd ps,k'<=k/\Cls K (kd.c c)/\Meth K (kd.c c) m f/\FnOk P w K mg base vI k' f fd ps (Tf K kd g)/\Binds K fd ps []
section
variable{P:Program}{w:World}{K:zzA}{mg:Str->Option Value}{base:Heap}{kd:KD}{m:Str}{k:Nat}{tbl:List (Str×Fn)}
def Ys:MT P w K mg base kd m k []:=λc g h=>by cases h
def Dk(hk:k'<=k)(cl:Cls K (kd.c c))(me:Meth K (kd.c c) m f)(F:FnOk P w K mg base vI k' f fd ps (Tf K kd g))(b:Binds K fd ps [])(h:MT P w K mg base kd m k tbl):MT P w K mg base kd m k ((c,g)::tbl):=λc' g' e=>by
 have e:(if c'=c then some g else Oi tbl c')=some g':=e
 by_cases q:c'=c
 . rw[if_pos q]at e;cases e;subst q;exact⟨k',f,fd,ps,hk,cl,me,F,b⟩
 . rw[if_neg q]at e;exact h c' g' e
end
noncomputable def ef(m:Str):D->Option Str
 | .ob c ns _=>if m ∈ ns then none else some c
 |_=>none
def Ye(tbl:List (Str×Fn))(m:Str)(fo:EF)(fr:AF):EF:=λas=>(fo as).bind λp=>(p.1.frz.view p.2).bind λw=>(ef m w.1).bind λc=>(Oi tbl c).bind λg=>(fr p.2).bind λq=>(Xl q.2 (p.1.frz::q.1)).bind λx=>(g x).bind λo=>some (.ow o,q.2)
section
variable{X:Cx}{kd:KD}{a e o:Expr}{es:List Expr}{fa fo fe:EF}{fr:AF}{pos pos' apos:Pos}{m f:Str}{cs:List Str}{tbl:List (Str×Fn)}{k:Nat}
def lH(hT:MT X.prog X.w X.K X.mg X.base kd m k tbl)(hr:Room k X.A)(ht:∀σ H Q,rS X.K kd fr σ H Q->t σ H Q)(h:al X.K kd (Ye tbl m fo fr) σ H Q):DO X m (al X.K kd fo) t σ H Q:=by
 obtain⟨F,B,ad,as,r,E,R,e,q⟩:=h;obtain⟨⟨p,i⟩,G,e⟩:=bS_<|e;obtain⟨⟨w,lv⟩,I,e⟩:=bS_ e;obtain⟨c,a,e⟩:=bS_ e;obtain⟨g,J,e⟩:=bS_ e;obtain⟨⟨L,j⟩,M,e⟩:=bS_ e;obtain⟨N,O,e⟩:=bS_ e;obtain⟨o,P,e⟩:=bS_ e;cases e;refine vT R G λv l H1 z d S=>?_;have T:=xo.vw z d I;cases T with
 | @ob a' dx U C V W Y hl rl=>
  have a:(if m ∈ C then none else some U)=some c:=a
  by_cases n:m ∈ C
  . rw[if_pos n]at a;cases a
  . rw[if_neg n]at a;cases a;obtain⟨Z,f,fd,ps,s,cl,me,F1,b⟩:=hT _ _ J;refine⟨_,_,_,_,Z,f,fd,ps,_,rfl,Y,cl,me,(YC _ _ _).trans<|Rr n,F1,hr.mono s,b,ht _ _ _ ⟨F,B,l,i,L,j,z,M,λvs u H2 R2 x D=>?_⟩⟩;exact⟨_,N,o,R2.trk true,GP R2 (.cons (d.grow D) x) O,P,SM R2 λw T' H' R' y g'=>q w T' u H' R' y<|(S.trans D).trans g'⟩
 |_=>cases a
def pH(hT:MT X.prog X.w X.K X.mg X.base kd m k tbl)(hr:Room k X.A)(hx:Zc vI X λ_ _ _=>False)(ho:AE X kd o fo)(ha:AA X kd (e::es) fr)
 (hst:starEach (e::es) X.env=(false,eval e X.env)::starEach es X.env) (hpl:(backTo pos<|starEach es X.env).any (·.1)=false)
 (ht:eval (.Call (.Attribute o m apos) (e::es) [] pos) X.env=(do
  let ov <-eval o X.env
  standAt apos.atName
  let(f,first) <-holding [ov] (getMethod ov m pl)
  callWith pos f first (backTo pos<|starEach (e::es) X.env) (backToKw pos<|keywordEach [] X.env))):
 AE X kd (.Call (.Attribute o m apos) (e::es) [] pos) (Ye tbl m fo fr):=by
 with_unfolding_all exact(yo (So ho hx ha hst hpl ht) λσ H Q h=>lH hT hr (λ_ _ _ z=>z) h)
end
abbrev Cf:=AS->Option AS
def bf(K:zzA)(kd:KD)(f:Cf):TS:=λD σ H=>∃F B ad as as',Rel K kd F B [] ad as σ H/\f as=some as'/\∀ad' H',Rel K kd F B [] ad' as' σ H'->Grow (Gw [] ad) H (Gw [] ad') H'->D.nx σ H'
@[irreducible] def jR(X:Cx)(kd:KD)(st:List Stmt)(f:Cf):Prop:=M_ X st<|bf X.K kd f
@[irreducible] def lq(X:Cx)(kd:KD)(st:Stmt)(f:Cf):Prop:=PS X st<|bf X.K kd f
def Vo(i:Nat)(cs:List Str)(f:Str)(fe:EF):Cf:=λas=>(fe as).bind λp=>(X_ p.2 p.1).bind λx=>match x.2[i]? with
 |some (some (.nd (.ob c ns) os))=>if c ∈ cs/\f ∉ ns/\ns.length<1000 then some (x.2.set i<|some<|.nd (.ob c<|ns++[f])<|os++[.lf x.1.1 x.1.2])else none
 |_=>none
def uW(fe:EF):Cf:=λas=>(fe as).bind λp=>some p.2
def Zx(f g:Cf):Cf:=λas=>(f as).bind g
section
variable{X:Cx}{kd:KD}{e o:Expr}{st:Stmt}{rest:List Stmt}{fe:EF}{f g:Cf}{pos pos':Pos}{cs:List Str}{n:Str}
def Dp(he:AE X kd e fe)(hs:swapsWith e none pos.line X.env=pure false):lq X kd (.Expr e pos) (uW fe):=by
 with_unfolding_all exact(xR (U9 he hs) λD σ H h=>by
  obtain⟨F,B,c,as,o,R,e,q⟩:=h;obtain⟨⟨p,a⟩,d,e⟩:=bS_<|e;cases e;exact⟨F,B,c,as,p,a,R,d,λv j b f i k g=>q b f i.drop<|g.trans<|Grow.less Gw.drop⟩)
def xu(hc:CF X.K kd cs n)(ho:PE X o (UC j))(he:AE X kd e fe)(hs:swapsWith e (some<|.Attribute o n pos') pos.line X.env=pure false):lq X kd (.Assign [.Attribute o n pos'] e pos) (Vo j cs n fe):=by
 with_unfolding_all exact(xR (IE ho he hs) λD σ H h=>by
  obtain⟨F,B,P,as,o,R,e,q⟩:=h;obtain⟨⟨p,t⟩,Q,e⟩:=bS_<|e;obtain⟨⟨⟨A,d⟩,w⟩,S,e⟩:=bS_ e;cases f:w[j]? with
  |none=>rw[f]at e;cases e
  |some T=>
   rw[f]at e
   match T,e,f with
   |some (.nd (.ob c E) G),e,f=>
    obtain⟨⟨I,U,V⟩,e⟩:=zv e;cases e;refine⟨F,B,P,as,p,t,R,Q,λv T1 W J Y x Z=>?_⟩;obtain⟨b,R2,rp,le⟩:=Qk Y x S;obtain⟨v0,g,i⟩:=R2.sl j _ f;refine⟨v0,g, ?_⟩;generalize k:b j=fp1 at i;cases i with
    |ob hC L s rl=>
     rename_i l M C O fp;have ec:=hC.cl_eq;subst ec;have r:=R2.nd j;rw[k]at r;have y : vR X.K kd F B (Gw [] b) J (O++[v]) (G++[.lf A d]) fp:=by
            have:=rl.append<|RoL.one<|Ro.lf rp;rw[zyE]at this;exact this
     refine⟨l,_,M,_,rfl,L,(hc _ I).1,(hc _ I).2,by rw[List.length_zip,s,Nat.min_self,<-s];exact V, ?_⟩;rw[K6 s U];obtain ⟨R4,g4⟩:=R2.mut (n:=.nd (.ob c<|E++[n]) _) (zzG.mp f).1 k g (fp':=fp) (λa m=>by
            rw[zyE]at m ⊢;exact m) (by rw[zyE];exact(zzW.mp r).2) (by rw[L];simp) λH' G' z gr kp=>.ob (.cl c) z (by rw[zzJ,zzJ,s];rfl)<|vR.grow gr kp y
     exact q _ _ R4<|(Z.trans<|Grow.less le).trans g4)
def Fd(h:lq X kd st f):jR X kd [st] f:=by
 with_unfolding_all exact(UX h)
def yU(h1:lq X kd st f)(h2:jR X kd rest g):jR X kd (st::rest) (Zx f g):=by
 with_unfolding_all exact(YW (XC h1 h2) λD σ H h=>by
  obtain⟨F,B,d,as,o,R,e,q⟩:=h;obtain⟨c,i,e⟩:=bS_<|e;exact⟨F,B,d,as,c,R,i,λa n j k=>⟨F,B,a,c,o,j,e,λb l R2 m=>q b l R2<|k.trans m⟩⟩)
end
def m3(c:Str):O:=.nd (.ob c []) []
def Dg(x:Bool×D):O:=.lf x.1 x.2
noncomputable def slot0:AS->Option O
 |some o::_=>if o.str=true then some o else none
 |_=>none
def oB(c:Str)(n m:Nat)(f:Cf)(ds:List (Bool×D)):Option O:=if ds.length+1=m then(f<|Yw n (m3 c::ds.map Dg)).bind slot0 else none
def p4(K:zzA)(kd:KD)(c:Str)(g:Fn):Sp:=λvs H Q _=>∃F x dx vs' ds o,vs = .ref x::vs'/\H x=some (.ins (kd.c c) dx [])/\(∀a,F a->H a≠none)/\¬F x/\RpI K kd F (λ_=>False) (· = x) H vs' ds/\g ds=some o/\
 ∀T H',T.Nodup->(∀a ∈ T,a=x\/H a=none)->(∀b u,H b=some u->b≠x->H' b=some u)->(∀a ∈ T,H' a≠none)->Ro (λ_ v d=>Rp K kd (VA F (· ∈ T)) H' v d) (λa=>¬VA F (· ∈ T) a) H' (.ref x) o T->Q .non H'
def JZ{K}(h:RpI K kd F B G H vs ds):vR K kd F B G H vs (ds.map Dg) []:=by
 induction h with
 |nil=>exact .nil
 |cons a _ b=>exact RoL.cons (Ro.lf a) b
def Ot(ds:List (Bool×D)):(ds.map Dg).all O.isLf=true:=by
 induction ds with
 |nil=>rfl
 |cons x r a=>exact a
section
variable{P:Program}{w:World}{K:zzA}{mg:Str->Option Value}{base:Heap}
def Si{st}{k:Nat}(Fn:Fun K x qual st f fd)(S:FnScope N ps (zd st))(hps:ps.length<=N.length)
 (hb:∀(cdv:Value) (A:Around) (outer:List Env) (s:Shared) (H:Hp) (E:XK),Room k (A.deeper<|envOfC qual (zd st) s.heap.objs.size f cdv)->jR (LM vI P w K mg base N qual (zd st) f cdv A outer s H E).nox kd (Zo st) b):
 FnOk P w K mg base vI (k+1) f fd ps (p4 K kd c<|oB c N.length ps.length b):=by
 with_unfolding_all (
 refine Fn.ok S (λvs H Q E h=>?_) λcdv A outer s H vs Q E hr h=>⟨_,hb cdv A outer s H E hr, ?_⟩
 . obtain⟨F,x,dx,vs',ds,o,rfl,_,_,_,rp,e,_⟩:=h;obtain⟨hl,_⟩:=ite_some'<|e;rw[zzT,rp.length,hl]
 . obtain⟨F,x,dx,vs',ds,o,rfl,hx,ht,hF,rp,e,q⟩:=h;obtain⟨hl,e⟩:=ite_some'<|e;obtain⟨as',e1,e2⟩:=bS_ e;have ro:vR K kd F (λ_=>False) (· ∈ [x]) H (V.ref x::vs') (m3 c::ds.map Dg) [x]:=by
    have e0:(λa=>a ∈ [x])=(λa=>a=x):=by funext a;exact propext zzR
    rw[e0];exact RoL.cons (Ro.ob (.cl c) hx rfl .nil)<|JZ rp
   have R0:=LU (N:=N) ht (by simp) (λa m=>by rw[zzR.mp m,hx];exact⟨by simp,hF⟩) (Ot ds) (by rw[zzT,zzB];exact q0Q hl hps) ro;have gw:∀a,Gw [] (λi=>if i=0 then[x]else[]) a->a=x:=λa z=>z.elim (λy=>nomatch y) λ⟨i,y⟩=>by
    by_cases e:i=0
    . subst e;simpa using y
    . simp[e]at y
   refine⟨F,λ_=>False,_,_,as',R0,e1,λad' H' R' g'=>?_⟩
   match as',e2,R' with
   |some o'::r,e2,R'=>
    obtain⟨hs,e2⟩:=zv<|e2;subst e2;obtain⟨v,hv,ro'⟩:=R'.sl 0 _ rfl;have hv0:(L2.start N (V.ref x::vs'))[0]? = some _:=rfl;rw[hv0]at hv;cases hv;have rt:=Eo R' (R'.nd 0) (λa m=>.inr ⟨0,m⟩) ro' hs;exact q (ad' 0) H' rt.nd (λa m=>(g'.own a<|.inr ⟨0,m⟩).imp (gw a) id) (λb u h hb=>g'.keep b u h λz=>hb<|gw b z) rt.tr rt.ro)
end
section
variable{X:Cx}{kd:KD}{e:Expr}{es:List Expr}{fr:AF}{pos p:Pos}{g:Fn}
def oF(h:al X.K kd (zh fr g) σ H Q):rH (kd.c c) (p4 X.K kd c g) [] E (rS X.K kd fr) σ H Q:=by
 obtain⟨F,B,G,as,r,I,R,e,q⟩:=h;obtain⟨⟨p,J⟩,L,e⟩:=bS_<|e;obtain⟨M,A,e⟩:=bS_ e;obtain⟨o,C,e⟩:=bS_ e;cases e;refine⟨F,B,G,as,p,_,R,L,λN d f n i O x j l s P=>?_⟩;rw[zyE];have k:∀b u,f b=some u->upd (upd f j<|.own x) x (.ins (kd.c c) j []) b=some u:=λb u h=>by rw[zH<|zY h l,zH<|zY h s];exact h
 have D:∀b,upd _ x _ b=none->f b=none:=λb h=>by
  cases e:f b with
  |none=>rfl
  |some u=>rw[k b u e]at h;cases h
 refine⟨Lv F B _ true,x,j,N,M,o,rfl,ye,λa z y=>n.trk true a z<|D a y,λz=>n.trk true x z l, ?_,C,λT t S U V Y Z=>⟨rfl, ?_⟩⟩
 . have ra:=GP n i A;clear e C A i
   induction ra with
   |nil=>exact .nil
   |cons h _ ih=>
    refine .cons ?_ ih;exact Rp.grow (W:=λ_=>False) (W':=(· = x)) ⟨λb u h _=>k b u h,λb e=>.inr<|by rw[e];exact l⟩<|h.less λa z=>z.elim (λy=>y.elim id λy=>y.elim) λy=>y.elim
 . exact SM n (λw T' t R' v g'=>q w T' d t R' v<|O.trans g') (.ref x) T t S (λa m=>(U a m).elim (λe=>by rw[e];exact l)<|D a) (λb u h=>V b u (k b u h)<|zY h l) Y Z
def Dz(hC:kd.c c=C)(M:Mk X.K C f)(F:FnOk X.prog X.w X.K X.mg X.base vI k f fdt ps (p4 X.K kd c g))(hr:Room (k+1) X.A)(hg:Gl X x)(hm:X.mg x=some (.ref C))(hb:Binds X.K fdt ps [])(hx:Zc vI X λ_ _ _=>False)
 (ha:AA X kd (e::es) fr) (hdb:(x==("__debug__":Str))=false) (he:starEach (e::es) X.env=(false,eval e X.env)::starEach es X.env) (hpl:(backTo pos<|starEach es X.env).any (·.1)=false):
 AE X kd (.Call (.Name x p) (e::es) [] pos) (zh fr g):=by
 subst hC
 with_unfolding_all exact(yo (uO M F hr hg hm hb .nil hx ha hdb he hpl) λσ H Q h=>oF h)
end
def tW(mg:Str->Option Value):Str->Addr:=λx=>match mg x with
 |some (.ref a)=>a
 |_=>0
def Ff(h:mg x=some (.ref a)):tW mg x=a:=by
 unfold tW;rw[h]
structure CI(K:zzA)(kd:KD)(mg:Str->Option Value)(c:Str)(C:Addr):Prop where
 eq:kd.c c=C
 cl:Cls K C
 mks:W.makesIn K C=true
 kp:W.keepIn K (.ref C)=true
 mg:mg c=some (.ref C)
section
variable{P:Program}{w:World}{K:zzA}{mg:Str->Option Value}{base:Heap}{kd:KD}{m f:Str}{k:Nat}{tbl:List (Str×Fn)}{cs:List Str}{c:Str}{C:Addr}
def YT{k':Nat}{f}(ci:CI K kd mg c C)(me:Meth K C m f)(F:FnOk P w K mg base vI k' f fd ps (Tf K kd g))(hk:k'<=k)(b:Binds K fd ps [])(h:MT P w K mg base kd m k tbl):MT P w K mg base kd m k ((c,g)::tbl):=by
 have e:=ci.eq;subst e;exact Dk hk ci.cl me F b h
def vh:CF K kd [] f:=λc h=>nomatch h
def wB(ci:CI K kd mg c C)(n:yC K C f)(h:CF K kd cs f):CF K kd (c::cs) f:=λb a=>by
 have e:=ci.eq;subst e
 rcases zzC.mp a with rfl|a
 . exact⟨ci.cl,n⟩
 . exact h b a
def CI.mk'{f}(ci:CI K kd mg c C)(me:Meth K C "__init__" f):Mk K C f:=⟨ci.mks,me.at_,me.fn,ci.kp⟩
end
def RY{prog w A E s it l}{i:Nat}{items x Q}(hit:s.heap.IsTupleIter it l i)(hl:s.heap.IsTuple l items)(hx:items[i]? = some x)
 (h:∀h':Heap,h'.IsTupleIter it l (i+1)->Heap.SameBut it s.heap h'->Q x {s with heap:=h'}):wpAny (model prog w) A (Builtin.SmallTypes.nextOf<|.ref it) Q E s:=by
 obtain⟨o,ho,hc,hd⟩:=id hit;obtain⟨ol,hol,hcl,nl,hdl⟩:=hl;refine zxF<|wpAny_callSpecial?_slot hit.typeIs F.slot_tuple_iterator_next<|zxN F.slot_tuple_iterator_next hit.typeIs F.entry_tuple_iterator_next ?_;unfold Builtin.«tuple_iterator.__next__»
 wp_walk using wpAny_field ho hd rfl,wpAny_seqItems hol hdl
 rw[hdl]
 wp_walk
 rw[zyI,hx];refine zxF<|wpAny_setField ho hd (by simp) ?_;refine zxG ⟨x,rfl,zxG<|h _ ⟨_,Heap.get?_update_self _ ho<|Obj.isFreed_of_fields<|Obj.data_mapFields hd _,(Obj.cls_mapFields o _).trans hc,(Obj.data_mapFields hd _).trans<|by simp[rawInt]⟩<|Heap.SameBut.update _ _ _⟩
def PX{prog w A E s it l}{i:Nat}{items Q}(hh:A.handled=none)(hit:s.heap.IsTupleIter it l i)(hl:s.heap.IsTuple l items)(hx:items[i]? = none)
 (h:∀(h':Heap) (e:Addr),Heap.ExtBut it s.heap h'->(∃o,h'.get? e=some o/\o.cls = .type "StopIteration")->E (.ref e) {s with heap:=h'}):wpAny (model prog w) A (Builtin.SmallTypes.nextOf<|.ref it) Q E s:=by
 obtain⟨o,ho,hc,hd⟩:=id hit;obtain⟨ol,hol,hcl,nl,hdl⟩:=hl;refine zxF<|wpAny_callSpecial?_slot hit.typeIs F.slot_tuple_iterator_next<|zxN F.slot_tuple_iterator_next hit.typeIs F.entry_tuple_iterator_next ?_;unfold Builtin.«tuple_iterator.__next__»
 wp_walk using wpAny_field ho hd rfl,wpAny_seqItems hol hdl
 rw[hdl]
 wp_walk
 rw[zyI,hx];refine zxF (wpAny_rule<|zxF<|wpAny_setField ho hd (by simp) ?_)
 wp_walk
 refine wpAny_raiseNew_none hh<|h _ _ (((Heap.SameBut.update _ _ _).extBut.push _).push _) ⟨_,zxJ _ rfl,rfl⟩
def W0(b:Bool)(h:Heap)(it l:Addr)(k:Nat):Prop:=if b=true then h.IsTupleIter it l k else h.IsListIter it l k
def GY(b:Bool)(h:Heap)(l:Addr)(xs:Array Value):Prop:=if b=true then h.IsTuple l xs else h.IsList l xs
def vo{prog w A E s it l}{i:Nat}{items x Q}:∀{b:Bool},W0 b s.heap it l i->GY b s.heap l items->items[i]? = some x->
 (∀h':Heap,W0 b h' it l (i+1)->Heap.SameBut it s.heap h'->Q x {s with heap:=h'})->wpAny (model prog w) A (Builtin.SmallTypes.nextOf<|.ref it) Q E s
 |true,h1,h2,h3,h4=>RY h1 h2 h3 h4
 |false,h1,h2,h3,h4=>wpAny_nextOf_list_item h1 h2 h3 h4
def Ww{prog w A E s it l}{i:Nat}{items Q}(hh:A.handled=none):∀{b:Bool},W0 b s.heap it l i->GY b s.heap l items->items[i]? = none->
 (∀(h':Heap) (e:Addr),Heap.ExtBut it s.heap h'->(∃o,h'.get? e=some o/\o.cls = .type "StopIteration")->E (.ref e) {s with heap:=h'})->wpAny (model prog w) A (Builtin.SmallTypes.nextOf<|.ref it) Q E s
 |true,h1,h2,h3,h4=>PX hh h1 h2 h3 h4
 |false,h1,h2,h3,h4=>wpAny_nextOf_list_end hh h1 h2 h3 h4
def W0.ext{a h h' it l}{k:Nat}:∀{b:Bool},W0 b h it l k->Heap.ExtBut a h h'->it≠a->W0 b h' it l k
 |true,x,e,n=>Heap.IsTupleIter.extBut x e n
 |false,x,e,n=>Heap.IsListIter.extBut x e n
def GY.ext{a h h' l xs}:∀{b:Bool},GY b h l xs->Heap.ExtBut a h h'->l≠a->GY b h' l xs
 |true,x,e,n=>Heap.IsTuple.extBut x e n
 |false,x,e,n=>Heap.IsList.extBut x e n
def W0.at{h h' it l}{k:Nat}(k':∀o,h.get? it=some o->h'.get? it=some o):∀{b:Bool},W0 b h it l k->W0 b h' it l k
 |true,⟨o,e,c⟩=>⟨o,k' o e,c⟩
 |false,⟨o,e,c⟩=>⟨o,k' o e,c⟩
theorem W0.push{h it l}{k:Nat}{o b}(x:W0 b h it l k):W0 b (h.push o) it l k:=x.at λ_ e=>zxH _ e
def Nu{M A E s a Q}(h:Q (s.heap.get? a) s):wpAny M A (loadIfAlive a) Q E s:=λΓ p hΓ=>by
 unfold loadIfAlive;rw[Sem.wp_loadIfAlive];exact zxG h Γ p hΓ
def Fv(h:Heap)(z TI TO:Addr)(f0:Value)(f1:Bool):Prop:=h.get? z=some {cls:=.type "zip",data:=.fields #[f0,.bool f1,.bool false,.ref TI,.ref TO]}
def Zf(f0:Value):Prop:=f0 = .none\/∃n:Int,f0=rawInt n
def OO{prog w A E s z TI TO f0 f1 Q}(hz:Fv s.heap z TI TO f0 f1)(hf:Zf f0)(h1:Q true s)(h2:∀h' f1',Fv h' z TI TO f0 f1'->Heap.SameBut z s.heap h'->Q false {s with heap:=h'}):
 wpAny (model prog w) A (Builtin.SmallTypes.ownedTupleIsFree<|.ref z) Q E s:=by
 rcases hf with rfl|⟨n,rfl⟩
 . exact zxF<|wpAny_field hz rfl rfl<|zxG h1
 . refine zxF<|wpAny_field hz rfl rfl ?_;refine zxF<|Nu ?_;cases e:s.heap.get? n.toNat with
   |none=>exact zxG h1
   |some o=>
    rw[if_neg<|by simp];refine zxF<|wpAny_field hz rfl rfl ?_;cases f1 with
    |true=>exact zxG (h2 s.heap true hz<|Heap.SameBut.refl _ _)
    |false=>exact zxF (wpAny_setField_rec hz (by simp) λh' hz' hs=>zxG<|h2 h' true hz' hs)
def Ig{b1 b2 prog w A E s z TI TO i1 i2 l1 l2}{k1 k2:Nat}{xs ys}{x y a b f0:Value}{f1:Bool}{Q:Value->Shared->Prop}(D:ZipApart z TI TO i1 i2 l1 l2)
 (hz:Fv s.heap z TI TO f0 f1) (hf:Zf f0) (hTI:IsPair s.heap TI (.ref i1) (.ref i2)) (hTO:IsPair s.heap TO a b) (h1:W0 b1 s.heap i1 l1 k1) (h2:W0 b2 s.heap i2 l2 k2) (q1:GY b1 s.heap l1 xs) (q2:GY b2 s.heap l2 ys) (hx:xs[k1]? = some x) (hy:ys[k2]? = some y)
 (h:∀(h':Heap) (g0:Value) (g1:Bool),Fv h' z TI TO g0 g1->Zf g0->(∃p q,IsPair h' TO p q)->W0 b1 h' i1 l1 (k1+1)->W0 b2 h' i2 l2 (k2+1)->IsPair h' s.heap.objs.size x y->(∀c o,c≠z->c≠TO->c≠i1->c≠i2->s.heap.get? c=some o->h'.get? c=some o)->Q (.ref s.heap.objs.size) {s with heap:=h'}):
 wpAny (model prog w) A (Builtin.«zip.__next__» {pos:=[.ref z]}) (λfin s'=>∃v,fin=Fin.done (Flow.ret v)/\Q v s') E s:=by
 change wpAny (model prog w) A (bind (field (.ref z) 2) _) _ E s;refine zxF<|wpAny_field hz rfl rfl ?_;refine zxF<|wpAny_field hz rfl rfl<|zxF<|wpAny_seqItems hTI rfl ?_;refine zxF<|OO hz hf ?_ λh₁ g1 z1 hs₁=>?_
 . rw[if_pos rfl];refine zxF<|wpAny_rule<|zxF<|wpAny_field hz rfl rfl ?_;refine zxF<|wpAny_setField_rec hz (by simp) λh₁ hz₁ hs₁=>?_;refine zxF ?_;rw[show(#[Value.ref i1,Value.ref i2].toList.zipIdx)=[(Value.ref i1,0),(Value.ref i2,1)]from rfl,List.forIn_cons];have x1:=h1.ext hs₁.extBut D.i1z;have y1:=q1.ext hs₁.extBut D.l1z;refine zxF<|zxF<|wpAny_onRaise ?_;refine zxF<|vo x1 y1 hx λh₂ x2 hs₂=>zxG ?_;have t2:IsPair h₂ TO a b:=hs₂.extBut TO _ D.TOi1<|hs₁.extBut TO _ D.TOz hTO;refine zxF<|wpAny_seqItems t2 rfl<|zxF<|wpAny_updateSeq_pair t2 λh₃ t3 hs₃=>?_;refine zxF<|wpAny_letGo<|zxG ?_;have x3:=((h2.ext hs₁.extBut D.i2z).ext hs₂.extBut D.i12.symm).ext hs₃.extBut D.TOi2.symm;have y3:=((q2.ext hs₁.extBut D.l2z).ext hs₂.extBut D.l2i1).ext hs₃.extBut D.l2TO;change wpAny (model prog w) A (forIn [(Value.ref i2,1)] _ _) _ E _;rw[List.forIn_cons];refine zxF<|zxF<|wpAny_onRaise ?_;refine zxF<|vo x3 y3 hy λh₄ x4 hs₄=>zxG ?_;have t4:IsPair h₄ TO x b:=hs₄.extBut TO _ D.TOi2 t3;refine zxF<|wpAny_seqItems t4 rfl<|zxF<|wpAny_updateSeq_pair t4 λh₅ t5 hs₅=>?_;refine zxF<|wpAny_letGo<|zxG ?_;change wpAny (model prog w) A (forIn [] _ _) _ E _;rw[List.forIn_nil];refine zxG ?_;have t5:IsPair h₅ TO x y:=t5;refine zxF<|wpAny_seqItems t5 rfl<|zxF<|wpAny_newTuple ?_;have e5:h₅.objs.size=s.heap.objs.size:=hs₅.1.trans<|hs₄.1.trans<|hs₃.1.trans<|hs₂.1.trans hs₁.1;have z1:Fv h₁ z TI TO .ellipsis f1:=hz₁;have z5:Fv h₅ z TI TO .ellipsis f1:=hs₅.extBut z _ D.TOz.symm<|hs₄.extBut z _ D.i2z.symm<|hs₃.extBut z _ D.TOz.symm<|hs₂.extBut z _ D.i1z.symm z1;refine zxF ?_;refine zxF<|wpAny_setField_rec (zxH _ z5) (by simp) λh₇ z7 hs₇=>?_;refine wpAny_setField_rec z7 (by simp) λh₆ z6 hs₆'=>zxG ⟨_,rfl, ?_⟩;have hs₆:=hs₇.trans hs₆';have lt:=λc o q n=>hs₆.extBut c o n<|zxH _ q;have nz:h₅.objs.size≠z:=λe=>by
    have:=zxI z5;rw[<-e]at this;exact Nat.lt_irrefl _ this
   rw[e5];refine h h₆ (rawInt (h₅.objs.size:Int)) false z6 (.inr ⟨_,rfl⟩) ⟨_,_,lt TO _ t5 D.TOz⟩ ?_ ?_ ?_ λc o c1 c2 c3 c4 q=>?_
   . have:=((x2.ext hs₃.extBut D.TOi1.symm).ext hs₄.extBut D.i12).ext hs₅.extBut D.TOi1.symm;exact(W0.push this).ext hs₆.extBut D.i1z
   . exact(W0.push<|x4.ext hs₅.extBut D.TOi2.symm).ext hs₆.extBut D.i2z
   . rw[<-e5];exact hs₆.extBut _ _ nz<|zxJ _ rfl
   . exact lt c o (hs₅.extBut c o c2<|hs₄.extBut c o c4<|hs₃.extBut c o c2<|hs₂.extBut c o c3<|hs₁.extBut c o c1 q) c1
 . rw[if_neg<|by simp];change wpAny (model prog w) A (bind (forIn #[Value.ref i1,Value.ref i2] _ _) _) _ E _;rw[<-Array.forIn_toList,show #[Value.ref i1,Value.ref i2].toList=[Value.ref i1,Value.ref i2]from rfl,List.forIn_cons];have x1:=h1.ext hs₁.extBut D.i1z;have y1:=q1.ext hs₁.extBut D.l1z;refine zxF<|zxF<|zxF<|zxK ?_;refine zxF<|vo x1 y1 hx λh₂ x2 hs₂=>zxG<|zxG ?_;change wpAny (model prog w) A (forIn [Value.ref i2] _ _) _ E _;rw[List.forIn_cons];have x3:=(h2.ext hs₁.extBut D.i2z).ext hs₂.extBut D.i12.symm;have y3:=(q2.ext hs₁.extBut D.l2z).ext hs₂.extBut D.l2i1;refine zxF<|zxF<|zxK ?_;refine zxF<|vo x3 y3 hy λh₄ x4 hs₄=>zxG<|zxG ?_;change wpAny (model prog w) A (forIn [] _ _) _ E _;rw[List.forIn_nil];refine zxG<|zxF<|wpAny_newTuple ?_ (show 2<=sizeLine by decide);refine zxG ⟨_,rfl, ?_⟩;have e4:h₄.objs.size=s.heap.objs.size:=hs₄.1.trans<|hs₂.1.trans hs₁.1;have z4:Fv h₄ z TI TO f0 g1:=hs₄.extBut z _ D.i2z.symm<|hs₂.extBut z _ D.i1z.symm z1;have t4:IsPair h₄ TO a b:=hs₄.extBut TO _ D.TOi2<|hs₂.extBut TO _ D.TOi1<|hs₁.extBut TO _ D.TOz hTO;rw[e4];refine h _ f0 g1 (zxH _ z4) hf ⟨_,_,zxH _ t4⟩ (W0.push<|x2.ext hs₄.extBut D.i12) (W0.push x4) ?_ λc o c1 c2 c3 c4 q=>zxH _<|hs₄.extBut c o c4<|hs₂.extBut c o c3<|hs₁.extBut c o c1 q;rw[<-e4];exact zxJ _ rfl
def uH{b1 b2 prog w A E s z TI TO i1 i2 l1 l2}{k1 k2:Nat}{xs ys a b f0 f1 Q}(hh:A.handled=none)(D:ZipApart z TI TO i1 i2 l1 l2)
 (hz:Fv s.heap z TI TO f0 f1) (hf:Zf f0) (hTI:IsPair s.heap TI (.ref i1) (.ref i2)) (hTO:IsPair s.heap TO a b) (h1:W0 b1 s.heap i1 l1 k1) (h2:W0 b2 s.heap i2 l2 k2) (q1:GY b1 s.heap l1 xs) (q2:GY b2 s.heap l2 ys) (hx:xs[k1]? = none\/ys[k2]? = none)
 (h:∀(h':Heap) (e:Addr),(∀c o,c≠z->c≠TO->c≠i1->c≠i2->s.heap.get? c=some o->h'.get? c=some o)->(∃o,h'.get? e=some o/\o.cls = .type "StopIteration")->E (.ref e) {s with heap:=h'}):
 wpAny (model prog w) A (Builtin.«zip.__next__» {pos:=[.ref z]}) Q E s:=by
 have fin:∀(h':Heap) (e:Addr),(∃f g,Fv h' z TI TO f g)->(∀c o,c≠z->c≠TO->c≠i1->c≠i2->s.heap.get? c=some o->h'.get? c=some o)->(∃o,h'.get? e=some o/\o.cls = .type "StopIteration")->
  wpAny (model prog w) A (setField (.ref z) 0 Value.none) (λ_ s''=>E (.ref e) s'') E {s with heap:=h'}:=λh' e ⟨f,g,hf⟩ kk ⟨o,ho,hc⟩=>by
  refine wpAny_setField_rec (s:={s with heap:=h'}) hf (by simp) λh'' z'' hs=>?_;have ne:e≠z:=λe'=>by
   subst e';have:=(hf).symm.trans ho;cases this;exact absurd (show Value.type "zip"=Value.type "StopIteration" from hc) (by decide)
  exact h h'' e (λc o c1 c2 c3 c4 q=>hs.extBut c o c1<|kk c o c1 c2 c3 c4 q) ⟨o,hs.extBut e o ne ho,hc⟩
 change wpAny (model prog w) A (bind (field (.ref z) 2) _) _ E s;refine zxF<|wpAny_field hz rfl rfl ?_;refine zxF<|wpAny_field hz rfl rfl<|zxF<|wpAny_seqItems hTI rfl ?_;refine zxF<|OO hz hf ?_ λh₁ g1 z1 hs₁=>?_
 . rw[if_pos rfl];refine zxF<|wpAny_rule<|zxF<|wpAny_field hz rfl rfl ?_;refine zxF<|wpAny_setField_rec hz (by simp) λh₁ hz₁ hs₁=>?_;refine zxF ?_;rw[show(#[Value.ref i1,Value.ref i2].toList.zipIdx)=[(Value.ref i1,0),(Value.ref i2,1)]from rfl,List.forIn_cons];have z1:=hz₁;have x1:=h1.ext hs₁.extBut D.i1z;have y1:=q1.ext hs₁.extBut D.l1z;refine zxF<|zxF<|wpAny_onRaise ?_;cases e1:xs[k1]? with
   |none=>exact zxF (Ww hh x1 y1 e1 λh' e ex ho=>fin h' e ⟨_,_,ex z _ D.i1z.symm z1⟩ (λc o c1 c2 c3 c4 q=>ex c o c3<|hs₁.extBut c o c1 q) ho)
   |some x=>
    have hy:ys[k2]? = none:=hx.resolve_left (by rw[e1];simp);refine zxF<|vo x1 y1 e1 λh₂ x2 hs₂=>zxG ?_;have t2:=hs₂.extBut TO _ D.TOi1<|hs₁.extBut TO _ D.TOz hTO;refine zxF<|wpAny_seqItems t2 rfl<|zxF<|wpAny_updateSeq_pair t2 λh₃ t3 hs₃=>?_;refine zxF<|wpAny_letGo<|zxG ?_;have x3:=((h2.ext hs₁.extBut D.i2z).ext hs₂.extBut D.i12.symm).ext hs₃.extBut D.TOi2.symm;have y3:=((q2.ext hs₁.extBut D.l2z).ext hs₂.extBut D.l2i1).ext hs₃.extBut D.l2TO;change wpAny (model prog w) A (forIn [(Value.ref i2,1)] _ _) _ E _;rw[List.forIn_cons];refine zxF<|zxF<|wpAny_onRaise ?_;exact zxF<|Ww hh x3 y3 hy λh' e ex ho=>fin h' e ⟨_,_,ex z _ D.i2z.symm<|hs₃.extBut z _ D.TOz.symm<|hs₂.extBut z _ D.i1z.symm z1⟩
     (λc o c1 c2 c3 c4 q=>ex c o c4<|hs₃.extBut c o c2<|hs₂.extBut c o c3<|hs₁.extBut c o c1 q) ho
 . rw[if_neg<|by simp];change wpAny (model prog w) A (bind (forIn #[Value.ref i1,Value.ref i2] _ _) _) _ E _;rw[<-Array.forIn_toList,show #[Value.ref i1,Value.ref i2].toList=[Value.ref i1,Value.ref i2]from rfl,List.forIn_cons];have x1:=h1.ext hs₁.extBut D.i1z;have y1:=q1.ext hs₁.extBut D.l1z;refine zxF<|zxF<|zxF<|zxK ?_;cases e1:xs[k1]? with
   |none=>exact zxF (Ww hh x1 y1 e1 λh' e ex ho=>h h' e (λc o c1 c2 c3 c4 q=>ex c o c3<|hs₁.extBut c o c1 q) ho)
   |some x=>
    have hy:ys[k2]? = none:=hx.resolve_left (by rw[e1];simp);refine zxF<|vo x1 y1 e1 λh₂ x2 hs₂=>zxG<|zxG ?_;change wpAny (model prog w) A (forIn [Value.ref i2] _ _) _ E _;rw[List.forIn_cons];have x3:=(h2.ext hs₁.extBut D.i2z).ext hs₂.extBut D.i12.symm;have y3:=(q2.ext hs₁.extBut D.l2z).ext hs₂.extBut D.l2i1;refine zxF<|zxF<|zxK ?_;exact zxF<|Ww hh x3 y3 hy λh' e ex ho=>h h' e (λc o c1 c2 c3 c4 q=>ex c o c4<|hs₂.extBut c o c3<|hs₁.extBut c o c1 q) ho
def Bc{b1 b2 prog w A E s z TI TO i1 i2 l1 l2}{k1 k2:Nat}{xs ys x y a b f0 f1 Q}(D:ZipApart z TI TO i1 i2 l1 l2)
 (hz:Fv s.heap z TI TO f0 f1) (hf:Zf f0) (hTI:IsPair s.heap TI (.ref i1) (.ref i2)) (hTO:IsPair s.heap TO a b) (h1:W0 b1 s.heap i1 l1 k1) (h2:W0 b2 s.heap i2 l2 k2) (q1:GY b1 s.heap l1 xs) (q2:GY b2 s.heap l2 ys) (hx:xs[k1]? = some x) (hy:ys[k2]? = some y)
 (h:∀(h':Heap) (g0:Value) (g1:Bool),Fv h' z TI TO g0 g1->Zf g0->(∃p q,IsPair h' TO p q)->W0 b1 h' i1 l1 (k1+1)->W0 b2 h' i2 l2 (k2+1)->IsPair h' s.heap.objs.size x y->(∀c o,c≠z->c≠TO->c≠i1->c≠i2->s.heap.get? c=some o->h'.get? c=some o)->Q (some<|.ref s.heap.objs.size) {s with heap:=h'}):
 wpAny (model prog w) A (pyNext<|.ref z) Q E s:=by
 have hT:s.TypeIs (.ref z) "zip":=⟨_,hz,rfl⟩;exact zxF<|wpAny_attempt<|wpAny_callSpecial?_slot hT F.slot_zip_next<|zxN F.slot_zip_next hT F.entry_zip_next (Ig D hz hf hTI hTO h1 h2 q1 q2 hx hy λh' g0 g1 a1 a2 a3 a4 a5 a6 a7=>zxG<|h h' g0 g1 a1 a2 a3 a4 a5 a6 a7)<|F.args_zip_next_1 _
def Bp{b1 b2 prog w A E s z TI TO i1 i2 l1 l2}{k1 k2:Nat}{xs ys a b f0 f1 Q}(hh:A.handled=none)(D:ZipApart z TI TO i1 i2 l1 l2)
 (hz:Fv s.heap z TI TO f0 f1) (hf:Zf f0) (hTI:IsPair s.heap TI (.ref i1) (.ref i2)) (hTO:IsPair s.heap TO a b) (h1:W0 b1 s.heap i1 l1 k1) (h2:W0 b2 s.heap i2 l2 k2) (q1:GY b1 s.heap l1 xs) (q2:GY b2 s.heap l2 ys) (hx:xs[k1]? = none\/ys[k2]? = none)
 (h:∀h':Heap,(∀c o,c≠z->c≠TO->c≠i1->c≠i2->s.heap.get? c=some o->h'.get? c=some o)->Q none {s with heap:=h'}):wpAny (model prog w) A (pyNext<|.ref z) Q E s:=by
 have hT:s.TypeIs (.ref z) "zip":=⟨_,hz,rfl⟩;exact zxF<|wpAny_attempt<|wpAny_callSpecial?_slot hT F.slot_zip_next<|zxN F.slot_zip_next hT F.entry_zip_next (uH hh D hz hf hTI hTO h1 h2 q1 q2 hx λh' e hk ⟨o,ho,hc⟩=>zxF<|wpAny_isInstance ⟨o,ho,hc⟩ isSubtype_stop<|zxG<|h h' hk)<|F.args_zip_next_1 _
def CD{prog w A E s z TI TO T f0 f1 Q}(tg)(hz:Fv s.heap z TI TO f0 f1)(hf:Zf f0)
 (h:∀(h':Heap) (g0:Value),Fv h' z TI TO g0 f1->Zf g0->Heap.SameBut z s.heap h'->Q () {s with heap:=h'}):wpAny (model prog w) A (letOwnedTupleGo tg (.ref z)<|.ref T) Q E s:=by
 have no:wpAny (model prog w) A (pure ()) Q E s:=zxG<|h s.heap f0 hz hf<|Heap.SameBut.refl _ _;have go:wpAny (model prog w) A (bind (load z) λo=>match o.cls,o.data with
  |Value.type n,Data.fields vs=>if(["enumerate","zip","dict_itemiterator","dict_reverseitemiterator","odict_iterator","itertools.zip_longest","itertools.pairwise"].contains n&&vs[0]? == some (rawInt (T:Int)))=true then(do rule "for.unpacks-the-owned-tuple";updateField z 0 Value.none)else pure ()
  |_,_=>pure ()) Q E s:=by
  refine zxF<|wpAny_load hz ?_;show wpAny _ A (if _ then _ else _) Q E s
  split
  . refine zxF<|wpAny_rule ?_;exact wpAny_setField_rec hz (by simp) λh' z' hs=>h h' .none z' (.inl rfl) hs
  . exact no
 cases tg with
 |Tuple elts k pos=>exact go
 |List elts pos=>exact go
 |_=>exact no
noncomputable def Xe(b:Bool)(l:Addr):Obj:={cls:=.type (if b=true then "tuple_iterator" else "list_iterator"),data:=.fields #[.ref l,.int 0 0]}
def FJ{prog w A E s l xs Q}:∀{b:Bool},GY b s.heap l xs->Q (.ref s.heap.objs.size) {s with heap:=s.heap.push (Xe b l)}->wpAny (model prog w) A (pyIter<|.ref l) Q E s
 |true,h1,h2=>wpAny_pyIter_tuple h1 h2
 |false,h1,h2=>wpAny_pyIter_list h1 h2
def GY.at{h h' l xs}(k:∀o,h.get? l=some o->h'.get? l=some o):∀{b:Bool},GY b h l xs->GY b h' l xs
 |true,⟨o,e,c⟩=>⟨o,k o e,c⟩
 |false,⟨o,e,c⟩=>⟨o,k o e,c⟩
def Jg{b1 b2}(l1 l2)(xs ys):Meets (Builtin.«zip.__new__» {pos:=[.type "zip",.ref l1,.ref l2]}) λ_ R s=>GY b1 s.heap l1 xs/\GY b2 s.heap l2 ys/\
 ∀h':Heap,Fv h' (s.heap.objs.size+4) (s.heap.objs.size+2) (s.heap.objs.size+3) .none false->IsPair h' (s.heap.objs.size+2) (.ref s.heap.objs.size) (.ref<|s.heap.objs.size+1)->IsPair h' (s.heap.objs.size+3) .none .none->W0 b1 h' s.heap.objs.size l1 0->W0 b2 h' (s.heap.objs.size+1) l2 0->
  (∀c o,s.heap.get? c=some o->h'.get? c=some o)->R (.ok<|.ret<|.ref<|s.heap.objs.size+4) {s with heap:=h'}:=
 .of_wp λprog w A R s h=>by
  obtain⟨hp,g,d,tk,os⟩:=s;obtain⟨hl1,hl2,h⟩:=h;have hsub:=sub_zip;have p1:∀{Q:Value->Shared->Prop}{E:Value->Shared->Prop}{A:Around},Q (.ref hp.objs.size) ⟨hp.push<|Xe b1 l1,g,d,tk,os⟩->wpAny (model prog w) A (pyIter<|.ref l1) Q E ⟨hp,g,d,tk,os⟩:=λh=>FJ hl1 h;have p2:∀{Q:Value->Shared->Prop}{E:Value->Shared->Prop}{A:Around},Q (.ref (hp.push<|Xe b1 l1).objs.size) ⟨(hp.push<|Xe b1 l1).push<|Xe b2 l2,g,d,tk,os⟩->wpAny (model prog w) A (pyIter<|.ref l2) Q E ⟨hp.push<|Xe b1 l1,g,d,tk,os⟩:=λh=>FJ (s:=⟨hp.push<|Xe b1 l1,g,d,tk,os⟩) (hl2.at λo e=>zxH _ e) h
  wp_walk using p1,p2
  refine⟨_,rfl, ?_⟩;have s1:(hp.push<|Xe b1 l1).objs.size=hp.objs.size+1:=zxL _ _;have s2:((hp.push<|Xe b1 l1).push<|Xe b2 l2).objs.size=hp.objs.size+2:=(zxL _ _).trans (congrArg (· + 1) s1);generalize hh2:(hp.push<|Xe b1 l1).push (Xe b2 l2)=h2 at s2 ⊢;have i1:W0 b1 h2 hp.objs.size l1 0:=by
   have:h2.get? hp.objs.size=some (Xe b1 l1):=by rw[<-hh2];exact zxH _<|zxJ _ rfl
   cases b1<;>exact⟨_,this,rfl,rfl⟩
  have i2:W0 b2 h2 (hp.objs.size+1) l2 0:=by
   have:h2.get? (hp.objs.size+1)=some (Xe b2 l2):=by rw[<-hh2,<-s1];exact zxJ _ rfl
   cases b2<;>exact⟨_,this,rfl,rfl⟩
  have kp:∀c o,hp.get? c=some o->h2.get? c=some o:=λc o q=>by rw[<-hh2];exact zxH _<|zxH _ q
  rw[s1];change R (.ok<|.ret<|.ref ((h2.push {cls:=.type "tuple",data:=.seq #[.ref hp.objs.size,.ref<|hp.objs.size+1]}).push {cls:=.type "tuple",data:=.seq #[.none,.none]}).objs.size)
   ⟨((h2.push {cls:=.type "tuple",data:=.seq #[.ref hp.objs.size,.ref<|hp.objs.size+1]}).push {cls:=.type "tuple",data:=.seq #[.none,.none]}).push {cls:=.type "zip",data:=.fields #[.none,.bool false,.bool false,.ref h2.objs.size,.ref (h2.push {cls:=.type "tuple",data:=.seq #[.ref hp.objs.size,.ref<|hp.objs.size+1]}).objs.size]},g,d,tk,os⟩
  have g3:=zxJ h2 (o:={cls:=.type "tuple",data:=.seq #[.ref hp.objs.size,.ref<|hp.objs.size+1]}) rfl;have s3:(h2.push {cls:=.type "tuple",data:=.seq #[.ref hp.objs.size,.ref<|hp.objs.size+1]}).objs.size=hp.objs.size+3:=(zxL _ _).trans (congrArg (· + 1) s2);rw[s2]at g3;rw[s2,s3];have k3:∀c o,h2.get? c=some o->(h2.push {cls:=.type "tuple",data:=.seq #[.ref hp.objs.size,.ref<|hp.objs.size+1]}).get? c=some o:=λc o q=>zxH _ q;generalize (h2.push {cls:=.type "tuple",data:=.seq #[.ref hp.objs.size,.ref<|hp.objs.size+1]})=h3 at *;have g4:=zxJ h3 (o:={cls:=.type "tuple",data:=.seq #[.none,.none]}) rfl;have s4:(h3.push {cls:=.type "tuple",data:=.seq #[.none,.none]}).objs.size=hp.objs.size+4:=(zxL _ _).trans (congrArg (· + 1) s3);have k4:∀c o,h3.get? c=some o->(h3.push {cls:=.type "tuple",data:=.seq #[.none,.none]}).get? c=some o:=λc o q=>zxH _ q;rw[s3]at g4;rw[s4];generalize (h3.push {cls:=.type "tuple",data:=.seq #[.none,.none]})=h4 at *;have g5:=zxJ h4 (o:={cls:=.type "zip",data:=.fields #[.none,.bool false,.bool false,.ref<|hp.objs.size+2,.ref<|hp.objs.size+3]}) rfl;rw[s4]at g5;exact h _ g5 (zxH _<|k4 _ _ g3) (zxH _ g4) (i1.at λo e=>zxH _<|k4 _ _<|k3 _ _ e) (i2.at λo e=>zxH _<|k4 _ _<|k3 _ _ e) λc o q=>zxH _<|k4 _ _<|k3 _ _<|kp c o q
def O9{b1 b2 prog w A E s l1 l2 xs ys Q}(hl1:GY b1 s.heap l1 xs)(hl2:GY b2 s.heap l2 ys)
 (h:∀h':Heap,Fv h' (s.heap.objs.size+4) (s.heap.objs.size+2) (s.heap.objs.size+3) .none false->IsPair h' (s.heap.objs.size+2) (.ref s.heap.objs.size) (.ref<|s.heap.objs.size+1)->IsPair h' (s.heap.objs.size+3) .none .none->W0 b1 h' s.heap.objs.size l1 0->W0 b2 h' (s.heap.objs.size+1) l2 0->
  (∀c o,s.heap.get? c=some o->h'.get? c=some o)->Q (.ref<|s.heap.objs.size+4) {s with heap:=h'}):wpAny (model prog w) A (call (.type "zip") [.ref l1,.ref l2]) Q E s:=
 callType_new F.called_zip (by decide) (F.typeCall_zip_2 _ _) (F.newCall_zip_2 _ _) (λobj=>F.args_object_init_3 obj _ _) F.entry_zip_new (Jg l1 l2 xs ys)
  ⟨hl1,hl2,λh' a1 a2 a3 a4 a5 a6=>⟨⟨_,a1,rfl⟩,h h' a1 a2 a3 a4 a5 a6⟩⟩
def TU{prog w A E s z TI TO f0 f1 Q}(hz:Fv s.heap z TI TO f0 f1)(h:Q (.ref z) s):wpAny (model prog w) A (pyIter<|.ref z) Q E s:=by
 have hT:s.TypeIs (.ref z) "zip":=⟨_,hz,rfl⟩;exact wpAny_pyIter_slot hT F.slot_zip_iter<|zxN F.slot_zip_iter hT F.entry_zip_iter (zxG ⟨.ref z,rfl,"zip",.builtin "zip.__next__",hT,F.slot_zip_next.lookup,h⟩)<|F.args_zip_iter_1 _
def Nh(K:zzA)(H:Hp):Bool->Addr->List V->Prop
 |true,a,xs=>UE K H a xs
 |false,a,xs=>Vp K H a xs
def Nh.ok{X pins σ H s}(I:Inv X pins σ H s):∀{b:Bool}{a:Addr}{xs:List V},Nh X.K H b a xs->∃its:List Value,zP xs its/\GY b s.heap a its.toArray
 |true,a,xs,h=>by obtain⟨its,rv,p,_⟩:=I.tuple h;exact⟨its,rv,p⟩
 |false,a,xs,h=>by obtain⟨its,rv,p,_⟩:=I.list h;exact⟨its,rv,p.isList⟩
def Nh.inj{X pins σ H s}(I:Inv X pins σ H s):∀{b:Bool}{a:Addr}{xs ys:List V},Nh X.K H b a xs->Nh X.K H b a ys->xs=ys
 |true,_,_,_,h,h'=>I.tuple_inj h h'
 |false,_,_,_,h,h'=>I.list_inj h h'
def GY.ex{h l xs}:∀{b:Bool},GY b h l xs->∃o,h.get? l=some o
 |true,⟨o,e,_⟩=>⟨o,e⟩
 |false,⟨o,e,_⟩=>⟨o,e⟩
def W0.ex{h it l}{k:Nat}:∀{b:Bool},W0 b h it l k->∃o,h.get? it=some o/\∀v,o.data ≠ .cell v
 |true,⟨o,e,_,d⟩=>⟨o,e,λv z=>by rw[d]at z;cases z⟩
 |false,⟨o,e,_,d⟩=>⟨o,e,λv z=>by rw[d]at z;cases z⟩
def Do(K:zzA)(b1 b2:Bool)(a b:Addr):It:=
 ⟨λi H=>∃xs ys x y,Nh K H b1 a xs/\Nh K H b2 b ys/\xs[i]? = some x/\ys[i]? = some y,
  λi H v H'=>∃T x y,H T=none/\v = .ref T/\H'=upd H T (.tup [x,y])/\(∀xs,Nh K H b1 a xs->xs[i]? = some x)/\∀ys,Nh K H b2 b ys->ys[i]? = some y,
  λi H=>∃xs ys,Nh K H b1 a xs/\Nh K H b2 b ys/\(xs.length<=i\/ys.length<=i)⟩
def CS{P w K tg b1 b2}(a b z TI TO i1 i2)(D:ZipApart z TI TO i1 i2 a b):Turn P w K tg (Do K b1 b2 a b) [z,TI,TO,i1,i2] z
 (λi h=>(∃f0 f1,Fv h z TI TO f0 f1/\Zf f0)/\IsPair h TI (.ref i1) (.ref i2)/\(∃p q,IsPair h TO p q)/\W0 b1 h i1 a i/\W0 b2 h i2 b i)where
 mem:=by simp
 obj:=λi h st c hc=>by
  obtain⟨⟨f0,f1,hz,_⟩,hTI,⟨p,q,hTO⟩,h1,h2⟩:=st;simp only[zzC,zxB,or_false]at hc
  rcases hc with rfl|rfl|rfl|rfl|rfl
  . exact⟨_,hz,λv z=>by cases z⟩
  . exact⟨_,hTI,λv z=>by cases z⟩
  . exact⟨_,hTO,λv z=>by cases z⟩
  . exact h1.ex
  . exact h2.ex
 keep:=λi h h' st kk=>by
  obtain⟨⟨f0,f1,hz,hf⟩,hTI,⟨p,q,hTO⟩,h1,h2⟩:=st;exact⟨⟨f0,f1,kk z (by simp) _ hz,hf⟩,kk TI (by simp) _ hTI,⟨p,q,kk TO (by simp) _ hTO⟩,h1.at λo e=>kk i1 (by simp) o e,h2.at λo e=>kk i2 (by simp) o e⟩
 item:=by
  intro X hP hw hK hc i pins s σ H E I hf st hg;subst hP hw hK;obtain⟨xs,ys,x,y,hq,hr,hx,hy⟩:=hg;obtain⟨its,rv,p⟩:=hq.ok I;obtain⟨jts,rw',p'⟩:=hr.ok I;obtain⟨u,hu,ru⟩:=rv.get hx;obtain⟨u',hu',ru'⟩:=rw'.get hy;obtain⟨⟨f0,f1,hz,zf⟩,hTI,⟨pp,qq,hTO⟩,h1,h2⟩:=st;refine Bc D hz zf hTI hTO h1 h2 p p' (by simpa using hu) (by simpa using hu') λh' g0 g1 z' zf' to' i1' i2' pr kk=>⟨_,rfl,CD tg z' zf' λh9 e0 z2 zf2 hs=>?_⟩;have hn:=I.hok.fresh<|zzN _;have fr:∀c o,s.heap.get? c=some o->c≠s.heap.objs.size:=λc o e z=>by
   have:=zxI e;rw[z]at this;exact Nat.lt_irrefl _ this
  have nz:=(fr z _ hz).symm;have k2:∀c o,c ∉ [z,TI,TO,i1,i2]->s.heap.get? c=some o->h9.get? c=some o:=λc o hb q=>by
   simp only[zzC,zxB,or_false,not_or]at hb;exact hs.extBut c o hb.1<|kk c o hb.1 hb.2.2.1 hb.2.2.2.1 hb.2.2.2.2 q
  have hTI2:=hs.extBut TI _ D.TIz<|kk TI _ D.TIz D.TITO D.TIi1 D.TIi2 hTI;obtain⟨p1,q1,to1⟩:=to';refine⟨.ref s.heap.objs.size,upd H s.heap.objs.size<|.tup [x,y],RP (s:=s) (t':=s.toks) I hf k2 (zzN _) ⟨by show 2<=sizeLine;decide,[u,u'],.cons ru<|.cons ru' .nil,⟨_,hs.extBut _ _ nz pr,rfl,_,rfl⟩⟩,rfl,
   ⟨_,x,y,hn,rfl,rfl,λq hq'=>by rw[Nh.inj I hq' hq];exact hx,λq hq'=>by rw[Nh.inj I hq' hr];exact hy⟩,⟨⟨e0,g1,z2,zf2⟩,hTI2,⟨p1,q1,hs.extBut TO _ D.TOz to1⟩,i1'.ext hs.extBut D.i1z,i2'.ext hs.extBut D.i2z⟩,λc hc=>?_⟩
  have hcT:c≠s.heap.objs.size:=by
   simp only[zzC,zxB,or_false]at hc
   rcases hc with rfl|rfl|rfl|rfl|rfl
   . exact fr _ _ hz
   . exact fr _ _ hTI
   . exact fr _ _ hTO
   . obtain⟨o,e,_⟩:=h1.ex;exact fr _ _ e
   . obtain⟨o,e,_⟩:=h2.ex;exact fr _ _ e
  rw[zH hcT];exact(hf c hc).1
 done:=by
  intro X hP hw hK hc i pins s σ H E I hf st hg;subst hP hw hK;obtain⟨xs,ys,hq,hr,hx⟩:=hg;obtain⟨its,rv,p⟩:=hq.ok I;obtain⟨jts,rw',p'⟩:=hr.ok I;have hl:=rv.length;have hl':=rw'.length;obtain⟨⟨f0,f1,hz,zf⟩,hTI,⟨pp,qq,hTO⟩,h1,h2⟩:=st;refine Bp (I.ok.hd hc) D hz zf hTI hTO h1 h2 p p' (hx.imp (λh=>by simp;exact q0n hl h) λh=>by simp;exact q0n hl' h) λh' eb=>⟨rfl,Kt (t':=s.toks) I hf λc o hc q=>?_⟩;simp only[zzC,zxB,or_false,not_or]at hc;exact eb c o hc.1 hc.2.2.1 hc.2.2.2.1 hc.2.2.2.2 q
 self:=λ_ _ _ _ _ st h=>let⟨⟨_,_,hz,_⟩,_⟩:=st;TU hz h
section
variable{X:Cx}{tg:Expr}
def qc(K:zzA)(ta:TA):TI:=λσ H R=>ta σ H λvs H1=>∃a b b1 b2,vs=[.ref a,.ref b]/\(∃xs,Nh K H1 b1 a xs)/\(∃ys,Nh K H1 b2 b ys)/\R (Do K b1 b2 a b) H1
def ON{l l' ta p pos}(hg:Gl X "zip")(hm:X.mg "zip"=none)(ha:PA X [l,l'] ta)(hs:starEach [l,l'] X.env=[(false,eval l X.env),(false,eval l' X.env)])(hs2:starEach [l'] X.env=[(false,eval l' X.env)]):
 PI X tg (.Call (.Name "zip" p) [l,l'] [] pos) (qc X.K ta):=by
 intro pins s σ H R I h;refine Call_ (Uu I hg hm boot_zip<|PyProof.Rows.callWith_type1 (wC (ha pos pins s σ H _ I h) λus s1 ⟨vs,H1,I1,r1,q1⟩=>?_) (by rw[hs,hs2])<|by rw[hs2];rfl);obtain⟨a,b,b1,b2,rfl,⟨xs,hq⟩,⟨ys,hr⟩,q⟩:=q1;cases r1 with
 |cons r rr=>
  cases rr with
  |cons r' rr=>
   cases rr;cases r;cases r';obtain⟨its,rv,pl⟩:=hq.ok I1;obtain⟨jts,rw',pl'⟩:=hr.ok I1;obtain⟨o1,ho1⟩:=pl.ex;obtain⟨o2,ho2⟩:=pl'.ex;refine O9 pl pl' λh' hZ hTI hTO hi1 hi2 hk=>?_;refine TU hZ ⟨s1.heap.objs.size+4,[s1.heap.objs.size+4,s1.heap.objs.size+2,s1.heap.objs.size+3,s1.heap.objs.size,s1.heap.objs.size+1],_,_,H1,rfl,I1.kept (t':=s1.toks) hk,CS a b _ _ _ _ _<|OV _ _ _ (zxI ho1)<|zxI ho2,⟨⟨_,_,hZ,.inl rfl⟩,hTI,⟨_,_,hTO⟩,hi1,hi2⟩,λc hc=>?_,q⟩;have hb':s1.heap.objs.size<=c:=by
    simp only[zzC,zxB,or_false]at hc
    rcases hc with rfl|rfl|rfl|rfl|rfl<;>first|exact zzN _|exact Nat.le_add_right _ _
   exact I1.fpOk hb'<|I1.hok.fresh hb'
end
section
variable{X:Cx}{kd:KD}{tg e:Expr}{fa:EF}
def sd{K F B ad H a b b1 b2 vs ws st ds es}(hs:∀(ad3:Ad) (H3:Hp),Grow (Gw [] ad) H (Gw [] ad3) H3->Nh K H3 b1 a vs)(hs':∀(ad3:Ad) (H3:Hp),Grow (Gw [] ad) H (Gw [] ad3) H3->Nh K H3 b2 b ws)
 (r:RpL K kd (Lv F B (Gw [] ad) st) H vs ds) (r':RpL K kd (Lv F B (Gw [] ad) st) H ws es):ItOk K kd F B ad H (Do K b1 b2 a b) (Qc st ds es):=⟨λad3 H3 g3 tr i=>by
 have hr3:=hs ad3 H3 g3;have hr4:=hs' ad3 H3 g3;have rl3:=RpL.grow g3 r;have rl4:=RpL.grow g3 r';have hlen:=Rb st ds es;have l1:=r.length;have l2:=r'.length;refine⟨λhi=>?_,λhi=>⟨_,_,hr3,hr4,q1V hlen hi l1 l2⟩,λv H4 hy=>?_⟩
 . obtain⟨u,hu,_⟩:=r.get<|zzE (show i<ds.length from q1h hi hlen);obtain⟨u',hu',_⟩:=r'.get<|zzE (show i<es.length from q1l hi hlen);exact⟨_,_,u,u',hr3,hr4,hu,hu'⟩
 . obtain⟨T,x,y,hn,rfl,rfl,hv,hv'⟩:=hy;refine⟨wI hn,λq hq=>?_⟩;obtain⟨d,e,hd,he,rfl⟩:=L5 hq;obtain⟨u,hu,ru⟩:=rl3.get hd;obtain⟨u',hu',ru'⟩:=rl4.get he;have:=hv _ hr3;rw[hu]at this;cases this;have:=hv' _ hr4;rw[hu']at this;cases this;exact .tup (λz=>tr _ _ z hn) (.inl ye)<|.cons (Rp.grow ⟨λb o q _=>wI hn b o q,λb z=>.inl z⟩ ru)<|.cons (Rp.grow ⟨λb o q _=>wI hn b o q,λb z=>.inl z⟩ ru') .nil⟩
def tX{K F H a b b1 b2 vs ws st ds es}(ft:∀a,F a->H a≠none)(hs:∀H3:Hp,(∀b u,H b=some u->H3 b=some u)->Nh K H3 b1 a vs)(hs':∀H3:Hp,(∀b u,H b=some u->H3 b=some u)->Nh K H3 b2 b ws)
 (r:RpL K kd (λa=>st=true/\F a) H vs ds) (r':RpL K kd (λa=>st=true/\F a) H ws es):ItC K kd F H (Do K b1 b2 a b) (Qc st ds es):=⟨λH3 T k hT i=>by
 have hr3:=hs H3 k;have hr4:=hs' H3 k;have hlen:=Rb st ds es;have l1:=r.length;have l2:=r'.length;refine⟨λhi=>?_,λhi=>⟨_,_,hr3,hr4,q1V hlen hi l1 l2⟩,λv H4 hy=>?_⟩
 . obtain⟨u,hu,_⟩:=r.get<|zzE (show i<ds.length from q1h hi hlen);obtain⟨u',hu',_⟩:=r'.get<|zzE (show i<es.length from q1l hi hlen);exact⟨_,_,u,u',hr3,hr4,hu,hu'⟩
 . obtain⟨A,x,y,hn,rfl,rfl,hv,hv'⟩:=hy;have hnH:H A=none:=by
    cases e:H A with
    |none=>rfl
    |some u=>rw[k A u e]at hn;cases hn
   refine⟨wI hn,λq hq=>?_⟩;obtain⟨d,e,hd,he,rfl⟩:=L5 hq;obtain⟨u,hu,ru⟩:=r.get hd;obtain⟨u',hu',ru'⟩:=r'.get he;have:=hv _ hr3;rw[hu]at this;cases this;have:=hv' _ hr4;rw[hu']at this;cases this;have up:∀{v:V}{d:D},Rp K kd (λa=>st=true/\F a) H v d->Rp K kd (λa=>st=true/\(F a\/T a)) (upd H3 A<|.tup [x,y]) v d:=λrp=>
    (rp.since (λb o q=>wI hn b o<|k b o q) λa z=>(hT a z).1).less λa z=>z.2.elim (λy=>.inl ⟨z.1,y⟩) .inr
   exact .tup (λz=>z.2.elim (λy=>ft A y hnH) λy=>(hT A y).2 hn) (.inl ye)<|.cons (up ru)<|.cons (up ru') .nil⟩
noncomputable def tN:RV->Option (Bool×Bool×List D)
 | .ow (.lf s (.lst l))=>some (s,false,l)
 | .ow (.lf s (.tup l))=>some (s,true,l)
 |_=>none
def Yz(fr:AF):IF:=λas=>(fr as).bind λp=>(pV p.1).bind λo=>(tN o.1).bind λa=>(tN o.2).bind λb=>some (Qc (a.1&&b.1) a.2.2 b.2.2,p.2)
def X3{K F B ad σ H v r x}(e:tN r=some x)(rv:xo K kd F B [] ad σ H v r):∃a vs,v = .ref a/\Nh K H x.2.1 a vs/\(∀H3:Hp,(∀b u,¬Gw [] ad b->H b=some u->H3 b=some u)->Nh K H3 x.2.1 a vs)/\RpL K kd (Lv F B (Gw [] ad) x.1) H vs x.2.2:=by
 cases r with
 |bo i=>cases e
 |ow o=>
  cases o with
  |nd k os=>cases e
  |lf s d=>
   cases rv with
   |lf rp=>
    cases rp with
    |lst hn hr rl=>
     cases e;refine⟨_,_,rfl,.inl hr,λH3 k=>?_,rl⟩
     rcases hr with hr|⟨o,hr⟩
     . exact .inl<|.inl<|k _ _ (λz=>hn<|.inr z) hr
     . exact .inl (.inr ⟨o,k _ _ (λz=>hn<|.inr z) hr⟩)
    |lstK a b c rl=>cases e;exact⟨_,_,rfl,.inr ⟨_,_,_,a,rfl,rfl,rfl,b,c⟩,λH3 k=>.inr ⟨_,_,_,a,rfl,rfl,rfl,b,c⟩,rl⟩
    |tup hn hr rl=>
     cases e;refine⟨_,_,rfl,.inl hr,λH3 k=>?_,rl⟩
     rcases hr with hr|⟨o,hr⟩
     . exact .inl<|.inl<|k _ _ (λz=>hn<|.inr z) hr
     . exact .inl (.inr ⟨o,k _ _ (λz=>hn<|.inr z) hr⟩)
    |tupK a b c e' f rl=>cases e;exact⟨_,_,rfl,.inr ⟨_,_,_,a,b,c,e',f⟩,λH3 k=>.inr ⟨_,_,_,a,b,c,e',f⟩,rl⟩
    |_=>cases e
def tV{F B G p q}:∀a,Lv F B G (p&&q) a->Lv F B G p a:=U2 λz=>(Bool.and_eq_true_iff.mp z).1
def tH{F B G p q}:∀a,Lv F B G (p&&q) a->Lv F B G q a:=U2 λz=>(Bool.and_eq_true_iff.mp z).2
def uS{l l' fr p pos}(hg:Gl X "zip")(hm:X.mg "zip"=none)(ha:AA X kd [l,l'] fr)(hs:starEach [l,l'] X.env=[(false,eval l X.env),(false,eval l' X.env)])(hs2:starEach [l'] X.env=[(false,eval l' X.env)]):
 AI X kd tg (.Call (.Name "zip" p) [l,l'] [] pos) (Yz fr):=by
 with_unfolding_all (
 intro pins s σ H R I h;obtain⟨F,B,ad,as,ds,as',Rl,e',q⟩:=h;obtain⟨⟨rs,as1⟩,h1,e'⟩:=bS_<|e';obtain⟨⟨o1,o2⟩,e1,e'⟩:=bS_ e';obtain⟨x1,e2,e'⟩:=bS_ e';obtain⟨x2,e3,e'⟩:=bS_ e';cases EM e1;cases e';refine ON hg hm ha hs hs2 pins s σ H R I ⟨F,B,ad,as,_,as1,Rl,h1,λvs ad1 H1 R1 rv1 g1=>?_⟩;cases rv1 with
 |cons r1 rr=>
  cases rr with
  |cons r2 rr=>
   cases rr;obtain⟨a,vs,rfl,sa,ka,ra⟩:=X3 e2 r1;obtain⟨b,ws,rfl,sb,kb,rb⟩:=X3 e3 r2;exact⟨a,b,_,_,rfl,⟨_,sa⟩,⟨_,sb⟩,q _ ad1 H1 R1 g1<|sd (λad3 H3 g3=>ka H3 λb u n h=>g3.keep b u h n) (λad3 H3 g3=>kb H3 λb u n h=>g3.keep b u h n) (ra.less tV)<|rb.less tH⟩)
def tP{l l' fr p pos}(hg:Gl X "zip")(hm:X.mg "zip"=none)(ha:AA X kd [l,l'] fr)(hs:starEach [l,l'] X.env=[(false,eval l X.env),(false,eval l' X.env)])(hs2:starEach [l'] X.env=[(false,eval l' X.env)]):
 D0 X kd tg (.Call (.Name "zip" p) [l,l'] [] pos) (Yz fr):=by
 with_unfolding_all (
 intro pins s σ H R I h;obtain⟨F,B,ad,as,ds,as',Rl,e',q⟩:=h;obtain⟨⟨rs,as1⟩,h1,e'⟩:=bS_<|e';obtain⟨⟨o1,o2⟩,e1,e'⟩:=bS_ e';obtain⟨x1,e2,e'⟩:=bS_ e';obtain⟨x2,e3,e'⟩:=bS_ e';cases EM e1;cases e';refine ON hg hm ha hs hs2 pins s σ H R I ⟨F,B,ad,as,_,as1,Rl,h1,λvs ad1 H1 R1 rv1 g1=>?_⟩;cases rv1 with
 |cons r1 rr=>
  cases rr with
  |cons r2 rr=>
   cases rr;obtain⟨a,vs,rfl,sa,ka,ra⟩:=X3 e2 r1;obtain⟨b,ws,rfl,sb,kb,rb⟩:=X3 e3 r2;refine⟨a,b,_,_,rfl,⟨_,sa⟩,⟨_,sb⟩,q _ ad1 H1 R1 g1<|tX (R1.trk true) (λH3 k=>ka H3 λb u n h=>k b u h) (λH3 k=>kb H3 λb u n h=>k b u h) (ra.less λa z=>?_)<|rb.less λa z=>?_⟩
   . have z1:=(Bool.and_eq_true_iff.mp z.1).1;rw[z1];exact z.2
   . have z1:=(Bool.and_eq_true_iff.mp z.1).2;rw[z1];exact z.2)
end
def r9:List D->Option R0:=qf λx=>(oo x).bind λds=>(V2 ds).bind λns=>some<|.im<|.int ns.sum
theorem Kw:∀{us:List Value}{ns:List Int},IntsAre us ns->∃ps:List (Int×Tok),us=ps.map (λp=>Value.int p.1 p.2)/\ps.map (·.1)=ns
 |_,_,.nil=>⟨[],rfl,rfl⟩
 |_,_,.cons a t h=>by
  obtain⟨b,rfl,rfl⟩:=Kw h;exact⟨(a,t)::b,rfl,rfl⟩
theorem Bz{ps:List (Int×Tok)}:∀k,k<=ps.length->preSum (numAt ps.toArray) k=((ps.take k).map (·.1)).sum
 |0,_=>by rw[List.take_zero];rfl
 |k+1,h=>by
  have a:=Bz (ps:=ps) k<|q1o h;rw[List.take_add_one,zyM,List.sum_append,<-a];show preSum _ k+numAt ps.toArray k=_
  congr 1
  rw[zzE (show k<ps.length from q1q h)];show((ps.toArray[k]?).map _).getD 0=_;rw[List.getElem?_toArray,zzE (show k<ps.length from q1q h)];simp
section
variable{X:Cx}{kd:KD}
def OY(hc:X.calm=true):Xb X kd (.builtin "sum") r9:=by
 intro f s σ H E F Q I r h;obtain⟨O,G,J,K,i,a,q⟩:=h;obtain⟨x,d,rfl,j,a⟩:=Pp i a;obtain⟨l,k,b⟩:=bS_<|a;cases Pi k
 . obtain⟨m,n,c⟩:=bS_ b;cases c
   . cases j with
     |lst o p=>
      obtain⟨u,rfl,t⟩:=vals1 r;cases t;obtain⟨e,v,w,L⟩:=I.list o.sq;obtain⟨g,y,z⟩:=Kw<|tE p v n;refine sum_intListG (I.ok.hd hc) (xs:=g.toArray) ?_ λM A B C=>?_
      . have D:intItems g.toArray=e.toArray:=by rw[y];simp[intItems]
        rw[D];exact w.isList
      . refine⟨.int m.sum,H,I.kept (t':=A) C,⟨B, ?_⟩,ya q<|.int _⟩;rw[zzH,Bz _<|zzN _,List.take_length,z]
end
def OP(h:n<=1000000):n<=sizeLine:=zzO h (by decide)
section
variable{as:AS}{f fo a b:EF}{fr:AF}{s t:Bool}{x y z d:D}{c m:Str}{ns cs:List Str}{ds:List D}{tbl:List (Str×Fn)}{g:Fn}{o:O}
def RZ(h:WD fo as s (.ob c ns ds))(hc:c ∈ cs)(hl:B6 ns ds n=some d):WD (f1 fo<|zT cs n) as (zC d||s) d:=by
 unfold WD f1 at *;rw[h];show(if c ∈ cs then(B6 ns ds n).bind λd=>some _ else none:Option R0).bind _=_;rw[if_pos hc,hl];show(if _=true then _ else _:Option RV).bind _=_;rw[if_pos<|by simp];rfl
def Ew(ho:WD fo as s (.ob c ns ds))(hm:m ∉ ns)(ht:Oi tbl c=some g)(hr:WA fr as rs)(hg:g ((s,.ob c ns ds)::rs.map λx=>(zC x.2||x.1,x.2))=some o):Ye tbl m fo fr as=some (.ow o,as):=by
 unfold Ye;unfold WD at ho;unfold WA at hr;rw[ho];show(if m ∈ ns then none else some c:Option Str).bind _=_;rw[if_neg hm];show(Oi tbl c).bind _=_;rw[ht];rw[hr];show((Xl as _).bind _:Option _).bind _=_;rw[Ym];show(g ((s,.ob c ns ds)::_)).bind _=_;rw[hg];rfl
def Fw(ho:WD fo as true (.ob c ns ds))(hm:m ∉ ns)(ht:Oi tbl c=some g)(ha:WE a as x)(hg:RE (g [(true,.ob c ns ds),(true,x)]) z):WE (Ye tbl m fo<|aC a aN) as z:=by
 obtain⟨o,b,d,e⟩:=hg;exact⟨o,Ew ho hm ht (yZ ha zr) (by show g [_,(zC x||true,x)]=_;rw[zyD];exact b),d,e⟩
def Ac(ho:WD fo as true (.ob c ns ds))(hm:m ∉ ns)(ht:Oi tbl c=some g)(ha:WE a as x)(hb:WE b as y)(hg:RE (g [(true,.ob c ns ds),(true,x),(true,y)]) z):WE (Ye tbl m fo<|aC a<|aC b aN) as z:=by
 obtain⟨o,d,e,f⟩:=hg;exact⟨o,Ew ho hm ht (yZ ha<|yZ hb zr) (by show g [_,(zC x||true,x),(zC y||true,y)]=_;rw[zyD,zyD];exact d),e,f⟩
def rD(ho:WD fo as true (.ob c ns ds))(hm:m ∉ ns)(ht:Oi tbl c=some g)(ha:WE a as x)(hb:WE b as y)(he:WE e as w)(hg:RE (g [(true,.ob c ns ds),(true,x),(true,y),(true,w)]) z):WE (Ye tbl m fo<|aC a<|aC b<|aC e aN) as z:=by
 obtain⟨o,d,f,h⟩:=hg;exact⟨o,Ew ho hm ht (yZ ha<|yZ hb<|yZ he zr) (by show g [_,(zC x||true,x),(zC y||true,y),(zC w||true,w)]=_;rw[zyD,zyD,zyD];exact d),f,h⟩
inductive SqD:D->List D->Prop
 |l (ds:List D):SqD (.lst ds) ds
 |t (ds:List D):SqD (.tup ds) ds
theorem Vq(st):∀(xs ys:List D),Qc st xs ys=(xs.zip ys).map λq=>(st,.tup [q.1,q.2])
 | [],_=>rfl
 |_::_,[]=>rfl
 |x::r,y::t=>congrArg (_ :: ·)<|Vq st r t
def JC(ha:WE a as x)(hb:WE b as y)(hx:SqD x xs)(hy:SqD y ys):Yz (aC a<|aC b aN) as=some ((xs.zip ys).map λq=>(true,.tup [q.1,q.2]),as):=by
 have h:=yZ ha<|yZ hb zr;unfold WA at h;unfold Yz;rw[h,<-Vq];cases hx<;>cases hy<;>rfl
theorem MI:∀(l:List α),(∀q ∈ l,∃as1,gg (it q) as0=some as1/\WE fe as1 (h q))->∃os,xF gg yx fe as0 (l.map it)=some os/\O.strs os=true/\O.toDs os=l.map h
 | [],_=>⟨[],rfl,rfl,rfl⟩
 |q::l,H=>by
  obtain⟨a,d,e,f⟩:=MI l λp m=>H p<|zzD _ m;obtain⟨b,g,o,i,c,j⟩:=H q zzF;refine⟨o::a, ?_,by show(o.str&&O.strs a)=true;rw[c,e];rfl,by show o.toD::O.toDs a=_;rw[j,f];rfl⟩;show xF gg yx fe as0 (it q::l.map it)=_;unfold xF;rw[g];show((fe b).bind _)=_;rw[i];show(if o.str=true then _ else _)=_;rw[if_pos c,d];rfl
theorem N0:∀(l:List α),(∀q ∈ l,∃as1,gg (it q) as0=some as1/\WT tt as1 (p q)/\(p q=true->WE fe as1 (h q)))->∃os,xF gg tt fe as0 (l.map it)=some os/\O.strs os=true/\O.toDs os=(l.filter p).map h
 | [],_=>⟨[],rfl,rfl,rfl⟩
 |q::l,H=>by
  obtain⟨c,d,e,f⟩:=N0 l λp m=>H p<|zzD _ m;obtain⟨a,g,b,j⟩:=H q zzF;cases hp:p q with
  |false=>
   rw[hp]at b;refine⟨c,Ca g b d,e, ?_⟩;rw[List.filter_cons_of_neg<|by simp[hp]];exact f
  |true=>
   rw[hp]at b;obtain⟨o,k,i,n⟩:=j hp;refine⟨o::c, ?_,by show(o.str&&O.strs c)=true;rw[i,e];rfl, ?_⟩
   . unfold WT at b;show xF gg tt fe as0 (it q::l.map it)=_;unfold xF;rw[g];show(tt a).bind _=_;rw[b];show((fe a).bind _)=_;rw[k];show(if o.str=true then _ else _)=_;rw[if_pos i,d];rfl
   . rw[List.filter_cons_of_pos hp];show o.toD::O.toDs c=_;rw[n,f];rfl
def FG{os}(h1:fi as=some (xs,as))(hl:xs.length<=1000000)(h2:xF gg tt fe (Z6 cap as) xs=some os)(hs:O.strs os=true)(e:O.toDs os=zs):WE (zS fi cap gg tt fe) as (.lst zs):=by
 refine⟨.nd .ls os, ?_,hs,congrArg D.lst e⟩;unfold zS;rw[h1];show(if xs.length<=sizeLine then _ else _)=_;rw[if_pos<|OP hl,h2];rfl
def Ws(l:List α)(h1:fi as=some (l.map it,as))(hl:l.length<=1000000)(H:∀q ∈ l,∃as1,gg (it q) (Z6 cap as)=some as1/\WE fe as1 (h q)):WE (zS fi cap gg yx fe) as (.lst<|l.map h):=by
 obtain⟨d,a,b,c⟩:=MI l H;exact FG h1 (by rw[zzB];exact hl) a b c
def Sb(l:List α)(h1:fi as=some (l.map it,as))(hl:l.length<=1000000)(H:∀q ∈ l,∃as1,gg (it q) (Z6 cap as)=some as1/\WT tt as1 (p q)/\(p q=true->WE fe as1 (h q))):WE (zS fi cap gg tt fe) as (.lst<|(l.filter p).map h):=by
 obtain⟨d,a,b,c⟩:=N0 l H;exact FG h1 (by rw[zzB];exact hl) a b c
def Rt(r:Option Out)(x:D):Prop:=∃o,r=some (.rt o)/\o.str=true/\o.toD=x
def zL{n m:Nat}{c ds}(hl:ds.length=m)(h:Rt (c<|Zh n ds) x):RE (xY n m c ds) x:=by
 obtain⟨o,a,b,d⟩:=h;exact⟨o,xV hl a,b,d⟩
def zc{f g}(h1:f as=some (.nx as1))(h2:Rt (g as1) x):Rt (ze f g as) x:=by
 obtain⟨o,e,h⟩:=h2;exact⟨o,zo h1 e,h⟩
def yk{f g}(h1:Rt (f as) x):Rt (ze f g as) x:=by
 obtain⟨o,e,h⟩:=h1;exact⟨o,vV e,h⟩
def yK{c f g}(h:WT c as true)(h1:Rt (f as) x):Rt (yR c f g as) x:=by
 obtain⟨o,e,a⟩:=h1;exact⟨o,y6 h e,a⟩
def zA(h:WE f as x):Rt (zw f as) x:=by
 obtain⟨o,b,a,c⟩:=h;refine⟨o, ?_,a,c⟩;unfold zw;rw[b];show((if o.str=true then some o else none).bind _)=_;rw[if_pos a];rfl
theorem RE.lf(h:r=some (.lf true x)):RE r x:=⟨_,h,rfl,rfl⟩
def Ef{c}(h:WT c as true)(ha:WE a as x):WE (Ou c a b) as x:=by
 obtain⟨o,d,e,f⟩:=ha;exact⟨o,by unfold Ou;unfold WT at h;rw[h];exact d,e,f⟩
def En{c}(h:WT c as false)(hb:WE b as x):WE (Ou c a b) as x:=by
 obtain⟨o,d,e,f⟩:=hb;exact⟨o,by unfold Ou;unfold WT at h;rw[h];exact d,e,f⟩
def UK{g}(ha:WE a as x)(hg:g [x]=some (.im z)):WE (fP (aC a aN) g) as z:=WD.e<|Ho ha hg
def qd{os}(h:WO fd as os)(hl:os.length<=1000000)(hs:O.strs os=true)(e:O.toDs os=zs):WE (yd fd) as (.tup zs):=by
 refine⟨Q3 os,Ju h<|OP hl, ?_, ?_⟩
 . unfold Q3;split
   . exact hs
   . exact hs
 . subst e;unfold Q3;split
   . rfl
   . rfl
def mL{os}(h:WE a as x)(hr:WO fd as os):∃o,o.str=true/\o.toD=x/\WO (dC a fd) as (o::os):=by
 obtain⟨o,b,c,d⟩:=h;exact⟨o,c,d,Jw b hr⟩
def yp(ha:WE a as x)(hb:WE b as y):WE (yd<|dC a<|dC b dN) as (.tup [x,y]):=by
 obtain⟨p,c,rfl,d⟩:=mL hb yi;obtain⟨o,e,rfl,f⟩:=mL ha d;exact qd f (by show 2<=_;omega) (by show(o.str&&(p.str&&true))=true;rw[e,c];rfl) rfl
def QQ{g}(ha:WE a as x)(hb:WE b as y)(hg:g x y=some (.im z)):WE (f2 a b g) as z:=WD.e<|OU ha hb hg
end
open AutoSeq1 (wpAny_loadPart')
section
variable{X:Cx}{kd:KD}
def mh(x:D)(lo hi:Option Int):Option R0:=(oo x).bind λxs=>if lo=none/\hi=some (-1)then some (.fl xs.reverse)else none
theorem B0:∀r:List Value,(List.range r.length).filterMap (λk=>r[k]?)=r
 | []=>rfl
 |a::r=>by
  rw[zzT,List.range_succ_eq_map,List.filterMap_cons,List.filterMap_map];show a::(List.range r.length).filterMap (λk=>r[k]?)=_;rw[B0 r]
theorem V0{α β:Type}{f g:α->Option β}:∀{l:List α},(∀a ∈ l,f a=g a)->l.filterMap f=l.filterMap g
 | [],_=>rfl
 |a::l,h=>by rw[List.filterMap_cons,List.filterMap_cons,h a zzF,V0 λb hb=>h b<|zzD _ hb]
def IK(l:List Value):slicePick l.toArray none none (some (-1))=l.reverse.toArray:=by
 have e:sliceBounds none none (some (-1)) l.toArray.size=((l.length:Int)-1, -1, -1):=by
  rw[zzH];rfl
 unfold slicePick;rw[e];have e2:(sliceRange ((l.length:Int)-1) (-1) (-1))=(List.range l.length).map λk=>l.length-1-k:=by
  unfold sliceRange;rw[if_neg<|by decide]
  rcases Nat.eq_zero_or_pos l.length with h|h
  . rw[h];rfl
  . rw[if_pos (by omega),Int.neg_neg,Int.ediv_one];have:((l.length:Int)-1 - -1 - -1-1).toNat=l.length:=by omega
    show List.map _ _=_;rw[this];refine List.map_congr_left λk hk=>?_;have:=List.mem_range.mp hk;omega
 rw[e2]
 congr 1
 rw[List.filterMap_map];have e3:(List.range l.length).filterMap (λk=>l.toArray[l.length-1-k]?)=(List.range l.reverse.length).filterMap (λk=>l.reverse[k]?):=by
  rw[List.length_reverse];refine V0 λk hk=>?_;rw[List.getElem?_reverse<|List.mem_range.mp hk];simp
 exact e3.trans<|B0 _
def DP{K O H vs ds}(r:RpL K kd O H vs ds):RpL K kd O H vs.reverse ds.reverse:=RpL.ind (P:=λvs ds=>RpL K kd O H vs.reverse ds.reverse) .nil (λa _ ih=>by
 rw[List.reverse_cons,List.reverse_cons];exact ih.append<|.cons a .nil) r
def qV{e st te th p2 pos}(he:PE X e te)(hst:PO X (some st) th):PE X (.Subscript e (.Slice none none (some st) p2) pos)
 (eH (λx lo u H Q=>∃a xs,x = .ref a/\Vp X.K H a xs/\u=some (-1)/\∀p,H p=none->Q (.ref p) (upd H p<|.lst xs.reverse)) te Oq th):=by
 intro pins s σ H Q I h;refine Subscript_<|wC (he pins s σ H _ I h) λv s1 ⟨x,H1,I1,r1,q1⟩=>?_;refine wpAny_Slice ?_;rw[evalPart_none];refine zxG<|zxG<|wC (hst pins s1 σ H1 _ I1 q1) λvu s3 ⟨u,H3,I3,pu,q3⟩=>?_;have I4:Inv X pins σ H3 {s3 with heap:=s3.heap.push {cls:=.type "slice",data:=.fields #[.none,.none,vu]}}:=I3.kept (t':=s3.toks) λb ob q=>zxH _ q;obtain⟨a,xs,rfl,hx,rfl,q⟩:=q3;cases r1;obtain⟨its,r',pl,hz⟩:=I4.list hx;have hlen:=r'.length;refine tail_any pl.isList.typeIs slot_list_getitem.lookup (wpAny_getItem_list_slice pl.isList (Heap.IsSliceOf.new ..) .none .none pu (by decide) ?_<|by rw[zzH];exact q0n hlen hz) (by with_unfolding_all rfl);rw[IK];exact⟨.ref _,_,I4.lnew (t':=s3.toks) r'.reverse (by rw[List.length_reverse];exact hz),rfl,q _ I4.fresh⟩
def o5{a st fa fs pos p2}(ha:AE X kd a fa)(hs:AE X kd st fs):AE X kd (.Subscript a (.Slice none none (some st) p2) pos) (WR fa oN (oS fs) mh):=by with_unfolding_all exact(yo (qV ha<|GI hs) λσ H Q h=>by
 obtain⟨F,B,ad,as,r,as',R,e,q⟩:=h;obtain⟨⟨p,as1⟩,h1,e⟩:=bS_<|e;obtain⟨⟨l,as2⟩,h2,e⟩:=bS_ e;cases h2;obtain⟨⟨u,as3⟩,h3,e⟩:=bS_ e;obtain⟨⟨d,lv⟩,h4,e⟩:=bS_ e;obtain⟨r',h5,e⟩:=bS_ e;obtain⟨z,h6,e⟩:=bS_ e;cases e;obtain⟨xs,h7,h5⟩:=bS_<|h5;obtain⟨c,e5⟩:=zv h5;cases e5;refine vT R h1 λv ad1 H1 R1 rv1 g1=>⟨F,B,ad1,as1,u,_,R1,h3,λad3 H3 R3 g3=>?_⟩;have vx:=xo.vw R3 (rv1.grow g3) h4;have rq:=Y2 R3 h6 λw T' H' R' rv' g'=>q w T' ad3 H' R' rv'<|(g1.trans g3).trans g';cases Pi h7;cases vx with
 |lst hr rl=>exact⟨_,_,rfl,hr.sq,c.2,Pj rq<|DP rl⟩)
end
def DS(n:Nat)(K:zzA)(kd:KD)(F B:Addr->Prop)(ad:Ad)(σ:St)(H:Hp)(D:Ends):Out->Prop
 | .nx as'=>∀σ' ad' H',(∀i,i<n->σ'[i]? = σ[i]?)->Rel K kd F B [] ad' as' σ' H'->Grow (Gw [] ad) H (Gw [] ad') H'->D.nx σ' H'
 | .bk as'=>∀σ' ad' H',(∀i,i<n->σ'[i]? = σ[i]?)->Rel K kd F B [] ad' as' σ' H'->Grow (Gw [] ad) H (Gw [] ad') H'->D.bk σ' H'
 | .ct as'=>∀σ' ad' H',(∀i,i<n->σ'[i]? = σ[i]?)->Rel K kd F B [] ad' as' σ' H'->Grow (Gw [] ad) H (Gw [] ad') H'->D.ct σ' H'
 | .rt _=>False
def bp(n:Nat)(K:zzA)(kd:KD)(f:SF):TS:=λD σ H=>∃F B ad as o,Rel K kd F B [] ad as σ H/\f as=some o/\DS n K kd F B ad σ H D o
@[irreducible] def AP(X:Cx)(kd:KD)(n:Nat)(st:Stmt)(f:SF):Prop:=PS X st<|bp n X.K kd f
@[irreducible] def rn(X:Cx)(kd:KD)(n:Nat)(st:List Stmt)(f:SF):Prop:=M_ X st<|bp n X.K kd f
def DS.pre{n:Nat}{K ad ad1 D}(s:∀i,i<n->σ1[i]? = σ[i]?)(g:Grow (Gw [] ad) H (Gw [] ad1) H1)(h:DS n K kd F B ad σ H D o):DS n K kd F B ad1 σ1 H1 D o:=by
 cases o with
 |nx as=>exact λσ' ad' H' s' R g'=>h σ' ad' H' (λi hi=>(s' i hi).trans<|s i hi) R (g.trans g')
 |bk as=>exact λσ' ad' H' s' R g'=>h σ' ad' H' (λi hi=>(s' i hi).trans<|s i hi) R (g.trans g')
 |ct as=>exact λσ' ad' H' s' R g'=>h σ' ad' H' (λi hi=>(s' i hi).trans<|s i hi) R (g.trans g')
 |rt _=>exact h
section
variable{X:Cx}{kd:KD}{n:Nat}{e c tg iter:Expr}{st:Stmt}{rest sts body:List Stmt}{fa:EF}{ta:TF}{f g:SF}{pos pos':Pos}
def H9:rn X kd n [] yM:=by with_unfolding_all exact(YW Ek λD σ H h=>by
 obtain⟨F,B,a,as,o,R,e,q⟩:=h;cases e;exact q σ a H (λ_ _=>rfl) R Grow.refl)
def KQ(h1:AP X kd n st f)(h2:rn X kd n rest g):rn X kd n (st::rest) (ze f g):=by with_unfolding_all exact(YW (XC h1 h2) λD σ H h=>by
 obtain⟨F,B,ad,as,o,R,e,q⟩:=h;obtain⟨o1,e1,e⟩:=bS_<|e;refine⟨F,B,ad,as,o1,R,e1, ?_⟩;cases o1 with
 |nx as1=>exact λσ' ad' H' s' R' g'=>⟨F,B,ad',as1,o,R',e,q.pre s' g'⟩
 |bk as1=>cases e;exact q
 |ct as1=>cases e;exact q
 |rt r=>cases e;exact q)
def UT(h1:AP X kd n st f):rn X kd n [st] f:=by with_unfolding_all exact(UX h1)
def sH(hc:AT X kd c ta)(ha:rn X kd n sts f)(hb:rn X kd n rest g):AP X kd n (.If c sts rest pos) (yR ta f g):=by with_unfolding_all exact(xR (An hc ha hb) λD σ H h=>by
 obtain⟨F,B,i,as,o,R,e,q⟩:=h;obtain⟨⟨p,a⟩,j,e⟩:=bS_<|e;refine⟨F,B,i,as,p,a,R,j,λb k d g=>?_⟩;cases p with
 |true=>exact⟨F,B,b,a,o,d,e,q.pre (λ_ _=>rfl) g⟩
 |false=>exact⟨F,B,b,a,o,d,e,q.pre (λ_ _=>rfl) g⟩)
def E6(he:AE X kd e fa)(hs:swapsWith e none pos.line X.env=pure false):AP X kd n (.Expr e pos) (yq fa):=by with_unfolding_all exact(xR (U9 he hs) λD σ H h=>by
 obtain⟨F,B,c,as,o,R,e,q⟩:=h;obtain⟨⟨p,a⟩,d,e⟩:=bS_<|e;cases e;exact⟨F,B,c,as,p,a,R,d,λv j b f i k g=>q σ b f (λ_ _=>rfl) i.drop<|g.trans<|Grow.less Gw.drop⟩)
def qC{i:Nat}(hn:n<=i)(hN:X.N.Nodup)(hi:X.N[i]? = some x)(hx:Loc X.env.scope x)(he:AE X kd e fa)(hs:swapsWith e (some<|.Name x pos') pos.line X.env=pure false)(hf:X.fn x=true\/X.env.scope.names.lookup x=some .local):
 AP X kd n (.Assign [.Name x pos'] e pos) (zp z i fa):=by with_unfolding_all exact(xR (Iu hN hi hx he hs hf) λD σ H h=>by
 obtain⟨F,B,c,as,o,R,e,q⟩:=h;obtain⟨⟨p,a⟩,d,e⟩:=bS_<|e;obtain⟨⟨y,f⟩,j,e⟩:=bS_ e;obtain⟨l,e⟩:=zv e;cases e;refine⟨F,B,c,as,p,a,R,d,λv w m r s t g=>?_⟩;obtain⟨b,R2,u⟩:=SG s t j l;exact q _ b r (λk A=>zzY<|q0x A hn) R2<|g.trans<|Grow.less u)
def Aj(hS:∀i,i<n->i ∉ S)(hp:PassesOwn (model X.prog X.w) X.A X.env X.xe)(hc:X.calm=true)(hi:AI X kd tg iter fi)(hg:AG X kd tg S gt)(hb:rn X kd n body f)(hs:∀x,foldedSetIterable iter X.env x=pure x):
 AP X kd n (.For tg iter body [] pos) (yJ fi gt f):=by with_unfolding_all exact(xR (Ij hp hc hi hg hb hs) λD σ H h=>by
 obtain⟨F,B,ad,as,o,R,e,q⟩:=h;obtain⟨⟨ds,as1⟩,h1,e⟩:=bS_<|e;refine⟨F,B,ad,as,ds,as1,R,h1,λJ ad1 H1 R1 g1 it=>?_⟩;refine⟨λi m σ2 H2=>m+i=ds.length/\∃ad2 as2,(∀k,k<n->σ2[k]? = σ[k]?)/\Rel X.K kd F B [] ad2 as2 σ2 H2/\Grow _ H1 (Gw [] ad2) H2/\forL gt f (ds.drop i) as2=some o,⟨ds.length,rfl,ad1,as1,λ_ _=>rfl,R1,Grow.refl,e⟩, ?_⟩
 rintro i m σ2 H2 ⟨hm,ad2,as2,s2,R2,g2,e2⟩
 obtain⟨k1,k2,k3⟩:=it.all ad2 H2 g2 R2.trk i
 by_cases hi:i<ds.length
 . refine .inr ⟨k1 hi,λσ3 H3=>∃ad3 as3,_/\Rel X.K kd F B [] ad3 as3 σ3 H3/\Grow _ H1 _ H3/\forL gt f _ as3=some o,λσ3 H3 ⟨ad3,as3,s3,R3,g3,e3⟩=>⟨m-1,q0s hm hi,q0l hm hi,ad3,as3,s3,R3,g3,e3⟩,λv H3 hy=>?_⟩;obtain⟨kp,rp⟩:=k3 v H3 hy;rw[zyQ hi]at e2;obtain⟨as3,e3,e2⟩:=bS_<|e2;obtain⟨o3,e4,e2⟩:=bS_ e2;obtain⟨R3,g3⟩:=R2.more kp;refine⟨F,B,ad2,as2,_,as3,R3,rp _<|zzE hi,e3,λσ4 ad4 H4 R4 g4 s4=>?_⟩;refine⟨F,B,ad4,as3,o3,R4,e4, ?_⟩;have gg:=(g2.trans g3).trans g4;have s4':∀k,k<n->σ4[k]? = σ[k]? := λk hk=>(s4 k<|hS k hk).trans<|s2 k hk;cases o3 with
   |nx as5=>exact λσ5 ad5 H5 s5 R5 g5=>⟨ad5,as5,λk hk=>(s5 k hk).trans<|s4' k hk,R5,gg.trans g5,e2⟩
   |ct as5=>exact λσ5 ad5 H5 s5 R5 g5=>⟨ad5,as5,λk hk=>(s5 k hk).trans<|s4' k hk,R5,gg.trans g5,e2⟩
   |bk as5=>
    cases e2;exact λσ5 ad5 H5 s5 R5 g5=>q σ5 ad5 H5 (λk hk=>(s5 k hk).trans<|s4' k hk) R5 (g1.trans<|gg.trans g5)
   |rt r=>cases e2;exact q.elim
 . refine .inl ⟨k2<|q0q hm hi, ?_⟩;rw[List.drop_eq_nil_of_le<|q0q hm hi]at e2;cases e2;exact q σ2 ad2 H2 s2 R2<|g1.trans g2)
end
section
variable{K:zzA}{kd:KD}{F B:Addr->Prop}{ad:Ad}{as:AS}{σ:St}{H H':Hp}
def G1(G:Addr->Prop)(T T':List Addr):Addr->Prop:=λa=>(G a/\a ∉ T)\/a ∈ T'
def Rel.chg1{i:Nat}(R:Rel K kd F B [] ad as σ H)(hi:i<as.length)(s0:σ[i]? = some (some v0))(nd:T0.Nodup)
 (sub:∀a ∈ T0,a ∈ ad i\/H a=none) (kp:∀c u,H c=some u->c ∉ ad i->H' c=some u) (al:∀a ∈ T0,H' a≠none)
 (r0:YV K kd F B (G1 (Gw [] ad) (ad i) T0) H' v0 o0 T0):
 Rel K kd F B [] (Z1 ad i T0) (as.set i<|some o0) σ H'/\Grow (Gw [] ad) H (Gw []<|Z1 ad i T0) H':=by
 have v:Z1 ad i T0 i=T0:=zX;have q:∀k,k≠i->Z1 ad i T0 k=ad k:=λk h=>yb h;have r:∀k a,k≠i->a ∈ ad k->a ∉ ad i:=λk a h m z=>h<|R.inj k i a m z;have C:∀a,Gw [] (Z1 ad i T0) a->G1 (Gw [] ad) (ad i) T0 a:=λa z=>by
  rcases z with z|⟨k,z⟩
  . exact nomatch z
  . by_cases e:k=i
    . subst e;rw[v]at z;exact .inr z
    . rw[q k e]at z;exact .inl ⟨.inr ⟨k,z⟩,r k a e z⟩
 have A:=λk a h m z=>(sub a z).elim (r k a h m) λy=>(R.gtr a<|.inr ⟨k,m⟩).1 y;have g:Grow _ H _ H':=⟨λb o h n=>kp b o h λz=>n<|.inr ⟨i,z⟩,λb z=>(C b z).elim (λy=>.inl y.1) λy=>(sub b y).elim (λx=>.inl<|.inr ⟨i,x⟩) .inr⟩;have D:∀a,H a≠none->a ∉ ad i->H' a≠none:=λa h n=>by
  cases e:H a with
  |none=>exact absurd e h
  |some u=>rw[kp a u e n];simp
 have d:∀a,a ∈ ad i->Gw [] ad a:=λa z=>.inr ⟨i,z⟩;refine⟨⟨by rw[zzU];exact R.len,λk I=>?_,λk=>?_,λk l a j p=>?_,zyJ,(λ_ _ _ z=>nomatch z),λa z=>D a (R.ftr a z) λy=>(R.gtr a<|d a y).2 z,λa z=>?_,λa z=>?_,λk s e=>?_⟩,g⟩
 . rw[zzU]at I;rw[q k<|q0x hi I];exact R.out k I
 . by_cases e:k=i
   . subst e;rw[v];exact nd
   . rw[q k e];exact R.nd k
 . by_cases e:k=i
   . subst e;rw[v]at j
     by_cases E:l=k
     . exact E.symm
     . rw[q l E]at p;exact absurd j<|A l a E p
   . rw[q k e]at j
     by_cases t:l=i
     . subst t;rw[v]at p;exact absurd p<|A k a e j
     . rw[q l t]at p;exact R.inj k l a j p
 . obtain⟨j,p,G⟩:=R.btr a z;refine⟨D a j λy=>G<|d a y,p,λy=>(C a y).elim (λx=>G x.1) λx=>(sub a x).elim (λw=>G<|d a w) j⟩
 . rcases C a z with⟨y,n⟩|y
   . exact⟨D a (R.gtr a y).1 n,(R.gtr a y).2⟩
   . exact⟨al a y,(sub a y).elim (λw=>(R.gtr a<|d a w).2) λw f=>R.ftr a f w⟩
 . by_cases t:k=i
   . subst t;rw[zyK hi]at e;cases e;rw[v];exact⟨v0,s0,YV.lv (λJ a z=>z.imp id<|C a) r0⟩
   . rw[zzY λz=>t z.symm]at e;rw[q k t];exact(R.sl k s e).grow g λa m u h=>kp a u h<|r k a t m
end
def Ab(K:zzA)(kd:KD)(g:List wK->O->Option O):Sp:=λvs H Q _=>∃(F B G:Addr->Prop) (T:List Addr) (ws:List V) (v:V) (xs:List wK) (o r:O),vs=ws++[v]/\(∀a,F a->H a≠none)/\(∀a,B a->H a≠none/\¬F a/\¬G a)/\(∀a,G a->H a≠none/\¬F a)/\
 T.Nodup/\(∀a ∈ T,G a)/\RpI K kd F B G H ws xs/\YV K kd F B G H v o T/\g xs o=some r/\
 ∀(H':Hp) (T':List Addr),(∀c u,H c=some u->c ∉ T->H' c=some u)->T'.Nodup->(∀a ∈ T',a ∈ T\/H a=none)->(∀a ∈ T',H' a≠none)->YV K kd F B (G1 G T T') H' v r T'->Q .non H'
noncomputable def Bk(i:Nat):List RV->Option (List wK)
 | []=>none
 |r::rs=>match r with
  | .bo j=>if j=i/\rs.isEmpty=true then some []else none
  | .ow (.lf st d)=>(Bk i rs).bind λxs=>some ((st,d)::xs)
  | .ow (.nd _ _)=>none
theorem BE{K ad}{i:Nat}:∀{rs:List RV}{vs:List V}{xs:List wK},RVs K kd F B ad σ H vs rs->Bk i rs=some xs->∃ws v,vs=ws++[v]/\RpI K kd F B (Gw [] ad) H ws xs/\σ[i]? = some (some v)
 | [],_,_,_,e=>by cases e
 |r::rs,_,xs,h,e=>by
  cases h with
  |cons hv hr=>
   rename_i v vs;cases r with
   |bo j=>
    have e:=e;obtain⟨⟨e1,e2⟩,e3⟩:=zv e;cases e3;rw[List.isEmpty_iff]at e2;subst e1 e2;cases hr;exact⟨[],v,rfl,.nil,hv.2⟩
   |ow o=>
    cases o with
    |lf st d=>
     obtain⟨ys,e1,e⟩:=bS_<|e;cases e;obtain⟨ws,w,rfl,h1,h2⟩:=BE hr e1;have hv:=hv;cases hv with
     |lf rp=>exact⟨v::ws,w,rfl,.cons rp h1,h2⟩
    |nd k os=>cases e
def Wx(i:Nat)(fr:AF)(g:List wK->O->Option O):SF:=λas=>(fr as).bind λp=>(Bk i p.1).bind λxs=>(p.2[i]?).bind λa=>a.bind λo=>(g xs o).bind λr=>some<|.nx<|p.2.set i<|some r
section
variable{X:Cx}{kd:KD}{e:Expr}{es:List Expr}{fr:AF}{pos pos':Pos}
def BV{n i k:Nat}{f}(F:FnOk X.prog X.w X.K X.mg X.base vI k f fdt ps (Ab X.K kd g))(hr:Room k X.A)(hg:Gl X x)(hm:X.mg x=some (.ref f))(hk:W.keepIn X.K (.ref f)=true)
 (hb:Binds X.K fdt ps []) (hx:Zc vI X (λ_ _ _=>False)) (ha:AA X kd (e::es) fr) (hdb:(x==("__debug__":Str))=false) (he:starEach (e::es) X.env=(false,eval e X.env)::starEach es X.env) (hpl:(backTo pos<|starEach es X.env).any (·.1)=false)
 (hs:swapsWith (.Call (.Name x p) (e::es) [] pos) none pos'.line X.env=pure false):
 AP X kd n (.Expr (.Call (.Name x p) (e::es) [] pos) pos') (Wx i fr g):=by
 with_unfolding_all exact(xR (U9 (Om F hr hg hm hk hb .nil hx ha hdb he hpl) hs) λD σ H h=>by
  obtain⟨F,B,I,as,o,R,e,q⟩:=h;obtain⟨⟨J,d⟩,L,M⟩:=bS_<|e;obtain⟨N,P,Q⟩:=bS_ M;obtain⟨a,z,S⟩:=bS_ Q;obtain⟨T,U,V⟩:=bS_ S;obtain⟨r,j,Y⟩:=bS_ V;subst U;have l:=zzZ Y;refine(⟨F,B,I,as,J,d,R,L,λvs c Z b s g1=>?_⟩);obtain⟨C,v,rfl,t,E⟩:=BE s P;obtain⟨w0,G,u⟩:=b.sl i _ z;rw[E]at G;cases G;rw[zyE];refine⟨F,B,Gw [] c,c i,C,v,N,T,r,rfl,b.ftr,b.btr,b.gtr,b.nd i,λa m=>.inr ⟨i,m⟩,t,u,j,λH' T' kp nd y al r0=>?_⟩;obtain⟨R3,g3⟩:=b.chg1 (zzG.mp z).1 E nd y kp al r0;subst l;exact q σ _ _ (λ_ _=>rfl) R3<|g1.trans g3)
def JO{i k:Nat}(F:FnOk X.prog X.w X.K X.mg X.base vI k f fdt ps (Ab X.K kd g))(hr:Room k X.A)(hg:Gl X x)(hm:X.mg x=some (.ref f))(hk:W.keepIn X.K (.ref f)=true)
 (hb:Binds X.K fdt ps []) (hx:Zc vI X (λ_ _ _=>False)) (ha:AA X kd (e::es) fr) (hdb:(x==("__debug__":Str))=false) (he:starEach (e::es) X.env=(false,eval e X.env)::starEach es X.env) (hpl:(backTo pos<|starEach es X.env).any (·.1)=false)
 (hs:swapsWith (.Call (.Name x p) (e::es) [] pos) none pos'.line X.env=pure false):
 B2 X kd (.Expr (.Call (.Name x p) (e::es) [] pos) pos') (Wx i fr g):=by
 have h:=BV (n:=0) (i:=i) F hr hg hm hk hb hx ha hdb he hpl hs
 with_unfolding_all exact(xR h λD σ H h=>by
  obtain⟨F,B,ad,as,o,R,e,q⟩:=h;refine⟨F,B,ad,as,o,R,e, ?_⟩;cases o with
  |nx as'=>exact λσ' ad' H' _ R' g'=>q σ' ad' H' R' g'
  |bk as'=>exact λσ' ad' H' _ R' g'=>q σ' ad' H' R' g'
  |ct as'=>exact λσ' ad' H' _ R' g'=>q σ' ad' H' R' g'
  |rt r=>
   obtain⟨⟨rs,as1⟩,h1,e1⟩:=bS_<|e;obtain⟨xs,h2,e2⟩:=bS_ e1;obtain⟨a,ka,e3⟩:=bS_ e2;obtain⟨o0,qa,e4⟩:=bS_ e3;obtain⟨r,hgr,e5⟩:=bS_ e4;cases e5)
end
def br(n:Nat)(K:zzA)(kd:KD)(f:SF):TS:=λD σ H=>∃F B ad as as',Rel K kd F B [] ad as σ H/\f as=some (.nx as')/\∀σ' ad' H',(∀i,i<n->σ'[i]? = σ[i]?)->Rel K kd F B [] ad' as' σ' H'->Grow (Gw [] ad) H (Gw [] ad') H'->D.nx σ' H'/\D.rt .non H'
@[irreducible] def fJ(X:Cx)(kd:KD)(n:Nat)(st:List Stmt)(f:SF):Prop:=M_ X st<|br n X.K kd f
section
variable{X:Cx}{kd:KD}{n:Nat}{c:Expr}{st:Stmt}{rest:List Stmt}{ta:TF}{f g:SF}{pos pos':Pos}
def O3(hc:AT X kd c ta)(ha:AP X kd n st f)(hb:rn X kd n rest g):fJ X kd n (.If c [st,.Return none pos'] [] pos::rest) (yR ta f g):=by
 with_unfolding_all exact(YW (XC (An hc (XC ha<|UX uD) Ek) hb) λD σ H h=>by
  obtain⟨F,B,r,as,s,R,e,q⟩:=h;obtain⟨⟨p,a⟩,t,e⟩:=bS_<|e;refine⟨F,B,r,as,p,a,R,t,λd u m o=>?_⟩;cases p with
  |true=>exact⟨F,B,d,a,_,m,e,λi b j k R2 l=>(q i b j k R2<|o.trans l).2⟩
  |false=>exact⟨F,B,d,a,_,m,e,λi b j k R2 l=>(q i b j k R2<|o.trans l).1⟩)
end
noncomputable def Uz(n:Nat)(xs:List wK)(o:O):AS:=(xs.map λx=>some<|O.lf x.1 x.2)++some o::List.replicate (n-(xs.length+1)) none
def gL(n m:Nat)(c:SF)(xs:List wK)(o:O):Option O:=if xs.length+1=m then(c<|Uz n xs o).bind λout=>match out with
 | .nx as=>(as[xs.length]?).bind id
 |_=>none
 else none
def o_(k:Nat)(T:List Addr):Ad:=λi=>if i=k then T else[]
def Pr{k:Nat}:Gw [] (o_ k T) a ↔ a ∈ T:=by
 constructor
 . rintro(z|⟨i,z⟩)
   . exact nomatch z
   . unfold o_ at z
     by_cases e:i=k
     . rw[if_pos e]at z;exact z
     . rw[if_neg e]at z;exact nomatch z
 . intro z;exact .inr ⟨k,by unfold o_;rw[if_pos rfl];exact z⟩
theorem GZ{K}:∀{vs:List V}{xs:List wK},RpI K kd F B G H vs xs->vs.length=xs.length
 |_,_,.nil=>rfl
 |_,_,.cons _ h=>congrArg Nat.succ<|GZ h
theorem Hx{K}:∀{vs:List V}{xs:List wK}{i:Nat}{x:wK},RpI K kd F B G H vs xs->xs[i]? = some x->∃v,vs[i]? = some v/\Rp K kd (Lv F B G x.1) H v x.2
 |_,_,i,x,.nil,e=>by cases e
 |_,_,0,x,.cons r h,e=>by cases e;exact⟨_,rfl,r⟩
 |_,_,i+1,x,.cons r h,e=>Hx (i:=i) h e
def SE{K}(hN:xs.length+1<=N.length)(ht:∀a,F a->H a≠none)(hB:∀a,B a->H a≠none/\¬F a/\¬G a)(hG:∀a,G a->H a≠none/\¬F a)(nd:T.Nodup)(hT:∀a ∈ T,G a)
 (rpi:RpI K kd F B G H ws xs) (r0:YV K kd F B G H v o T):Rel K kd F (λa=>B a\/(G a/\a ∉ T)) [] (o_ xs.length T) (Uz N.length xs o) (L2.start N<|ws++[v]) H:=by
 have d:=GZ rpi;have k:∀c a,Lv F (λa=>B a\/(G a/\a ∉ T)) (Gw []<|o_ xs.length T) c a->Lv F B G c a:=λc a z=>by
  rcases z with(z|z|z)|z
  . exact .inl<|.inl z
  . exact .inl<|.inr z
  . exact .inr z.1
  . exact .inr<|hT a<|Pr.mp z
 have b:∀i,i≠xs.length->o_ xs.length T i=[]:=λi h=>if_neg h;have f:o_ xs.length T xs.length=T:=if_pos rfl;have l:(Uz N.length xs o).length=N.length:=by unfold Uz;simp;omega
 have c:L2.start N (ws++[v])=ws.map some++some v::List.replicate (N.length-(xs.length+1)) none:=by
  unfold L2.start;simp[d]
 refine⟨by rw[l,c];simp[d];omega,λi t=>b i (by omega),λi=>?_,λi j a x y=>?_,zyJ,(λ_ _ _ z=>nomatch z),ht,λa z=>?_,λa z=>hG a<|hT a<|Pr.mp z,λi s e=>?_⟩
 . by_cases h:i=xs.length
   . subst h;rw[f];exact nd
   . rw[b i h];exact zyJ
 . by_cases h:i=xs.length
   . by_cases g:j=xs.length
     . rw[h,g]
     . rw[b j g]at y;exact nomatch y
   . rw[b i h]at x;exact nomatch x
 . rcases z with z|z
   . exact⟨(hB a z).1,(hB a z).2.1,λy=>(hB a z).2.2<|hT a<|Pr.mp y⟩
   . exact⟨(hG a z.1).1,(hG a z.1).2,λy=>z.2<|Pr.mp y⟩
 . rw[c];unfold Uz at e
   by_cases h:i<xs.length
   . rw[zyP (by rw[zzB];exact h),zzI]at e;obtain⟨x,m,rfl⟩:=zzX.mp e;obtain⟨u,n,p⟩:=Hx rpi m;rw[b i (by omega),zyP (by rw[zzB,d];exact h),zzI,n];exact⟨u,rfl,.lf<|p.less<|k x.1⟩
   . rw[zyR (by rw[zzB];exact q0O d h),zzB]at e;rw[zyR (by rw[zzB,d];exact q0O d h),zzB,d]
     by_cases g:i=xs.length
     . subst g;rw[Nat.sub_self]at e ⊢;cases e;rw[f];exact⟨v,rfl,YV.lv k r0⟩
     . rw[b i g];obtain⟨j,q⟩:∃j,i-xs.length=j+1:=⟨i-xs.length-1,by omega⟩;rw[q]at e;have e:=e;have r:=(List.mem_replicate.mp<|zyA e).2;subst r;rfl
section
variable{P:Program}{w:World}{K:zzA}{mg:Str->Option Value}{base:Heap}
def qh{kd st}{k:Nat}(Fn:Fun K x qual st f fd)(S:FnScope N ps (zd st))(hN:ps.length<=N.length)
 (hb:∀(cdv:Value) (A:Around) (outer:List Env) (s:Shared) (H:Hp) (E:XK),Room k (A.deeper<|envOfC qual (zd st) s.heap.objs.size f cdv)->fJ (LM vI P w K mg base N qual (zd st) f cdv A outer s H E).nox kd ps.length (Zo st) c):
 FnOk P w K mg base vI (k+1) f fd ps (Ab K kd<|gL N.length ps.length c):=by
 with_unfolding_all (
 refine Fn.ok S (λX H Q E h=>?_) λy A j s H X Q E Y h=>⟨_,hb y A j s H E Y, ?_⟩
 . obtain⟨F,B,G,T,I,v,d,o,r,rfl,J,L,M,nd,O,i,U,e,q⟩:=h;unfold gL at e
   by_cases p:d.length+1=ps.length
   . rw[zzJ,GZ i];exact p
   . rw[if_neg p]at e;cases e
 . obtain⟨F,B,G,T,I,v,d,o,r,rfl,J,L,M,nd,O,i,U,e,q⟩:=h;unfold gL at e
   by_cases p:d.length+1=ps.length
   . rw[if_pos p]at e;obtain⟨C,Z,V⟩:=bS_ e;cases C with
     |nx as=>
      obtain⟨a,k0,e3⟩:=bS_ V;have e4:=e3;subst e4;refine⟨F,_,_,Uz N.length d o,as,SE (q0Q p hN) J L M nd O i U,Z,λσ' b H' sp R g=>?_⟩;obtain⟨u0,W,t0⟩:=R.sl d.length _ k0;rw[sp d.length<|by omega]at W;have sv:(L2.start N<|I++[v])[d.length]? = some (some v):=by
       have wl:=GZ i;unfold L2.start;rw[<-wl];simp
      cases(sv.symm.trans W);have l:∀a,a ∈ b d.length->Gw [] b a:=λa z=>.inr ⟨_,z⟩;have lv:∀D a,Lv F B (G1 G T _) D a->Lv F (λa=>B a\/_) _ D a:=λD a z=>by
       rcases z with(z|z)|z|z
       . exact .inl<|.inl z
       . exact .inl<|.inr<|.inl z
       . exact .inl<|.inr<|.inr z
       . exact .inr<|l a z
      have t:=q H' _ (λc u h n=>g.keep c u h λz=>n<|Pr.mp z) (R.nd _) (λa m=>(g.own a<|l a m).imp Pr.mp id) (λa m=>(R.gtr a<|l a m).1)<|YV.lv lv t0;exact⟨t,t⟩
     |_=>cases V
   . rw[if_neg p]at e;cases e)
end
section
variable{X:Cx}{kd:KD}{n:Nat}
def kz(z)(i:Nat)(hn:n<=i)(hN:X.N.Nodup)(he:AE X kd e fa)(hi:X.N[i]? = some x:=by rfl)(hx:Loc X.env.scope x:=by first|exact Or.inl rfl|exact Or.inr rfl)(hs:swapsWith e (some<|.Name x pos') pos.line X.env=pure false:=by rfl)(hf:X.fn x=true\/X.env.scope.names.lookup x=some .local:=by first|exact Or.inl rfl|exact Or.inr rfl):
 AP X kd n (.Assign [.Name x pos'] e pos) (zp z i fa):=qC hn hN hi hx he hs hf
end
section
variable{P:Program}{w:World}{K:zzA}{mg:Str->Option Value}{base:Heap}{kd:KD}
def J1{k:Nat}:FnOk P w K mg base vI k f fd ps (Ab K kd λ_ _=>none):=
 ⟨λc H Q E h=>(by obtain⟨_,_,_,_,_,_,_,_,_,_,_,_,_,_,_,_,_,e,_⟩:=h;cases e),λA a s H b d c Q E _ _ _ _ h=>(by obtain⟨_,_,_,_,_,_,_,_,_,_,_,_,_,_,_,_,_,e,_⟩:=h;cases e)⟩
end
noncomputable def BN(f:EF):EF:=λas=>(f as).bind λp=>some (p.1.frz,p.2)
def kr(h:AE X kd e fa):AE X kd e (BN fa):=by with_unfolding_all exact(yo h λσ H Q q=>by
 obtain⟨F,B,ad,as,r,as',R,e,k⟩:=q;obtain⟨⟨p,as1⟩,h1,e⟩:=bS_<|e;cases e;exact⟨F,B,ad,as,p,as1,R,h1,λv T' ad' H' R' rv g=>k v [] ad' H' R'.drop (xo.drop R' rv)<|g.trans<|Grow.less Gw.drop⟩)
section
variable{X:Cx}{kd:KD}{P:Program}{w:World}{K:zzA}{a b e o:Expr}{es:List Expr}{fa fb fo:EF}{fr:AF}{fd_:DF}{pos p apos:Pos}{k n:Nat}
def w9(h1:sc.kind = .function:=by rfl)(h2:sc.isCoroutine=false:=by rfl)(h3:sc.isGenerator=false:=by rfl)(h4:N.Nodup:=by decide +kernel)(h5:N.take Ps.length=Ps:=by rfl)(h6:∀x ∈ Ps,sc.names.lookup x=some .local\/sc.names.lookup x=some .cell:=by decide +kernel)(h7:∀y ∈ sc.names,y.2 ≠ .free:=by decide +kernel):FnScope N Ps sc:=⟨h1,h2,h3,h4,h5,h6,h7⟩
def bs{st}(F:Fun K x qual st f fd)
 (h:∀(kV doc pm:Value) (an:Option Addr) (cdv ct:Value) (us:List Value),us.length=ps.length->bindArgs (W.fnOf x qual (GQ st) (Zo st) (zd st) .none kV doc pm an cdv ct) ⟨us,[]⟩=pure (ps.zip us):=by first|exact λ_ _ _ _ _ _=>eZ λ_=>rfl|exact λ_ _ _ _ _ _=>dt λ_ _=>rfl|exact λ_ _ _ _ _ _=>e_ λ_ _ _=>rfl|exact λ_ _ _ _ _ _=>de λ_ _ _ _=>rfl|exact λ_ _ _ _ _ _=>cw λ_ _ _ _ _=>rfl|exact λ_ _ _ _ _ _=>l6_ λ_ _ _ _ _ _=>rfl):Binds K fd ps []:=F.binds h
def bc(ha:AE X kd a fa)(hr:AA X kd es fr)(hs:isStar a=false:=by rfl):AA X kd (a::es) (aC fa fr):=DR ha hr<|MA hs
def bd(ha:AE X kd a fa)(hr:AD X kd es fd_)(hs:isStar a=false:=by rfl):AD X kd (a::es) (dC fa fd_):=DM ha hr<|MA hs
def bn{op}(ha:AE X kd a fa)(hb:AE X kd b fb):AE X kd (.BinOp a op b pos) (f2 fa fb<|Yq op):=pe (qg op) ha hb
def tc{op}(hkd:Df P w K kd)(hr:Room k X.A)(ha:AE X kd a fa)(hb:AE X kd b fb)(h1:X.prog=P:=by rfl)(h2:X.w=w:=by rfl)(h3:X.K=K:=by rfl)(hm:behindInMarks op b=false:=by exact J3 _):AT X kd (.Compare a [op] [b] pos) (fT<|f2 fa fb<|zy op):=oE (PD (hkd _ h1 h2 h3) (G6 hr) op) (DI op) ha hb hm
def ec{op}(hkd:Df P w K kd)(hr:Room k X.A)(ha:AE X kd a fa)(hb:AE X kd b fb)(h1:X.prog=P:=by rfl)(h2:X.w=w:=by rfl)(h3:X.K=K:=by rfl)(hm:behindInMarks op b=false:=by exact J3 _):AE X kd (.Compare a [op] [b] pos) (f2 fa fb<|zy op):=oG (PD (hkd _ h1 h2 h3) (G6 hr) op) ha hb hm
def fd(hc:CF X.K kd cs f)(ha:AE X kd a fa)(hb:attributeBase a f X.env (eval a X.env)=eval a X.env:=by rfl):AE X kd (.Attribute a f pos) (f1 fa<|zT cs f):=rW hc ha hb
def ck(F:FnOk X.prog X.w X.K X.mg X.base vI k f fdt ps (Tf X.K kd gg))(hr:Room n X.A)(hm:X.mg x=some (.ref f))(hk:W.keepIn X.K (.ref f)=true)
 (hb:Binds X.K fdt ps []) (ha:AA X kd (e::es) fr) (hn:k<=n:=by omega) (hg:Gl X x:=by rfl) (hdb:(x==("__debug__":Str))=false:=by decide) (he:starEach (e::es) X.env=(false,eval e X.env)::starEach es X.env:=by rfl) (hpl:(backTo pos<|starEach es X.env).any (·.1)=false:=by rfl):
 AE X kd (.Call (.Name x p) (e::es) [] pos) (zh fr gg):=OL F (hr.mono hn) hg hm hk hb Xw ha hdb he hpl
def bi{id}(hc:Xb X kd (.builtin id) gg)(hm:X.mg x=none)(hv:bootBuiltins x=some (.builtin id))(ha:AA X kd (e::es) fr)(hg:Gl X x:=by rfl)(hn:x≠"__name__":=by exact Bt.n _ rfl)(hdb:(x==("__debug__":Str))=false:=by decide)
 (he:starEach (e::es) X.env=(false,eval e X.env)::starEach es X.env:=by rfl) (hpl:(backTo pos<|starEach es X.env).any (·.1)=false:=by rfl):AE X kd (.Call (.Name x p) (e::es) [] pos) (fP fr gg):=pz hc hg hm hv ha hn hdb he hpl
def nh(hc:Xb X kd (.type T) gg)(hm:X.mg x=none)(hv:bootBuiltins x=some (.type T))(ha:AA X kd (e::es) fr)(hg:Gl X x:=by rfl)(hn:x≠"__name__":=by exact Bt.n _ rfl)(hdb:(x==("__debug__":Str))=false:=by decide)
 (he:starEach (e::es) X.env=(false,eval e X.env)::starEach es X.env:=by rfl) (hpl:(backTo pos<|starEach es X.env).any (·.1)=false:=by rfl):AE X kd (.Call (.Name x p) (e::es) [] pos) (fP fr gg):=o4 hc hg hm hv ha hn hdb he hpl
def mq(hC:kd.c c=C)(M:Mk X.K C f)(F:FnOk X.prog X.w X.K X.mg X.base vI k f fdt ps (p4 X.K kd c g))(hr:Room n X.A)(hm:X.mg x=some (.ref C))(hb:Binds X.K fdt ps [])
 (ha:AA X kd (e::es) fr) (hn:k+1<=n:=by omega) (hg:Gl X x:=by rfl) (hdb:(x==("__debug__":Str))=false:=by decide) (he:starEach (e::es) X.env=(false,eval e X.env)::starEach es X.env:=by rfl) (hpl:(backTo pos<|starEach es X.env).any (·.1)=false:=by rfl):
 AE X kd (.Call (.Name x p) (e::es) [] pos) (zh fr g):=Dz hC M F (hr.mono hn) hg hm hb Xw ha hdb he hpl
def sj(i:Nat){rest}(hN:X.N.Nodup)(he:AE X kd e fa)(h2:O0 X kd rest g)(hi:X.N[i]? = some x:=by rfl)(hx:Loc X.env.scope x:=by first|exact Or.inl rfl|exact Or.inr rfl)(hs:swapsWith e (some<|.Name x pos') pos.line X.env=pure false:=by rfl)(hf:X.fn x=true\/X.env.scope.names.lookup x=some .local:=by first|exact Or.inl rfl|exact Or.inr rfl):
 O0 X kd (.Assign [.Name x pos'] e pos::rest) (ze (zp z i fa) g):=xG (Ak hN hi hx he hs hf) h2
def mt(hT:MT X.prog X.w X.K X.mg X.base kd m k tbl)(hr:Room n X.A)(ho:AE X kd o fo)(ha:AA X kd (e::es) fr)
 (ht:eval (.Call (.Attribute o m apos) (e::es) [] pos) X.env=(do
  let ov <-eval o X.env
  standAt apos.atName
  let(f,first) <-holding [ov] (getMethod ov m pl)
  callWith pos f first (backTo pos<|starEach (e::es) X.env) (backToKw pos<|keywordEach [] X.env)))
 (hn:k<=n:=by omega) (hst:starEach (e::es) X.env=(false,eval e X.env)::starEach es X.env:=by rfl) (hpl:(backTo pos<|starEach es X.env).any (·.1)=false:=by rfl):
 AE X kd (.Call (.Attribute o m apos) (e::es) [] pos) (Ye tbl m fo fr):=pH hT (hr.mono hn) Xw ho ha hst hpl ht
end
section
variable{K:zzA}{kd:KD}{F B:Addr->Prop}{ad:Ad}{as:AS}{σ:St}{H:Hp}{i:Nat}{c f1 f2:Str}{st:Bool}{w:D}{ts:List O}
def Rel.mks(R:Rel K kd F B [] ad as σ H)(k:as[i]? = some (some<|.nd (.ob c [f1,f2]) [.lf st w,.nd .ls ts])):∃a dx l v1 vs fp,σ[i]? = some (some<|.ref a)/\H a=some (.ins (kd.c c) dx [(f1,v1),(f2,.ref l)])/\Rp K kd (Lv F B (Gw [] ad) st) H v1 w/\H l=some (.lst vs)/\vR K kd F B (Gw [] ad) H vs ts fp/\ad i=a::l::fp:=by
 obtain⟨v,e,d⟩:=R.sl i _ k;generalize f:ad i=g at d;cases d with
 |ob h j t m=>
  have ec:=h.cl_eq;subst ec;cases m with
  |cons n o=>
   cases n with
   |lf p=>
    cases o with
    |cons q r=>
     cases r with
     |nil=>
      cases q with
      |ls s b=>exact⟨_,_,_,_,_,_,e,j,p,s,b,by simp⟩
end
def O7(i:Nat)(cs:List Str)(f:Str):EF:=λas=>match as[i]? with
 |some (some (.nd (.ob c [f1,f2]) [.lf st w,.nd .ls ts]))=>if c ∈ cs/\f=f1 then some (.ow<|.lf st w,as)else none
 |_=>none
def jv(i:Nat)(cs:List Str)(f:Str):EF:=λas=>match as[i]? with
 |some (some (.nd (.ob c [f1,f2]) [.lf st w,.nd .ls ts]))=>if c ∈ cs/\f=f2/\f1≠f2 then some (.ow<|.lf true<|.int ts.length,as)else none
 |_=>none
def m4(i j:Nat)(cs:List Str)(f:Str):SF:=λas=>match as[i]?,as[j]? with
 |some (some (.nd (.ob c [f1,f2]) [.lf st w,.nd .ls ts])),some (some (.lf s d))=>if c ∈ cs/\f=f2/\f1≠f2/\ts.length<sizeLine then some (.nx<|as.set i<|some<|.nd (.ob c [f1,f2]) [.lf st w,.nd .ls<|ts++[.lf s d]])else none
 |_,_=>none
def se{i:Nat}{cs f as x}(e:O7 i cs f as=some x):∃c f2 st w ts,as[i]? = some (some<|.nd (.ob c [f,f2]) [.lf st w,.nd .ls ts])/\c ∈ cs/\x=(.ow<|.lf st w,as):=by
 unfold O7 at e
 split at e
 . rename_i c f1 f2 g w h k;obtain⟨⟨a,b⟩,d⟩:=zv e;subst b;cases d;exact⟨_,_,_,_,_,k,a,rfl⟩
 . cases e
def Dm{i:Nat}{cs f as x}(e:jv i cs f as=some x):∃c f1 st w ts,as[i]? = some (some<|.nd (.ob c [f1,f]) [.lf st w,.nd .ls ts])/\c ∈ cs/\f1≠f/\x=(.ow<|.lf true<|.int ts.length,as):=by
 unfold jv at e
 split at e
 . rename_i c f1 f2 h w j k;obtain⟨⟨a,b,d⟩,g⟩:=zv e;subst b;cases g;exact⟨_,_,_,_,_,k,a,d,rfl⟩
 . cases e
def DG{i j:Nat}{cs f as x}(e:m4 i j cs f as=some x):∃c f1 st w ts s d,as[i]? = some (some<|.nd (.ob c [f1,f]) [.lf st w,.nd .ls ts])/\as[j]? = some (some<|.lf s d)/\c ∈ cs/\f1≠f/\ts.length<sizeLine/\x = .nx (as.set i<|some<|.nd (.ob c [f1,f]) [.lf st w,.nd .ls<|ts++[.lf s d]]):=by
 unfold m4 at e
 split at e
 . rename_i c f1 f2 n w o s d k a;obtain⟨⟨b,g,h,l⟩,m⟩:=zv e;subst g;cases m;exact⟨_,_,_,_,_,_,_,k,a,b,h,l,rfl⟩
 . cases e
section
variable{X:Cx}{kd:KD}{i j n:Nat}{cs:List Str}{f x y:Str}{p p' pos apos cpos:Pos}
def HS(hc:CF X.K kd cs f)(ho:PE X (.Name x p) (UC i))(hb:attributeBase (.Name x p) f X.env (eval (.Name x p) X.env)=eval (.Name x p) X.env):AE X kd (.Attribute (.Name x p) f pos) (O7 i cs f):=by
 with_unfolding_all exact(yo (Ec ho hb) λσ H Q h=>by
  obtain⟨F,B,g,as,r,j,R,e,q⟩:=h;obtain⟨c,f2,u,w,v,k,b,e⟩:=se e;cases e;obtain⟨a,m,l,d,y,z,n,o,s,A,C,t⟩:=R.mks k;exact⟨.ref a,n,a,_,m,_,d,rfl,o,(hc _ b).1,(hc _ b).2,by simp,q d [] g H R (.lf s) Grow.refl⟩)
def jy(hc:CF X.K kd cs f)(ho:PE X (.Name x p) (UC i))(hb:attributeBase (.Name x p) f X.env (eval (.Name x p) X.env)=eval (.Name x p) X.env)(hg:Gl X "len")(hm:X.mg "len"=none)
 (he:starEach [.Attribute (.Name x p) f pos] X.env=(false,eval (.Attribute (.Name x p) f pos) X.env)::starEach [] X.env) (hpl:(backTo cpos<|starEach [] X.env).any (·.1)=false):
 AE X kd (.Call (.Name "len" p') [.Attribute (.Name x p) f pos] [] cpos) (jv i cs f):=by
 with_unfolding_all exact(yo (Lp AV hg hm rfl (Qp (Ec ho hb) Lu he) (by decide) (by decide) he hpl) λσ H Q h=>by
  obtain⟨F,B,ad,as,r,as',R,e,q⟩:=h;obtain⟨c,f1,st,w,ts,k,hm,hne,e⟩:=Dm e;cases e;obtain⟨a,dx,l,v1,vs,fp,hs,hH,rp,hL,rl,hfp⟩:=R.mks k;refine⟨.ref a,hs,a,_,dx,_,.ref l,rfl,hH,(hc _ hm).1,(hc _ hm).2, ?_,.ref l,ts.length,rfl,.inl ⟨vs,.inl<|.inl hL,rl.length.symm⟩,q _ [] ad H R (.lf<|.int _) Grow.refl⟩;rw[List.lookup_cons,beq_eq_false_iff_ne.mpr<|Ne.symm hne];simp)
def kN(hc:CF X.K kd cs f)(ho:PE X (.Name x p) (UC i))(hy:PE X (.Name y p') (UC j))(hb:attributeBase (.Name x p) f X.env (eval (.Name x p) X.env)=eval (.Name x p) X.env)
 (hbase:attributeBase (.Attribute (.Name x p) f pos) "append" X.env (eval (.Attribute (.Name x p) f pos) X.env)=eval (.Attribute (.Name x p) f pos) X.env)
 (hfew:((backTo cpos<|starEach [.Name y p'] X.env).all (λx=>!x.1)&&(backToKw cpos<|keywordEach [] X.env).all (λx=>x.1.isSome)
  && decide (([.Name y p']:List Expr).length+([]:List Keyword).length+(if([]:List Keyword).isEmpty then 0 else 1)<30))=true)
 (hline:(apos.endLine==cpos.line)=true) (hst:starEach [.Name y p'] X.env=(false,eval (.Name y p') X.env)::starEach [] X.env) (hplain:(backTo cpos<|starEach [] X.env).any (·.1)=false) {spos}
 (hsw:swapsWith (.Call (.Attribute (.Attribute (.Name x p) f pos) "append" apos) [.Name y p'] [] cpos) none spos.line X.env=pure false):
 AP X kd n (.Expr (.Call (.Attribute (.Attribute (.Name x p) f pos) "append" apos) [.Name y p'] [] cpos) spos) (m4 i j cs f):=by
 with_unfolding_all exact(xR (U9 (sE PySem.F.plainAttrs_list PySem.F.slot_list_append PySem.F.type_list_append Ph (Ec ho hb) (Qp hy Lu hst) hbase hfew hline hst hplain) hsw) λD σ H h=>by
  obtain⟨F,B,g,as,o,R,e,q⟩:=h;obtain⟨c,f1,O,w,E,s,d,k,k',P,G,hz,e⟩:=DG e;subst e;obtain⟨a,Q,l,v1,t,fp,S,T,rp,U,V,r⟩:=R.mks k;obtain⟨v,hj,A⟩:=R.sl j _ k';have hi:=(zzG.mp k).1;generalize hfj:g j=fj at A;cases A with
  |lf I=>
   have nd:=R.nd i;rw[r]at nd;have J:a≠l:=λe=>(zzW.mp nd).1 (by rw[e];exact zzF);have L:=(zzW.mp (zzW.mp nd).2).1;have W:l ∈ g i:=by rw[r];exact zzD _ zzF
   have M:Grow _ H (G1 (Gw [] g) (g i)<|g i) (upd H l<|.lst<|t++[v]):=⟨λb u h n=>by rw[zH λe=>n<|by subst e;exact .inr ⟨i,W⟩];exact h,λb z=>.inl<|z.elim (λy=>y.1) λy=>.inr ⟨i,y⟩⟩;obtain⟨R2,g2⟩:=R.chg1 (H':=upd H l<|.lst _) hi S (R.nd i) (λa m=>.inl m) (λb u h n=>by rw[zH λe=>n<|by subst e;exact W];exact h) (λb m=>by
    by_cases e:b=l
    . subst e;rw[ye];simp
    . rw[zH e];exact(R.gtr b<|.inr ⟨i,m⟩).1) (by
    have r2:=FW (Rp.grow M I) E<|vR.grow M (λb m u h=>by rw[zH λe=>L<|by subst e;exact m];exact h) V;have Y:=RoL.cons (Ro.lf<|Rp.grow M rp)<|RoL.cons (Ro.ls ye r2) .nil;rw[zyE,List.nil_append]at Y;have Z:=Ro.ob (Rp.cl c) (show upd H l _ a=some (.ins (kd.c c) Q<|[f1,f].zip [v1,.ref l]) by rw[zH J];exact T) rfl Y;rw[r];rw[r]at Z;exact Z)
   refine⟨.ref a,S,a,_,Q,_,.ref l,rfl,T,(hc _ P).1,(hc _ P).2, ?_,.inl ⟨rfl,t,.inl<|.inl U⟩,v,hj,l,t,v,rfl,rfl,U,by rw[V.length];exact hz,q σ _ _ (λ_ _=>rfl) R2 g2⟩;rw[List.lookup_cons,beq_eq_false_iff_ne.mpr<|Ne.symm G];simp)
end
noncomputable def nc(n0:List Str):Nat->D->Bool
 |0,_=>false
 |n+1,.tup ds=>ds.all (nc n0 n)
 |n+1,.ob _ ns ds=>decide (ns≠n0)&&ds.all (nc n0 n)
 |_+1,.lst _=>false
 |_+1,.dct _=>false
 |_+1,_=>true
section
variable{K:zzA}{kd:KD}{O:Addr->Prop}{H:Hp}{a l C dx:Addr}{f1 f2:Str}{v1 v2:V}{vs0:List V}
def mM(ha:H a=some (.ins C dx [(f1,v1),(f2,v2)]))(hl:H l=some (.lst vs0)){v d}(h:Rp K kd O H v d):∀n,nc [f1,f2] n d=true->Rp K kd (λz=>O z\/z=a\/z=l) H v d:=
 Rp.rec (motive_2:=λg f _=>∀n,f.all _=true->RpL K kd (λz=>O z\/z=a\/z=l) H g f) (motive_3:=λ_ _ _=>True)
  (λ_ _=>.non) (λb _ _=>.bl b) (λi _ _=>.int i) (λx _ _=>.str x)
  (λ{c g f} n h _ r m e=>by
   cases m with
   |zero=>cases e
   |succ m=>
    refine .tup (λz=>z.elim n λq=>?_) h<|r m e
    rcases q with q|q<;>subst q
    . rcases h with h|⟨o,h⟩<;>(rw[ha]at h;cases h)
    . rcases h with h|⟨o,h⟩<;>(rw[hl]at h;cases h))
  (λk p s t u _ r m e=>by
   cases m with
   |zero=>cases e
   |succ m=>exact .tupK k p s t u (r m e))
  (λ_ _ _ _ m e=>by cases m<;>cases e) (λ_ _ _ _ _ m e=>by cases m<;>cases e)
  (λ_ _ _ _ m e=>by cases m<;>cases e) (λ_ _ _ m e=>by cases m<;>cases e) (λc _ _=>.cl c)
  (λ{c w A j g f} n h y _ r m e=>by
   cases m with
   |zero=>cases e
   |succ m=>
    have e:(decide _&&f.all _)=true:=e;rw[zyC]at e;refine .ob (λz=>z.elim n λq=>?_) h y<|r m e.2
    rcases q with q|q<;>subst q
    . rw[ha]at h;injection h with h
      injection h with _ _ h
      have:=List.map_fst_zip (l₁:=j) (l₂:=g) (by omega);rw[<-h]at this;exact of_decide_eq_true e.1 this.symm
    . rw[hl]at h;cases h)
  (λ_ _=>.nil) (λ_ _ h r n e=>by
   rw[List.all_cons,zyC]at e;exact .cons (h n e.1)<|r n e.2) ⟨⟩ (λ_ _ _ _=>⟨⟩) h
end
theorem RpA.less{K kd F F' H}(g:∀a,F' a->F a):∀{vs:List V}{ds:List (Bool×D)},RpA K kd F H vs ds->RpA K kd F' H vs ds
 |_,_,.nil=>.nil
 |_,_,.cons h r=>.cons (h.less λz q=>⟨q.1,g z q.2⟩)<|RpA.less g r
def ej(n0:List Str):O->Bool
 | .lf _ d=>nc n0 60 d
 |_=>false
def rj(n0:List Str):O->Bool
 | .lf _ d=>nc n0 60 d
 | .nd .ls os=>os.all (ej n0)
 |_=>false
def G5:Option (Option O)->Option D
 |some (some (.nd (.ob c [f1,f2]) [.lf st w,.nd .ls ts]))=>if st=true/\ts.all O.isLf=true/\O.strs ts=true then some (.ob c [f1,f2] [w,.lst<|O.toDs ts])else none
 |_=>none
def dm:D->List Str
 | .ob _ ns _=>ns
 |_=>[]
def L1{s d}(e:G5 s=some d):∃c f1 f2 w ts,s=some (some<|.nd (.ob c [f1,f2]) [.lf true w,.nd .ls ts])/\ts.all O.isLf=true/\O.strs ts=true/\d = .ob c [f1,f2] [w,.lst<|O.toDs ts]:=by
 unfold G5 at e
 split at e
 . obtain⟨⟨a,b,f⟩,g⟩:=zv e;subst a;cases g;exact⟨_,_,_,_,_,rfl,b,f,rfl⟩
 . cases e
def Z0(i:Nat)(tbl:List (Str×Fn))(m:Str)(fr:AF):EF:=λas=>(G5 as[i]?).bind λd0=>(ef m d0).bind λc=>(Oi tbl c).bind λg=>(fr as).bind λq=>(G5 q.2[i]?).bind λd=>(Xl q.2 q.1).bind λx=>(g ((true,d)::x)).bind λo=>if rj (dm d) o=true then some (.ow o,q.2)else none
section
variable{K:zzA}{kd:KD}{F F' B G:Addr->Prop}{H:Hp}{T:List Addr}{n0:List Str}
def qZ(cv:∀v d,nc n0 60 d=true->Rp K kd (VA F' (· ∈ T)) H v d->∀st,Rp K kd (Lv F B G st) H v d){N v o fp}(e:rj n0 o=true)(h:Ro (λ_ v d=>Rp K kd (VA F' (· ∈ T)) H v d) N H v o fp):YV K kd F B G H v o fp:=by
 cases h with
 |lf r=>exact .lf (cv _ _ e r _)
 |ls a c=>
  refine .ls a ?_;have e:=e;clear a;exact RoL.ind (P:=λf b g=>b.all (ej n0)=true->vR K kd F B G H f b g) (λ_=>.nil) (λh _ i e=>by
   rw[List.all_cons,zyC]at e;cases h with
   |lf r=>exact .cons (.lf<|cv _ _ e.1 r _) (i e.2)
   |_=>cases e.1) c e
 |_=>cases e
end
section
variable{X:Cx}{kd:KD}{e:Expr}{es:List Expr}{fr:AF}{pos apos p:Pos}{m x:Str}{tbl:List (Str×Fn)}{k i:Nat}
def qt(hT:MT X.prog X.w X.K X.mg X.base kd m k tbl)(hr:Room k X.A){σ H Q t}(ht:∀σ H Q,rS X.K kd fr σ H Q->t σ H Q)(h:al X.K kd (Z0 i tbl m fr) σ H Q):DO X m (UC i) t σ H Q:=by
 obtain⟨F,B,ad,as,r,as',R,e,q⟩:=h;obtain⟨d0,h0,e⟩:=bS_<|e;obtain⟨c,p,e⟩:=bS_ e;obtain⟨g,h4,e⟩:=bS_ e;obtain⟨⟨rs,G⟩,h5,e⟩:=bS_ e;obtain⟨d,h6,e⟩:=bS_ e;obtain⟨ds,h7,e⟩:=bS_ e;obtain⟨o,h8,e⟩:=bS_ e;obtain⟨I,e⟩:=zv e;cases e;obtain⟨c0,f1,f2,w,ts,k0,_,_,e0⟩:=L1 h0;subst e0;obtain⟨a,dx,l,v1,vs0,fp,Z,hH,_,_,_,_⟩:=R.mks k0;have p:(if m ∈ [f1,f2]then none else some c0)=some c:=p
 by_cases u:m ∈ [f1,f2]
 . rw[if_pos u]at p;cases p
 rw[if_neg u]at p;cases p;obtain⟨k',f,fd,ps,J,cl,me,F1,b⟩:=hT _ _ h4;refine⟨.ref a,Z,a,_,dx,_,k',f,fd,ps,_,rfl,hH,cl,me, ?_,F1,hr.mono J,b,ht _ _ _ ⟨F,B,ad,as,rs,G,R,h5,λvs j H2 R2 L g2=>?_⟩⟩
 . have:List.lookup m ([f1,f2].zip [v1,V.ref l])=none:=(YC _ _ _).trans<|Rr u;exact this
 obtain⟨c1,g1,M,w1,ts1,k1,N,O,s⟩:=L1 h6;subst s;obtain⟨a',dx',D,v1',vs',fp',x,y,P,C,S,hfp'⟩:=R2.mks k1;rw[Z]at x;cases x;have off:∀z,(Lv F B _ true z/\z≠a/\z≠D)->Lv F B (Gw [] j) true z:=λz q=>q.1;refine⟨λz=>Lv F B _ true z/\z≠a/\z≠D,_,o,λz n=>R2.trk true z n.1,.cons ?_ ?_,h8,λv T H' u hT U W ro=>?_⟩
 . refine .ob (λz=>z.2.2.1 rfl) y rfl<|.cons (P.less λz q=>q.2.1)<|.cons (.lst (λz=>z.2.2.2 rfl) (.inl C) ?_) .nil;have:=Pw S N;rw[O]at this;exact this.less λz q=>q.2.1
 . exact(GP R2 L h7).less λz q=>q.1
 . obtain⟨R',g'⟩:=R2.news u hT U W;refine q v T j H' R' (qZ (F':=λz=>Lv F B _ true z/\z≠a/\z≠D) (λv d Y rp st=>?_) I ro)<|g2.trans g';refine(mM (U _ _ y) (U _ _ C) rp 60 Y).less λz n=>?_
   by_cases s:z=a
   . exact .inr<|.inl s
   by_cases E:z=D
   . exact .inr<|.inr E
   refine .inl ?_
   rcases n with(n|n)|n|n
   . exact .inl ⟨.inl<|.inl ⟨rfl,n.2⟩,s,E⟩
   . exact .inl ⟨.inl<|.inr n,s,E⟩
   . exact .inr n
   . exact .inl ⟨.inr<|.inr n,s,E⟩
def GM{pl}(hT:MT X.prog X.w X.K X.mg X.base kd m k tbl)(hr:Room k X.A)(hx:Zc vI X λ_ _ _=>False)(ho:PE X (.Name x p) (UC i))(ha:AA X kd (e::es) fr)
 (hst:starEach (e::es) X.env=(false,eval e X.env)::starEach es X.env) (hpl:(backTo pos<|starEach es X.env).any (·.1)=false)
 (ht:eval (.Call (.Attribute (.Name x p) m apos) (e::es) [] pos) X.env=(do
  let ov <-eval (.Name x p) X.env
  standAt apos.atName
  let(f,first) <-holding [ov] (getMethod ov m pl)
  callWith pos f first (backTo pos<|starEach (e::es) X.env) (backToKw pos<|keywordEach [] X.env))):
 AE X kd (.Call (.Attribute (.Name x p) m apos) (e::es) [] pos) (Z0 i tbl m fr):=by
 with_unfolding_all exact(yo (So ho hx ha hst hpl ht) λσ H Q h=>qt hT hr (λσ H Q z=>z) h)
end
noncomputable def Jk(i:Nat)(cs:List Str)(f:Str)(fe:EF):Cf:=λas=>(fe as).bind λp=>match p.1 with
 | .ow o=>match p.2[i]? with
  |some (some (.nd (.ob c ns) os))=>if c ∈ cs/\f ∉ ns/\ns.length<1000 then some (p.2.set i<|some<|.nd (.ob c<|ns++[f])<|os++[o])else none
  |_=>none
 |_=>none
def CO{i:Nat}{cs:List Str}{f}{r:RV}{as as':AS}(e:(match r with
 | .ow o=>match as[i]? with
  |some (some (.nd (.ob c ns) os))=>if c ∈ cs/\f ∉ ns/\ns.length<1000 then some (as.set i<|some<|.nd (.ob c<|ns++[f])<|os++[o])else none
  |_=>none
 |_=>none)=some as'):∃o c ns os,r = .ow o/\as[i]? = some (some<|.nd (.ob c ns) os)/\c ∈ cs/\f ∉ ns/\ns.length<1000/\as'=as.set i (some<|.nd (.ob c<|ns++[f])<|os++[o]):=by
 split at e
 . split at e
   . obtain⟨⟨a,b,d⟩,g⟩:=zv e;cases g;rename_i k;exact⟨_,_,_,_,rfl,k,a,b,d,rfl⟩
   . cases e
 . cases e
def AU{X:Cx}{kd e o}{fe:EF}{pos pos' cs n}{j:Nat}(hc:CF X.K kd cs n)(ho:PE X o (UC j))(he:AE X kd e fe)(hs:swapsWith e (some<|.Attribute o n pos') pos.line X.env=pure false):lq X kd (.Assign [.Attribute o n pos'] e pos) (Jk j cs n fe):=by
 with_unfolding_all exact(xR (IE ho he hs) λD σ H h=>by
  obtain⟨F,B,ad,as,as',R,e,q⟩:=h;obtain⟨⟨p,as1⟩,h1,e⟩:=bS_<|e;obtain⟨o0,c,ns,os,rfl,k1,hm,hf,hz,rfl⟩:=CO e;refine⟨F,B,ad,as,_,as1,R,h1,λv T1 ad1 H1 R1 rv1 g1=>?_⟩;obtain⟨v0,hs0,ro0⟩:=R1.sl j _ k1;refine⟨v0,hs0, ?_⟩;generalize hfp:ad1 j=fp1 at ro0;cases ro0 with
  |ob hC hH hl rl=>
   rename_i l dx C vs fp;have ec:=hC.cl_eq;subst ec;have hnd:=R1.nd j;rw[hfp]at hnd;have rl':vR X.K kd F B _ H1 _ _ _:=rl.append<|RoL.one rv1;refine⟨l,_,dx,_,rfl,hH,(hc _ hm).1,(hc _ hm).2,by rw[List.length_zip,hl,Nat.min_self,<-hl];exact hz, ?_⟩;rw[K6 hl hf];have dis:=λa m=>R1.dis j a (by rw[hfp];exact zzD _ m);obtain⟨R4,g4⟩:=R1.mut (n:=.nd (.ob c<|ns++[n]) _) (zzG.mp k1).1 hfp hs0 (fp':=fp++T1) (λa m=>by
    rw[zyE]at m;exact m) (by
    rw[zyE];exact zxE.mpr ⟨(zzW.mp hnd).2,R1.tnd,λa m b m' e=>dis a m<|by rw[e];exact m'⟩) (by rw[hH];simp) λH' G' hl' gr kp=>.ob (.cl c) hl' (by rw[zzJ,zzJ,hl];rfl)<|vR.grow gr kp rl'
   exact q _ _ R4<|g1.trans g4)
abbrev VF:=AS->Option (D×AS)
def bv(n:Nat)(K:zzA)(kd:KD)(f:VF):TS:=λD σ H=>∃F B ad as d as',Rel K kd F B [] ad as σ H/\f as=some (d,as')/\zC d=true/\∀σ' ad' H' v,(∀i,i<n->σ'[i]? = σ[i]?)->Rel K kd F B [] ad' as' σ' H'->Grow (Gw [] ad) H (Gw [] ad') H'->Rp K kd (λ_=>False) H' v d->D.rt v H'
@[irreducible] def j9(X:Cx)(kd:KD)(n:Nat)(st:List Stmt)(f:VF):Prop:=M_ X st<|bv n X.K kd f
noncomputable def eU:RV×AS->Option (D×AS)
 |(.ow (.lf _ d),as)=>some (d,as)
 |_=>none
def FU(fe:EF):VF:=λas=>(fe as).bind eU
noncomputable def Np(f:SF)(g:VF):VF:=λas=>(f as).bind λo=>match o with
 | .nx as1=>g as1
 |_=>none
section
variable{X:Cx}{kd:KD}{n:Nat}{e:Expr}{st:Stmt}{rest:List Stmt}{fe:EF}{f:SF}{g:VF}{pos:Pos}
def sy:AP X kd n st Di:=by with_unfolding_all exact(λa s σ H D I h=>by obtain⟨F,B,b,as,o,R,e,q⟩:=h;cases e)
def Ej(he:AE X kd e fe):j9 X kd n [.Return (some e) pos] (FU fe):=by with_unfolding_all exact(YW (UX<|AN he) λD σ H h=>by
 obtain⟨F,B,ad,as,d,as',R,e,hf,q⟩:=h;obtain⟨⟨p,as1⟩,h1,e⟩:=bS_<|e
 match p,e,h1 with
 | .ow (.lf st d0),e,h1=>
  cases e;refine⟨F,B,ad,as,_,_,R,h1,λv T' ad' H' R' rv g=>?_⟩;have rv:=rv;cases rv with
  |lf rp=>exact q σ ad' H' v (λ_ _=>rfl) R' g (rp.flat hf))
def YL(h1:AP X kd n st f)(h2:j9 X kd n rest g):j9 X kd n (st::rest) (Np f g):=by with_unfolding_all exact(YW (XC h1 h2) λD σ H h=>by
 obtain⟨F,B,l,as,d,a,R,e,m,q⟩:=h;obtain⟨o,p,e⟩:=bS_<|e;cases o with
 |nx b=>exact⟨F,B,l,as,_,R,p,λA c C r s t=>⟨F,B,c,b,d,a,s,e,m,λu j w v x R2 y z=>q u j w v (λi k=>(x i k).trans<|r i k) R2 (t.trans y) z⟩⟩
 |_=>cases e)
end
def sR(n m:Nat)(c:VF)(xs:List wK)(o:O):Option (D×O):=if xs.length+1=m then(c<|Yw n (o::xs.map Dg)).bind λz=>(z.2[0]?).bind λs=>s.bind λr=>if r.str=true/\zC z.1=true then some (z.1,r)else none else none
def spS(K:zzA)(kd:KD)(g:List wK->O->Option (D×O)):Sp:=λvs H Q _=>∃(F:Addr->Prop) (T:List Addr) (v:V) (ws:List V) (xs:List wK) (o:O) (d:D) (r:O),vs=v::ws/\(∀a,F a->H a≠none)/\T.Nodup/\(∀a ∈ T,H a≠none/\¬F a)/\RpI K kd F (λ_=>False) (· ∈ T) H ws xs/\YV K kd F (λ_=>False) (· ∈ T) H v o T/\g xs o=some (d,r)/\
 ∀(u:V) (H':Hp) (T':List Addr),(∀c u,H c=some u->c ∉ T->H' c=some u)->T'.Nodup->(∀a ∈ T',a ∈ T\/H a=none)->(∀a ∈ T',H' a≠none)->YV K kd F (λ_=>False) (· ∈ T') H' v r T'->Rp K kd (λ_=>False) H' u d->Q u H'
section
variable{P:Program}{w:World}{K:zzA}{mg:Str->Option Value}{base:Heap}
def Hv{kd x qual st f fd N ps}{k:Nat}{c}(Fn:Fun K x qual st f fd)(S:FnScope N ps (zd st))(hN:ps.length<=N.length)
 (hb:∀(cdv:Value) (A:Around) (outer:List Env) (s:Shared) (H:Hp) (E:XK),Room k (A.deeper<|envOfC qual (zd st) s.heap.objs.size f cdv)->j9 (LM vI P w K mg base N qual (zd st) f cdv A outer s H E).nox kd 1 (Zo st) c):
 FnOk P w K mg base vI (k+1) f fd ps (spS K kd<|sR N.length ps.length c):=by
 with_unfolding_all (
 refine Fn.ok S (λX H Q E h=>?_) λB A b s H X Q E Y h=>⟨_,hb B A b s H E Y, ?_⟩
 . obtain⟨F,T,v,C,t,o,d,r,rfl,L,M,O,j,U,e,q⟩:=h;obtain⟨V,_⟩:=ite_some'<|e;rw[zzT,j.length];exact V
 . obtain⟨F,T,v,C,t,o,d,r,rfl,L,M,O,j,U,e,q⟩:=h;obtain⟨V,Z⟩:=ite_some'<|e;obtain⟨⟨d0,D⟩,e1,z1⟩:=bS_ Z;obtain⟨G,k0,z2⟩:=bS_ z1;obtain⟨r0,e2,z3⟩:=bS_ z2;obtain⟨⟨hr0,I⟩,z4⟩:=zv z3;subst e2;cases z4;have J:vR K kd F (λ_=>False) (· ∈ T) H (v::C) (o::t.map Dg) T:=by
    have:=RoL.cons U<|JZ j
    rwa [zyE]at this
   have R0:=LU (N:=N) L M O (Ot t) (by rw[zzT,zzB];exact q0Q V hN) J;have W:∀a,Gw [] (λi=>if i=0 then T else[]) a->a ∈ T:=λa z=>z.elim (λy=>nomatch y) λ⟨i,y⟩=>by
    by_cases e:i=0
    . subst e;simpa using y
    . simp[e]at y
   refine⟨F,λ_=>False,_,Yw N.length _,d0,D,R0,e1,I,λσ' l H' u sp R g rp=>?_⟩;obtain⟨u0,G,t0⟩:=R.sl 0 _ k0;rw[sp 0<|by omega]at G;have sv:(L2.start N (v::C))[0]? = some (some v):=rfl;cases(sv.symm.trans G);have p:∀a,a ∈ l 0->Gw [] l a:=λa z=>.inr ⟨_,z⟩;exact q u H' (l 0) (λc u h n=>g.keep c u h λz=>n<|W c z) (R.nd _) (λa m=>(g.own a<|p a m).imp (W a) id) (λa m=>(R.gtr a<|p a m).1) (YV.lv (λst a z=>z.imp id<|p a) t0) rp)
end
def Ro.monoS{L L' N N' H}(hL:∀v d,L true v d->L' true v d)(hN:∀a,N a->N' a){v o fp}(s:o.str=true)(h:Ro L N H v o fp):Ro L' N' H v o fp:=
 Ro.rec (motive_2:=λg f b _=>O.strs f=true->RoL L' N' H g f b)
  (λ{i v d} h s=>by have e:=s;subst e;exact .lf<|hL _ _ h) (λh _ r s=>.ls h<|r s) (λh l _ r s=>.dc h l<|r s) (λc h l _ r s=>.ob (hL _ _ c) h l<|r s) (λn h _ r s=>.tp (hN _ n) h<|r s)
  (λ_=>.nil) (λ_ _ h r s=>.cons (h ((zyC _ _).mp s).1)<|r ((zyC _ _).mp s).2) h s
def NQ(i:Nat)(as:AS):List RV->Option (List wK)
 | []=>some []
 | .ow o::rs=>(NQ i as rs).bind λy=>some ((zC o.toD||o.str,o.toD)::y)
 | .bo j::rs=>(as[j]?).bind λs=>s.bind λo=>if j=i then none else(NQ i as rs).bind λy=>some ((false,o.toD)::y)
section
variable{K:zzA}{kd:KD}{F B:Addr->Prop}{ad:Ad}{as:AS}{σ:St}{H:Hp}{i:Nat}
def D6(R:Rel K kd F B [] ad as σ H){vs rs xs}(h:RVs K kd F B ad σ H vs rs)(e:NQ i as rs=some xs):RpI K kd (λz=>Lv F B (Gw [] ad) true z/\z ∉ ad i) (λ_=>False) (· ∈ ad i) H vs xs:=by
 induction h generalizing xs with
 |nil=>cases e;exact .nil
 |cons h t l=>
  rename_i v r E q;cases r with
  |ow o=>
   obtain⟨y,f,e⟩:=bS_<|e;cases e;refine .cons ?_<|l f;cases hf:zC o.toD with
   |true=>exact(G_ h).flat hf
   |false=>
    refine(Kg h).less λa z=>?_
    rcases z with(z|z)|z
    . rw[show o.str=true from z.1];exact z.2.1
    . exact z.elim
    . exact .inr (.inr ⟨i,z⟩)
  |bo j=>
   obtain⟨s,k,u⟩:=bS_<|e;obtain⟨o,x,c⟩:=bS_ u;subst x
   by_cases g:j=i
   . rw[if_pos g]at c;cases c
   rw[if_neg g]at c;obtain⟨y,f,A⟩:=bS_ c;cases A;refine .cons ?_<|l f;obtain⟨w,p,C⟩:=R.sl j _ k;rw[h.2]at p;cases p;have ob:∀z,Lv (λz=>Lv F B (Gw [] ad) true z/\z ∉ ad i) (λ_=>False) _ false z->z ∈ ad i:=λz b=>by
    rcases b with(b|b)|b
    . exact nomatch b.1
    . exact b.elim
    . exact b
   exact Ro.rp false (λD v d _ r=>(r).less λz b=>.inr<|.inr ⟨i,ob z b⟩) (λa n z=>n<|.inr<|.inr ⟨i,ob a z⟩) (λz=>Bool.noConfusion z) (λa m z=>g<|R.inj j i a m<|ob a z) C
end
noncomputable def ee(m:Str):Option (Option O)->Option Str
 |some (some (.nd (.ob c ns) _))=>if m ∈ ns then none else some c
 |_=>none
def Vx(i:Nat)(c0 m:Str)(g:List wK->O->Option (D×O))(fr:AF):EF:=λas=>(ee m as[i]?).bind λc=>if c=c0 then(fr as).bind λq=>(NQ i q.2 q.1).bind λxs=>(q.2[i]?).bind λs=>s.bind λo=>(g xs o).bind λz=>if zC z.1=true/\z.2.str=true then some (.ow<|.lf true z.1,q.2.set i<|some z.2)else none else none
def MS(P:Program)(w:World)(K:zzA)(mg:Str->Option Value)(base:Heap)(kd:KD)(m:Str)(k:Nat)(c:Str)(g:List wK->O->Option (D×O)):Prop:=
 ∃k' f fd ps,k'<=k/\Cls K (kd.c c)/\Meth K (kd.c c) m f/\FnOk P w K mg base vI k' f fd ps (spS K kd g)/\Binds K fd ps []
section
variable{X:Cx}{kd:KD}{e:Expr}{es:List Expr}{fr:AF}{pos apos p:Pos}{m x c0:Str}{g:List wK->O->Option (D×O)}{k i:Nat}
def pw(hT:MS X.prog X.w X.K X.mg X.base kd m k c0 g)(hr:Room k X.A){σ H Q t}(ht:∀σ H Q,rS X.K kd fr σ H Q->t σ H Q)(h:al X.K kd (Vx i c0 m g fr) σ H Q):DO X m (UC i) t σ H Q:=by
 obtain⟨F,B,ad,as,r,as',R,e,q⟩:=h;obtain⟨c,h0,e⟩:=bS_<|e;obtain⟨ec,z0⟩:=ite_some' e;subst ec;obtain⟨⟨rs,as2⟩,h5,z1⟩:=bS_ z0;obtain⟨xs,h6,z2⟩:=bS_ z1;obtain⟨s,k2,z3⟩:=bS_ z2;obtain⟨o,e1,z4⟩:=bS_ z3;subst e1;obtain⟨⟨d,r⟩,h7,z5⟩:=bS_ z4;obtain⟨⟨hf,hst⟩,z6⟩:=zv z5;cases z6;obtain⟨ns,os,k0,hn⟩:∃ns os,as[i]? = some (some _)/\m ∉ ns:=by
  unfold ee at h0
  split at h0
  . rename_i c' ns' os' k0
    by_cases hm:m ∈ ns'
    . rw[if_pos hm]at h0;cases h0
    . rw[if_neg hm]at h0;cases h0;exact⟨_,_,k0,hm⟩
  . cases h0
 obtain⟨v,hs,ro⟩:=R.sl i _ k0;generalize hfp:ad i=fp0 at ro;cases ro with
 |ob hC hH hl rl=>
  rename_i a dx C vs0 fp;have ec:=hC.cl_eq;subst ec;obtain⟨k',f,fd,ps,hk',cl,me,F1,b⟩:=hT;refine⟨.ref a,hs,a,_,dx,_,k',f,fd,ps,_,rfl,hH,cl,me,(YC _ _ _).trans<|Rr hn,F1,hr.mono hk',b,ht _ _ _ ⟨F,B,ad,as,rs,as2,R,h5,λvs ad2 H2 R2 rv2 g2=>?_⟩⟩;obtain⟨v',hv',ro'⟩:=R2.sl i _ k2;rw[hs]at hv';cases hv';have hi:=(zzG.mp k2).1;refine⟨λz=>Lv F B _ true z/\z ∉ ad2 i,ad2 i,.ref a,vs,xs,o,d,r,rfl,λz hz=>R2.trk true z hz.1,R2.nd i,λz mz=>⟨(R2.gtr z<|.inr ⟨i,mz⟩).1,λy=>y.2 mz⟩,D6 R2 rv2 h6,YV.lv (λst z hz=>?_) ro',h7,λu H' T' kp nd sub al ro3 rp=>?_⟩
  . rcases hz with(hz|hz)|hz
    . rw[hz.1];exact hz.2.1
    . exact hz.elim
    . exact .inr<|.inr ⟨i,hz⟩
  . have le:∀z,Lv F B (G1 _ (ad2 i) T') true z->Lv (λz=>Lv F B (Gw [] ad2) true z/\z ∉ ad2 i) (λ_=>False) (· ∈ T') true z:=λz hz=>by
     rcases hz with(hz|hz)|hz|hz
     . exact .inl<|.inl ⟨rfl,.inl<|.inl hz,λy=>(R2.gtr z<|.inr ⟨i,y⟩).2 hz.2⟩
     . exact .inl<|.inl ⟨rfl,.inl<|.inr hz,λy=>(R2.btr z hz).2.2<|.inr ⟨i,y⟩⟩
     . exact .inl<|.inl ⟨rfl,.inr hz.1,hz.2⟩
     . exact .inr hz
    have r0:YV X.K kd F B _ H' (.ref a) r T':=Ro.monoS (λv d h=>Rp.less le h) (λz n y=>n<|le z y) hst ro3;obtain⟨R3,g3⟩:=R2.chg1 hi hs nd sub kp al r0;exact q u [] _ H' R3 (.lf<|rp.flat hf)<|g2.trans g3
def M6{pl}(hT:MS X.prog X.w X.K X.mg X.base kd m k c0 g)(hr:Room k X.A)(hx:Zc vI X λ_ _ _=>False)(ho:PE X (.Name x p) (UC i))(ha:AA X kd (e::es) fr)
 (hst:starEach (e::es) X.env=(false,eval e X.env)::starEach es X.env) (hpl:(backTo pos<|starEach es X.env).any (·.1)=false)
 (ht:eval (.Call (.Attribute (.Name x p) m apos) (e::es) [] pos) X.env=(do
  let ov <-eval (.Name x p) X.env
  standAt apos.atName
  let(f,first) <-holding [ov] (getMethod ov m pl)
  callWith pos f first (backTo pos<|starEach (e::es) X.env) (backToKw pos<|keywordEach [] X.env))):
 AE X kd (.Call (.Attribute (.Name x p) m apos) (e::es) [] pos) (Vx i c0 m g fr):=by
 with_unfolding_all exact(yo (So ho hx ha hst hpl ht) λσ H Q h=>pw hT hr (λσ H Q z=>z) h)
end
def A2{P w K mg base kd m c}{k k':Nat}{C f fd ps g}(ci:CI K kd mg c C)(me:Meth K C m f)(F:FnOk P w K mg base vI k' f fd ps (spS K kd g))(b:Binds K fd ps [])(hk:k'<=k:=by decide):MS P w K mg base kd m k c g:=by
 have e:=ci.eq;subst e;exact⟨_,_,_,_,hk,ci.cl,me,F,b⟩
abbrev rN(h:Heap)(T:Nat)(a b c:Value):Prop:=h.get? T=some {cls:=.type "tuple",data:=.seq #[a,b,c]}
structure Z3(h:Heap)(I l1 l2 l3 k:Nat)(f0:Value):Prop where
 z:IsZip h (I+5) (I+3) (I+4) f0
 ti:rN h (I+3) (.ref I) (.ref<|I+1) (.ref<|I+2)
 to:∃a b c,rN h (I+4) a b c
 h1:h.IsListIter I l1 k
 h2:h.IsListIter (I+1) l2 k
 h3:h.IsListIter (I+2) l3 k
section
variable{prog:Program}{w:World}{A:Around}{E:Value->Shared->Prop}{s:Shared}
def EK{T:Nat}{a b c x}{k:Nat}{Q}(hT:rN s.heap T a b c)
 (h:∀h',h'.get? T=some {cls:=.type "tuple",data:=.seq ((#[a,b,c]:Array Value).setIfInBounds k x)}->Heap.SameBut T s.heap h'->Q () {s with heap:=h'}):wpAny (model prog w) A (updateSeq T (·.setIfInBounds k x)) Q E s:=by
 refine wpAny_updateSeq hT rfl<|h _ ?_<|Heap.SameBut.update ..;rw[Heap.get?_update_self _ hT rfl];simp[Obj.mapSeq]
def uV{I l1 l2 l3 k:Nat}{xs ys zs x y z}{Q:Value->Shared->Prop}(d1:l1<I)(d2:l2<I)(d3:l3<I)(Z:Z3 s.heap I l1 l2 l3 k .none)
 (hl1:s.heap.IsList l1 xs) (hl2:s.heap.IsList l2 ys) (hl3:s.heap.IsList l3 zs) (hx:xs[k]? = some x) (hy:ys[k]? = some y) (hw:zs[k]? = some z)
 (hQ:∀h',Z3 h' I l1 l2 l3 (k+1) (rawInt s.heap.objs.size)->rN h' s.heap.objs.size x y z->(∀(c:Nat) o,c<I\/I+5<c->s.heap.get? c=some o->h'.get? c=some o)->Q (.ref s.heap.objs.size) {s with heap:=h'}):
 wpAny (model prog w) A (Builtin.«zip.__next__» ⟨[.ref<|I+5],[]⟩) (λfin s'=>∃v,fin = .done (.ret v)/\Q v s') E s:=by
 obtain⟨t,B,⟨a,b,c,K⟩,h1,h2,h3⟩:=Z;have d:∀{p q:Nat},p<q\/q<p->p≠q:=λh=>q0I h
 show wpAny _ _ (field (.ref<|I+5) 2 >>= _) _ _ _;refine zxF<|wpAny_field t rfl rfl ?_;refine zxF<|wpAny_field t rfl rfl ?_;refine zxF<|wpAny_seqItems B rfl ?_;refine zxF ?_;unfold Builtin.SmallTypes.ownedTupleIsFree;refine zxF<|wpAny_field t rfl (x:=.none) rfl<|zxG ?_;simp only[if_true];refine zxF<|wpAny_rule ?_;refine zxF<|wpAny_field t rfl rfl ?_;refine zxF (wpAny_setField_rec t (by simp) λg1 g V=>?_)
 replace g:IsZip g1 (I+5) (I+3) (I+4) .ellipsis:=g
 refine zxF ?_;simp only[List.zipIdx_cons,List.zipIdx_nil,List.forIn_cons,List.forIn_nil];refine zxF<|zxF<|wpAny_onRaise ?_;have L:=λp o n=>V.extBut p o n;refine zxF<|wpAny_nextOf_list_item (h1.at λo e=>L _ o (d<|q0j) e) (hl1.at λo e=>L _ o (d<|q0u d1) e) hx λg2 i2 M=>zxG ?_;have W:=λp o n (m:p≠I) e=>M.extBut p o m<|L p o n e;have X:=W _ _ (d<|q0C) (d<|by omega) K;refine zxF<|wpAny_seqItems X rfl ?_;refine zxF (EK X λY N F=>?_)
 replace N:rN Y (I+4) x b c:=N
 refine zxF<|wpAny_letGo<|zxG ?_;have O:=λp o n (m:p≠I) r e=>F.extBut p o r<|W p o n m e;have i3:=i2.at λo e=>F.extBut _ o (d<|q0E) e;refine zxF<|zxF<|wpAny_onRaise ?_;refine zxF<|wpAny_nextOf_list_item (h2.at λo e=>O _ o (d<|q0A) (d<|by omega) (d<|q0F) e) (hl2.at λo e=>O _ o (d<|q0u d2) (d<|q1O d2) (d<|q1z d2) e) hy λg4 j4 C=>zxG ?_;have t4:=C.extBut _ _ (d<|by omega) N;refine zxF<|wpAny_seqItems t4 rfl ?_;refine zxF (EK t4 λP R D=>?_)
 replace R:rN P (I+4) x y c:=R
 refine zxF<|wpAny_letGo<|zxG ?_;have S:=λp o n (m:p≠I) r u e=>D.extBut p o r<|C.extBut p o u<|O p o n m r e;have i5:=i3.at λo e=>D.extBut _ o (d<|q0E)<|C.extBut _ o (d<|by omega) e;have j5:=j4.at λo e=>D.extBut _ o (d<|q0F) e;refine zxF<|zxF<|wpAny_onRaise ?_;refine zxF<|wpAny_nextOf_list_item (h3.at λo e=>S _ o (d<|q0y) (d<|by omega) (d<|q1m) (d<|by omega) e) (hl3.at λo e=>S _ o (d<|q0u d3) (d<|q1O d3) (d<|q1z d3) (d<|by omega) e) hw λg6 l6 i=>zxG ?_;have t6:=i.extBut _ _ (d<|by omega) R;refine zxF<|wpAny_seqItems t6 rfl ?_;refine zxF (EK t6 λf G j=>?_)
 replace G:rN f (I+4) x y z:=G
 refine zxF<|wpAny_letGo<|zxG<|zxG ?_;have k7:=λp o n (m:p≠I) (r:p≠I+4) (u:p≠I+1) (v:p≠I+2) e=>j.extBut p o r<|i.extBut p o v<|S p o n m r u e;have i7:=i5.at λo e=>j.extBut _ o (d<|q0E)<|i.extBut _ o (d<|by omega) e;have j7:=j5.at λo e=>j.extBut _ o (d<|q0F)<|i.extBut _ o (d<|by omega) e;have l7:=l6.at λo e=>j.extBut _ o (d<|q1m) e;have z7:=j.extBut _ _ (d<|q0G)<|i.extBut _ _ (d<|by omega)<|D.extBut _ _ (d<|q0G)<|C.extBut _ _ (d<|by omega)<|F.extBut _ _ (d<|q0G)<|M.extBut _ _ (d<|q1s) g;have u7:=k7 _ _ (d<|q0z) (d<|by omega) (d<|by omega) (d<|by omega) (d<|by omega) B;have T:f.objs.size=s.heap.objs.size:=by rw[j.1,i.1,D.1,C.1,F.1,M.1,V.1]
 refine zxF<|wpAny_seqItems G rfl ?_;refine zxF<|wpAny_newTuple ?_;have zl:=zxI z7;refine zxF ?_;unfold Builtin.SmallTypes.ownedTupleHandOut;have z8:IsZip (f.push {cls:=.type "tuple",data:=.seq #[x,y,z]}) (I+5) (I+3) (I+4) .ellipsis:=zxH _ z7;refine zxF (wpAny_setField_rec z8 (by simp) λg9 U q9=>?_)
 replace U:IsZip g9 (I+5) (I+3) (I+4) (rawInt f.objs.size):=U
 refine wpAny_setField_rec U (by simp) λH J q0=>?_
 replace J:IsZip H (I+5) (I+3) (I+4) (rawInt f.objs.size):=J
 have l:∀(c:Nat) o,c≠I+5->f.get? c=some o->H.get? c=some o:=λc o c1 e=>q0.extBut _ _ c1<|q9.extBut _ _ c1<|zxH _ e;have hT:=q0.extBut _ _ (d<|.inr zl)<|q9.extBut _ _ (d<|.inr zl)<|zxJ _ rfl;refine zxG ⟨_,rfl, ?_⟩;rw[T]at J hT ⊢;exact hQ H ⟨J,l _ _ (d<|q0z) u7,⟨x,y,z,l _ _ (d<|q0C) G⟩,i7.at λo e=>l _ o (d<|q0j) e,j7.at λo e=>l _ o (d<|q0A) e,l7.at λo e=>l _ o (d<|q0y) e⟩ hT λc o hc e=>l c o (d<|q0o hc)<|k7 c o (d<|q0o hc) (d<|q1f hc) (d<|by omega) (d<|by omega) (d<|by omega) e
def qF{I l1 l2 l3 k:Nat}{xs Q}(hh:A.handled=none)(d1:l1<I)(Z:Z3 s.heap I l1 l2 l3 k .none)(hl1:s.heap.IsList l1 xs)(hx:xs[k]? = none)
 (hE:∀h' e,(∀(c:Nat) o,c<I\/I+5<c->s.heap.get? c=some o->h'.get? c=some o)->(∃o,h'.get? e=some o/\o.cls = .type "StopIteration")->E (.ref e) {s with heap:=h'}):
 wpAny (model prog w) A (Builtin.«zip.__next__» ⟨[.ref<|I+5],[]⟩) Q E s:=by
 obtain⟨i,m,⟨a,b,c,y⟩,z,J,K⟩:=Z;have g:∀{p q:Nat},p<q\/q<p->p≠q:=λh=>q0I h
 show wpAny _ _ (field _ 2 >>= _) _ _ _;refine zxF<|wpAny_field i rfl rfl ?_;refine zxF<|wpAny_field i rfl rfl ?_;refine zxF<|wpAny_seqItems m rfl ?_;refine zxF ?_;unfold Builtin.SmallTypes.ownedTupleIsFree;refine zxF<|wpAny_field i rfl rfl<|zxG ?_;simp only[if_true];refine zxF<|wpAny_rule ?_;refine zxF<|wpAny_field i rfl rfl ?_;refine zxF (wpAny_setField_rec i (by simp) λB d C=>?_)
 replace d:IsZip B (I+5) (I+3) (I+4) .ellipsis:=d
 refine zxF ?_;simp only[List.zipIdx_cons,List.zipIdx_nil,List.forIn_cons,List.forIn_nil];refine zxF<|zxF<|wpAny_onRaise ?_;have r:=λp o n=>C.extBut p o n;refine zxF<|wpAny_nextOf_list_end hh (z.at λo e=>r _ o (g<|q0j) e) (hl1.at λo e=>r _ o (g<|q0u d1) e) hx λD e u F=>?_;obtain⟨G,f,j⟩:=F;have l:=u _ _ (g<|q1s) d;have t:e≠I+5:=λx=>by subst x;rw[l]at f;cases f;simp at j
 refine wpAny_setField_rec l (by simp) λH _ v=>hE H e (λc o L x=>v.extBut _ _ (g<|q0o L)<|u _ _ (g<|q1f L)<|r c o (g<|q0o L) x) ⟨G,v.extBut _ _ t f,j⟩
end
section
variable{prog:Program}{w:World}{A:Around}{E:Value->Shared->Prop}{s:Shared}
def Ib{I l1 l2 l3 k:Nat}{xs ys zs x y z Q}(d1:l1<I)(d2:l2<I)(d3:l3<I)(Z:Z3 s.heap I l1 l2 l3 k .none)
 (hl1:s.heap.IsList l1 xs) (hl2:s.heap.IsList l2 ys) (hl3:s.heap.IsList l3 zs) (hx:xs[k]? = some x) (hy:ys[k]? = some y) (hw:zs[k]? = some z)
 (hQ:∀h',Z3 h' I l1 l2 l3 (k+1) (rawInt s.heap.objs.size)->rN h' s.heap.objs.size x y z->(∀(c:Nat) o,c<I\/I+5<c->s.heap.get? c=some o->h'.get? c=some o)->Q (some<|.ref s.heap.objs.size) {s with heap:=h'}):
 wpAny (model prog w) A (pyNext<|.ref<|I+5) Q E s:=by
 have hT:s.TypeIs (.ref<|I+5) "zip":=⟨_,Z.z,rfl⟩;unfold pyNext;exact zxF<|wpAny_attempt<|wpAny_callSpecial?_slot hT PySem.F.slot_zip_next<|zxN PySem.F.slot_zip_next hT PySem.F.entry_zip_next (uV d1 d2 d3 Z hl1 hl2 hl3 hx hy hw λh' a1 a2 a3=>zxG<|hQ h' a1 a2 a3)<|PySem.F.args_zip_next_1 _
def IT{I l1 l2 l3 k:Nat}{xs Q}(hh:A.handled=none)(d1:l1<I)(Z:Z3 s.heap I l1 l2 l3 k .none)(hl1:s.heap.IsList l1 xs)(hx:xs[k]? = none)
 (hQ:∀h',(∀(c:Nat) o,c<I\/I+5<c->s.heap.get? c=some o->h'.get? c=some o)->Q none {s with heap:=h'}):wpAny (model prog w) A (pyNext<|.ref<|I+5) Q E s:=by
 have hT:s.TypeIs (.ref<|I+5) "zip":=⟨_,Z.z,rfl⟩;unfold pyNext;refine zxF<|wpAny_attempt<|wpAny_callSpecial?_slot hT PySem.F.slot_zip_next<|zxN PySem.F.slot_zip_next hT PySem.F.entry_zip_next (qF hh d1 Z hl1 hx λh' e hk he=>?_)<|PySem.F.args_zip_next_1 _;obtain⟨o,ho,hc⟩:=he;refine zxF<|wpAny_isInstance ⟨o,ho,hc⟩ isSubtype_stop ?_;exact zxG<|hQ _ hk
end
noncomputable abbrev jH(h:Heap)(l1 l2 l3:Nat):Heap:=zipH1 (zipH2 h l1 l2) l3
abbrev j8(h:Heap)(l1 l2 l3:Nat):Heap:=(jH h l1 l2 l3).push {cls:=.type "tuple",data:=.seq #[.ref h.objs.size,.ref (zipH1 h l1).objs.size,.ref (zipH2 h l1 l2).objs.size]}
abbrev jV(h:Heap)(l1 l2 l3:Nat):Heap:=(j8 h l1 l2 l3).push {cls:=.type "tuple",data:=.seq #[.none,.none,.none]}
abbrev pN(h:Heap)(l1 l2 l3:Nat):Heap:=(jV h l1 l2 l3).push {cls:=.type "zip",data:=.fields #[.none,.bool false,.bool false,.ref (jH h l1 l2 l3).objs.size,.ref (j8 h l1 l2 l3).objs.size]}
set_option maxHeartbeats 4000000 in
def ni(l1 l2 l3:Nat)(xs ys zs):Meets (Builtin.«zip.__new__» ⟨[.type "zip",.ref l1,.ref l2,.ref l3],[]⟩) (λ_ R s=>s.heap.IsList l1 xs/\s.heap.IsList l2 ys/\s.heap.IsList l3 zs/\
 R (.ok<|.ret<|.ref (jV s.heap l1 l2 l3).objs.size) {s with heap:=pN s.heap l1 l2 l3}):=
 .of_wp λprog w A R s h=>by
  obtain⟨hp,g,d,tk,os⟩:=s;obtain⟨hl1,hl2,hl3,h⟩:=h;have hsub:=sub_zip;have hL1:=hl1;have hL2:Heap.IsList (Shared.heap ⟨hp.push {cls:=.type "list_iterator",data:=.fields #[.ref l1,.int 0 0]},g,d,tk,os⟩) l2 ys:=Heap.IsList.push hl2 _;have hL3:Heap.IsList (Shared.heap ⟨(hp.push {cls:=.type "list_iterator",data:=.fields #[.ref l1,.int 0 0]}).push {cls:=.type "list_iterator",data:=.fields #[.ref l2,.int 0 0]},g,d,tk,os⟩) l3 zs:=Heap.IsList.push (Heap.IsList.push hl3 _) _
  wp_walk using wpAny_pyIter_list hL1,wpAny_pyIter_list hL2,wpAny_pyIter_list hL3
  exact⟨_,rfl,h⟩
theorem Dq(a b c):checkTypeCall "zip" ⟨[a,b,c],[]⟩=pure ():=by kernel_rfl
theorem uk(a b c):checkBuiltinCall "zip.__new__" ⟨[.type "zip",a,b,c],[]⟩=pure ():=by kernel_rfl
theorem Dl(a b c d):argsOk "object.__init__" ⟨[a,b,c,d],[]⟩:=by
 unfold argsOk;rw[signature?_of (n:=['_','_','t','i','n','i','_','_']) (by kernel_rfl) PySem.F.owner_object];kernel_rfl
def O2{prog w A E s}{l1 l2 l3:Nat}{xs ys zs Q}(hl1:s.heap.IsList l1 xs)(hl2:s.heap.IsList l2 ys)(hl3:s.heap.IsList l3 zs)
 (h:∀h',Z3 h' s.heap.objs.size l1 l2 l3 0 .none->(∀c o,s.heap.get? c=some o->h'.get? c=some o)->Q (.ref<|s.heap.objs.size+5) {s with heap:=h'}):
 wpAny (model prog w) A (call (.type "zip") [.ref l1,.ref l2,.ref l3]) Q E s:=by
 refine callType_new PySem.F.called_zip (by decide) (Dq _ _ _) (uk _ _ _) (λobj=>Dl obj _ _ _) PySem.F.entry_zip_new (ni l1 l2 l3 xs ys zs) ⟨hl1,hl2,hl3, ?_⟩;have z1:(zipH1 s.heap l1).objs.size=s.heap.objs.size+1:=zxL ..;have z2:(zipH2 s.heap l1 l2).objs.size=s.heap.objs.size+2:=by rw[zxL,z1]
 have z3:(jH s.heap l1 l2 l3).objs.size=s.heap.objs.size+3:=by rw[zxL,z2]
 have z4:(j8 s.heap l1 l2 l3).objs.size=s.heap.objs.size+4:=by rw[zxL,z3]
 have z5:(jV s.heap l1 l2 l3).objs.size=s.heap.objs.size+5:=by rw[zxL,z4]
 have g6:(pN s.heap l1 l2 l3).get? (jV s.heap l1 l2 l3).objs.size=some _:=zxJ _ rfl;have g5:(pN s.heap l1 l2 l3).get? (j8 s.heap l1 l2 l3).objs.size=some _:=zxH _<|zxJ _ rfl;have g4:(pN s.heap l1 l2 l3).get? (jH s.heap l1 l2 l3).objs.size=some _:=zxH _<|zxH _<|zxJ _ rfl;have g3:(pN s.heap l1 l2 l3).get? (zipH2 s.heap l1 l2).objs.size=some _:=zxH _<|zxH _<|zxH _<|zxJ _ rfl;have g2:(pN s.heap l1 l2 l3).get? (zipH1 s.heap l1).objs.size=some _:=zxH _<|zxH _<|zxH _<|zxH _<|zxJ _ rfl;have g1:(pN s.heap l1 l2 l3).get? s.heap.objs.size=some _:=zxH _<|zxH _<|zxH _<|zxH _<|zxH _<|zxJ _ rfl;rw[z3,z4,z5]at g6;rw[z4]at g5;rw[z1,z2,z3]at g4;rw[z2]at g3;rw[z1]at g2;rw[z5];exact⟨⟨_,g6,rfl⟩,h _ ⟨g6,g4,⟨_,_,_,g5⟩,⟨_,g1,rfl,rfl⟩,⟨_,g2,rfl,rfl⟩,⟨_,g3,rfl,rfl⟩⟩ λc o x=>zxH _<|zxH _<|zxH _<|zxH _<|zxH _<|zxH _ x⟩
def qi(K:zzA)(a b c:Addr):It:=
 ⟨λi H=>∃xs ys zs x y z,Vp K H a xs/\Vp K H b ys/\Vp K H c zs/\xs[i]? = some x/\ys[i]? = some y/\zs[i]? = some z,
  λi H v H'=>∃T x y z,H T=none/\v = .ref T/\H'=upd H T (.tup [x,y,z])/\(∀xs,Vp K H a xs->xs[i]? = some x)/\(∀ys,Vp K H b ys->ys[i]? = some y)/\∀zs,Vp K H c zs->zs[i]? = some z,
  λi H=>∃xs,Vp K H a xs/\xs.length<=i⟩
def EH{I c:Nat}:c ∈ [I+5,I+3,I+4,I,I+1,I+2] ↔ I<=c/\c<=I+5:=by
 simp only[zzC,zxB,or_false];omega
def Cg{P w K elts}{kk:Nat}{pos}(a b c I:Nat)(d1:a<I)(d2:b<I)(d3:c<I):Turn P w K (.Tuple elts kk pos) (qi K a b c) [I+5,I+3,I+4,I,I+1,I+2] (I+5) (λi h=>Z3 h I a b c i .none)where
 mem:=by simp
 obj:=λi h st d hd=>by
  obtain⟨hz,hTI,⟨p,q,r,hTO⟩,⟨o1,e1,c1,f1⟩,⟨o2,e2,c2,f2⟩,⟨o3,e3,c3,f3⟩⟩:=st;simp only[zzC,zxB,or_false]at hd
  rcases hd with rfl|rfl|rfl|rfl|rfl|rfl
  . exact⟨_,hz,λv z=>by cases z⟩
  . exact⟨_,hTI,λv z=>by cases z⟩
  . exact⟨_,hTO,λv z=>by cases z⟩
  . exact⟨o1,e1,λv z=>by rw[f1]at z;cases z⟩
  . exact⟨o2,e2,λv z=>by rw[f2]at z;cases z⟩
  . exact⟨o3,e3,λv z=>by rw[f3]at z;cases z⟩
 keep:=λi h h' st k=>by
  obtain⟨hz,hTI,⟨p,q,r,hTO⟩,h1,h2,h3⟩:=st;exact⟨k _ (by simp) _ hz,k _ (by simp) _ hTI,⟨p,q,r,k _ (by simp) _ hTO⟩,h1.at λo e=>k _ (by simp) o e,h2.at λo e=>k _ (by simp) o e,h3.at λo e=>k _ (by simp) o e⟩
 item:=by
  intro X hP hw hK hc i pins s σ H E I' hf st hg;subst hP hw hK;obtain⟨xs,ys,zs,x,y,z,hq,hr,hs,hx,hy,hz⟩:=hg;obtain⟨its,rv,p,_⟩:=I'.list hq;obtain⟨jts,rv',p',_⟩:=I'.list hr;obtain⟨kts,rv'',p'',_⟩:=I'.list hs;obtain⟨u,hu,ru⟩:=rv.get hx;obtain⟨u',hu',ru'⟩:=rv'.get hy;obtain⟨u'',hu'',ru''⟩:=rv''.get hz;refine Ib d1 d2 d3 st p.isList p'.isList p''.isList (by simpa using hu) (by simpa using hu') (by simpa using hu'') λh1 hZ hT k1=>?_;refine⟨_,rfl,wpAny_letOwnedTupleGo_zip hZ.z λh2 hz2 q2=>?_⟩;have zl:I+5<s.heap.objs.size:=zxI st.z;have nq:∀{p q:Nat},p<q\/q<p->p≠q:=λh=>q0I h
  have hn:=I'.hok.fresh<|zzN _;have k2:∀c o,c ∉ [I+5,I+3,I+4,I,I+1,I+2]->s.heap.get? c=some o->h2.get? c=some o:=λc o hc e=>by
   rw[EH]at hc;exact q2.extBut c o (nq<|by omega)<|k1 c o (q1g hc) e
  have hT2:IsTup h2 s.heap.objs.size #[u,u',u'']:=⟨_,q2.extBut _ _ (nq<|.inr zl) hT,rfl,_,rfl⟩;obtain⟨_,t2,⟨ta,tb,tc,t3⟩,t4,t5,t6⟩:=hZ;refine⟨.ref s.heap.objs.size,upd H s.heap.objs.size<|.tup [x,y,z],RP (s:=s) (t':=s.toks) I' hf k2 (zzN _) ⟨by show 3<=sizeLine;decide,[u,u',u''],.cons ru<|.cons ru'<|.cons ru'' .nil,hT2⟩,rfl,⟨_,x,y,z,hn,rfl,rfl,λq hq'=>by rw[I'.list_inj hq' hq];exact hx,λq hq'=>by rw[I'.list_inj hq' hr];exact hy,λq hq'=>by rw[I'.list_inj hq' hs];exact hz⟩,⟨hz2,q2.extBut _ _ (nq<|q0z) t2,⟨ta,tb,tc,q2.extBut _ _ (nq<|q0C) t3⟩,t4.at λo e=>q2.extBut _ o (nq<|q0j) e,t5.at λo e=>q2.extBut _ o (nq<|q0A) e,t6.at λo e=>q2.extBut _ o (nq<|q0y) e⟩,λd hd=>?_⟩;have hd':=EH.mp hd;rw[zH<|nq<|by omega];exact(hf d hd).1
 done:=by
  intro X hP hw hK hc i pins s σ H E I' hf st hg;subst hP hw hK;obtain⟨xs,hq,hx⟩:=hg;obtain⟨its,rv,p,_⟩:=I'.list hq;have hl:=rv.length;refine IT (I'.ok.hd hc) d1 st p.isList (by simp;exact q0n hl hx) λh' k=>⟨rfl,Kt (t':=s.toks) I' hf λc o hc e=>k c o ?_ e⟩;rw[EH]at hc;exact q1g hc
 self:=λ_ _ _ _ _ st h=>wpAny_pyIter_zip st.z h
section
variable{X:Cx}
def qx(K:zzA)(ta:TA):TI:=λσ H R=>ta σ H λvs H1=>∃a b c,vs=[.ref a,.ref b,.ref c]/\(∃xs,Vp K H1 a xs)/\(∃ys,Vp K H1 b ys)/\(∃zs,Vp K H1 c zs)/\R (qi K a b c) H1
def DQ{l l' l'' ta p pos pos' elts}{k:Nat}(hg:Gl X "zip")(hm:X.mg "zip"=none)(ha:PA X [l,l',l''] ta)(hs:starEach [l,l',l''] X.env=(false,eval l X.env)::starEach [l',l''] X.env)(hs2:(backTo pos<|starEach [l',l''] X.env).any (·.1)=false):
 PI X (.Tuple elts k pos') (.Call (.Name "zip" p) [l,l',l''] [] pos) (qx X.K ta):=by
 intro pins s σ H R I h;refine Call_<|Uu I hg hm boot_zip<|PyProof.Rows.callWith_type1 (wC (ha pos pins s σ H _ I h) λus s1 ⟨vs,H1,I1,r1,q1⟩=>?_) hs hs2;obtain⟨a,b,c,rfl,⟨xs,hq⟩,⟨ys,hr⟩,⟨zs,ht⟩,q⟩:=q1;cases r1 with
 |cons r rr=>
  cases rr with
  |cons r' rr=>
   cases rr with
   |cons r'' rr=>
    cases rr;cases r;cases r';cases r'';obtain⟨its,rv,pl,hz⟩:=I1.list hq;obtain⟨jts,rw',pl',hz'⟩:=I1.list hr;obtain⟨kts,rx',pl'',hz''⟩:=I1.list ht;obtain⟨o1,ho1,_⟩:=pl.isList;obtain⟨o2,ho2,_⟩:=pl'.isList;obtain⟨o3,ho3,_⟩:=pl''.isList;refine O2 pl.isList pl'.isList pl''.isList λh' hZ hk=>?_;refine wpAny_pyIter_zip hZ.z ⟨_,_,_,_,H1,rfl,I1.kept (t':=s1.toks) hk,Cg a b c s1.heap.objs.size (zxI ho1) (zxI ho2)<|zxI ho3,hZ,λd hd=>?_,q⟩;have hb':s1.heap.objs.size<=d:=(EH.mp hd).1;exact I1.fpOk hb'<|I1.hok.fresh hb'
end
noncomputable def Y8(st:Bool):List D->List D->List D->List wK
 |x::r,y::t,z::u=>(st,.tup [x,y,z])::Y8 st r t u
 |_,_,_=>[]
theorem Pz(st):∀(xs ys zs:List D),xs.length=ys.length->ys.length=zs.length->(Y8 st xs ys zs).length=xs.length
 | [],_,_,_,_=>by simp[Y8]
 |_::_,[],_,h,_=>by simp at h
 |_::_,_::_,[],_,h=>by simp at h
 |_::r,_::t,_::u,h,h'=>by
  simp only[Y8,zzT]at h h' ⊢;rw[Pz st r t u (q1d h)<|q1d h']
theorem NK{st}:∀{xs ys zs:List D}{i:Nat}{y:wK},(Y8 st xs ys zs)[i]? = some y->∃d e f,xs[i]? = some d/\ys[i]? = some e/\zs[i]? = some f/\y=(st,.tup [d,e,f])
 | [],_,_,_,_,h=>by simp[Y8]at h
 |_::_,[],_,_,_,h=>by simp[Y8]at h
 |_::_,_::_,[],_,_,h=>by simp[Y8]at h
 |x::r,y::t,z::u,0,w,h=>by
  simp only[Y8,List.getElem?_cons_zero]at h;cases h;exact⟨x,y,z,rfl,rfl,rfl,rfl⟩
 |x::r,y::t,z::u,i+1,w,h=>by
  simp only[Y8,List.getElem?_cons_succ]at h;obtain⟨d,e,f,h1,h2,h3,h4⟩:=NK h;exact⟨d,e,f,by simpa using h1,by simpa using h2,by simpa using h3,h4⟩
noncomputable def mW:List RV->Option (RV×RV×RV)
 | [a,b,c]=>some (a,b,c)
 |_=>none
def HI(fr:AF):IF:=λas=>(fr as).bind λp=>(mW p.1).bind λo=>(jW o.1).bind λa=>(jW o.2.1).bind λb=>(jW o.2.2).bind λc=>if a.2.length=b.2.length/\b.2.length=c.2.length then some (Y8 (a.1&&(b.1&&c.1)) a.2 b.2 c.2,p.2)else none
def DW{l a b c}(h:mW l=some (a,b,c)):l=[a,b,c]:=by
 match l,h with
 | [a,b,c],h=>cases h;rfl
section
variable{X:Cx}{kd:KD}
def Af{K F H a b c vs ws us st ds es fs}(ft:∀a,F a->H a≠none)(hs:∀H3:Hp,(∀b u,H b=some u->H3 b=some u)->Vp K H3 a vs)(hs':∀H3:Hp,(∀b u,H b=some u->H3 b=some u)->Vp K H3 b ws)(hs'':∀H3:Hp,(∀b u,H b=some u->H3 b=some u)->Vp K H3 c us)
 (r:RpL K kd (λa=>st=true/\F a) H vs ds) (r':RpL K kd (λa=>st=true/\F a) H ws es) (r'':RpL K kd (λa=>st=true/\F a) H us fs) (q1:ds.length=es.length) (q2:es.length=fs.length):ItC K kd F H (qi K a b c) (Y8 st ds es fs):=⟨λH3 T k hT i=>by
 have hr3:=hs H3 k;have hr4:=hs' H3 k;have hr5:=hs'' H3 k;have hlen:=Pz st ds es fs q1 q2;have l1:=r.length;refine⟨λhi=>?_,λhi=>⟨_,hr3,by omega⟩,λv H4 hy=>?_⟩
 . obtain⟨u,hu,_⟩:=r.get<|zzE (show i<ds.length by omega);obtain⟨u',hu',_⟩:=r'.get<|zzE (show i<es.length by omega);obtain⟨u'',hu'',_⟩:=r''.get<|zzE (show i<fs.length by omega);exact⟨_,_,_,u,u',u'',hr3,hr4,hr5,hu,hu',hu''⟩
 . obtain⟨A,x,y,z,hn,rfl,rfl,hv,hv',hv''⟩:=hy;have hnH:H A=none:=by
    cases e:H A with
    |none=>rfl
    |some u=>rw[k A u e]at hn;cases hn
   refine⟨wI hn,λq hq=>?_⟩;obtain⟨d,e,f,hd,he,hf,rfl⟩:=NK hq;obtain⟨u,hu,ru⟩:=r.get hd;obtain⟨u',hu',ru'⟩:=r'.get he;obtain⟨u'',hu'',ru''⟩:=r''.get hf;have e1:=hv _ hr3;rw[hu]at e1;cases e1;have e2:=hv' _ hr4;rw[hu']at e2;cases e2;have e3:=hv'' _ hr5;rw[hu'']at e3;cases e3;have up:∀{v:V}{d:D},Rp K kd (λa=>st=true/\F a) H v d->Rp K kd (λa=>st=true/\(F a\/T a)) (upd H3 A<|.tup [x,y,z]) v d:=λrp=>
    (rp.since (λb o q=>wI hn b o<|k b o q) λa z=>(hT a z).1).less λa z=>z.2.elim (λy=>.inl ⟨z.1,y⟩) .inr
   exact .tup (λz=>z.2.elim (λy=>ft A y hnH) λy=>(hT A y).2 hn) (.inl ye)<|.cons (up ru)<|.cons (up ru')<|.cons (up ru'') .nil⟩
def uz{l l' l'' fr p pos pos' elts}{k:Nat}(hg:Gl X "zip")(hm:X.mg "zip"=none)(ha:AA X kd [l,l',l''] fr)(hs:starEach [l,l',l''] X.env=(false,eval l X.env)::starEach [l',l''] X.env)(hs2:(backTo pos<|starEach [l',l''] X.env).any (·.1)=false):
 D0 X kd (.Tuple elts k pos') (.Call (.Name "zip" p) [l,l',l''] [] pos) (HI fr):=by
 with_unfolding_all (
 intro pins s σ H R I h;obtain⟨F,B,ad,as,ds,as',Rl,e',q⟩:=h;obtain⟨⟨rs,as1⟩,h1,z1⟩:=bS_<|e';obtain⟨⟨o1,o2,o3⟩,e1,z2⟩:=bS_ z1;obtain⟨⟨s1,d1⟩,e2,z3⟩:=bS_ z2;obtain⟨⟨s2,d2⟩,e3,z4⟩:=bS_ z3;obtain⟨⟨s3,d3⟩,e4,z5⟩:=bS_ z4;obtain⟨⟨q1,q2⟩,z6⟩:=zv z5;cases DW e1;cases SY e2;cases SY e3;cases SY e4;cases z6;refine DQ hg hm ha hs hs2 pins s σ H R I ⟨F,B,ad,as,_,as1,Rl,h1,λvs ad1 H1 R1 rv1 g1=>?_⟩;cases rv1 with
 |cons r1 rr=>
  cases rr with
  |cons r2 rr=>
   cases rr with
   |cons r3 rr=>
    cases rr;have ls:∀{st:Bool}{l:List D},tN (.ow<|.lf st<|.lst l)=some (st,false,l):=rfl;obtain⟨a,vs,rfl,sa,ka,ra⟩:=X3 (ls) r1;obtain⟨b,ws,rfl,sb,kb,rb⟩:=X3 (ls) r2;obtain⟨c,us,rfl,sc,kc,rc⟩:=X3 (ls) r3;refine⟨a,b,c,rfl,⟨_,sa⟩,⟨_,sb⟩,⟨_,sc⟩,q _ ad1 H1 R1 g1<|Af (R1.trk true) (λH3 k=>ka H3 λb u n h=>k b u h) (λH3 k=>kb H3 λb u n h=>k b u h) (λH3 k=>kc H3 λb u n h=>k b u h) (ra.less λa z=>?_) (rb.less λa z=>?_) (rc.less λa z=>?_) q1 q2⟩
    . have z1:=(Bool.and_eq_true_iff.mp z.1).1;rw[z1];exact z.2
    . have z1:=(Bool.and_eq_true_iff.mp (Bool.and_eq_true_iff.mp z.1).2).1;rw[z1];exact z.2
    . have z1:=(Bool.and_eq_true_iff.mp (Bool.and_eq_true_iff.mp z.1).2).2;rw[z1];exact z.2)
end
structure Co(x:Str)(P:Program)(w:World)(K:zzA)(mg:Str->Option Value)(base:Heap)(kd:KD)(k:Nat)(f:Addr)(d:FuncData)(ps:List Str)(gg:List (Bool×D)->Option O):Prop where
 F:FnOk P w K mg base vI k f d ps (Tf K kd gg)
 m:mg x=some (.ref f)
 kp:W.keepIn K (.ref f)=true
 b:Binds K d ps []
noncomputable def JI:List Str->List Str->List (Option Nat)->List Str
 |t::ts,XN,none::c=>t::JI ts XN c
 | [],XN,none::c=>""::JI [] XN c
 |ts,XN,some j::c=>XN.getD j ""::JI ts XN c
 |_,_,[]=>[]
noncomputable def nU:Expr->Str
 | .Name x _=>x
 |_=>""
def rO:Expr->List Str
 | .Tuple es _ _=>es.map nU
 |e=>[nU e]
noncomputable def nA:Nat->List (Option Nat)->List Nat
 |_,[]=>[]
 |k,none::c=>k::nA (k+1) c
 |k,some _::c=>nA (k+1) c
theorem SN:∀(c d:List (Option Nat)) (i:Nat),i ∈ nA d.length c->(d++c)[i]? = some none
 | [],_,_,h=>nomatch h
 |none::c,d,i,h=>by
  have ih:=SN c (d++[none]) i;rw[zzJ,zxC]at ih
  rcases zzC.mp (h)with rfl|h
  . simp
  . exact ih h
 |some x::c,d,i,h=>by
  have ih:=SN c (d++[some x]) i;rw[zzJ,zxC]at ih;exact ih h
def AR{cap}:(nA 0 cap).all (λi=>cap[i]? == some none)=true:=List.all_eq_true.mpr λi m=>by
 have:=SN cap [] i m;rw[List.nil_append]at this;rw[this];rfl
def du{N:List Str}(h:decide N.Nodup=true):N.Nodup:=of_decide_eq_true h
section
variable{X:Cx}{kd:KD}{elt tg iter e:Expr}{es ifs:List Expr}{scope:Scope}{pos p:Pos}{cap:List (Option Nat)}{g:GF}{tt:TF}{fe:EF}{fi:IF}{S:List Nat}{fr:AF}{k n:Nat}
def cq{f d ps gg x}(C:Co x X.prog X.w X.K X.mg X.base kd k f d ps gg)(hr:Room n X.A)(ha:AA X kd (e::es) fr)(hn:k<=n:=by omega)(hg:Gl X x:=by rfl)(hdb:(x==("__debug__":Str))=false:=by decide)(he:starEach (e::es) X.env=(false,eval e X.env)::starEach es X.env:=by rfl)(hpl:(backTo pos<|starEach es X.env).any (·.1)=false:=by rfl):
 AE X kd (.Call (.Name x p) (e::es) [] pos) (zh fr gg):=OL C.F (hr.mono hn) hg C.m C.kp C.b Xw ha hdb he hpl
def dD{a}{i:Nat}{gs}(h1:AG X kd a [i] g)(h2:sW X kd es S gs)(hs:(assignEach (a::es) X.env).map (·.2)=assign a X.env::(assignEach es X.env).map (·.2):=by rfl):sW X kd (a::es) (i::S) (yG g gs):=XX h1 h2 hs
def nv(X:Cx)(kd:KD)(tg:Expr)(g:GF):Prop:=∃S,AG X kd tg S g
def IZ(X:Cx)(kd:KD)(es:List Expr)(gs:sD):Prop:=∃S,sW X kd es S gs
def gz(i:Nat){x}(hN:X.N.Nodup)(hi:X.N[i]? = some x:=by rfl)(hx:Loc X.env.scope x:=by first|exact Or.inl rfl|exact Or.inr rfl)(hf:X.fn x=true\/X.env.scope.names.lookup x=some .local:=by first|exact Or.inl rfl|exact Or.inr rfl):nv X kd (.Name x pos) (gN i):=⟨_,Od hN hi hx hf⟩
def hV{gs}{j m:Nat}(h:IZ X kd es gs)(hc:X.calm=true:=by rfl)(hn:(assignEach es X.env).length=m:=by rfl)(hst:(assignEach es X.env).findIdx? (·.1)=none:=by rfl):nv X kd (.Tuple es j pos) (gT m gs):=h.elim λ_ h=>⟨_,EO hc h hn hst⟩
def g8{a gs}(h1:nv X kd a g)(h2:IZ X kd es gs)(hs:(assignEach (a::es) X.env).map (·.2)=assign a X.env::(assignEach es X.env).map (·.2):=by rfl):IZ X kd (a::es) (yG g gs):=h1.elim λ_ h1=>h2.elim λ_ h2=>⟨_,XX h1 h2 hs⟩
def iB:IZ X kd [] XM:=⟨_,G0⟩
def dr{body f}(hi:AI X kd tg iter fi)(hg:nv X kd tg g)(hb:O0 X kd body f)(hp:PassesOwn (model X.prog X.w) X.A X.env X.xe:=by exact PassesOwn.never)(hc:X.calm=true:=by rfl)(hs:∀x,foldedSetIterable iter X.env x=pure x:=by exact λ_=>rfl):B2 X kd (.For tg iter body [] pos) (yJ fi g f):=hg.elim λ_ hg=>pL hp hc hi hg hb hs
def gx(he:AE X kd e fe)(hg:nv X kd tg g)(hs:swapsWithSole [tg] e pos.line X.env=pure false:=by rfl)(hw:swappedStores [tg] e X.env=pure none:=by rfl)(h1:(assignEach [tg] X.env).map (·.2)=[assign tg X.env]:=by rfl):B2 X kd (.Assign [tg] e pos) (Vu fe g):=hg.elim λ_ hg=>p5 he hg hs hw h1
theorem cm(hi:D0 X kd tg iter fi)(hg:∀cl s H fp,AG (yI X (JI (rO tg) X.N cap) scope cl s H fp) kd tg (nA 0 cap) g)(ht:∀cl s H fp,C7 (yI X (JI (rO tg) X.N cap) scope cl s H fp) ifs<|uj X.K kd tt)(he:∀cl s H fp,AE (yI X (JI (rO tg) X.N cap) scope cl s H fp) kd elt fe)
 (hc:X.calm=true:=by rfl) (hk:scope.kind = .function:=by rfl) (hcap:Ui (JI (rO tg) X.N cap) X.N scope.names X.env.scope.names cap=true:=by kernel_rfl) (hs:∀x,foldedSetIterable iter X.env x=pure x:=by exact λ_=>rfl):AE X kd (.ListComp elt [⟨tg,iter,ifs,0⟩] scope pos) (zS fi cap g tt fe):=Ed hc hi hk hcap AR hg ht he hs
theorem dz{z}{i:Nat}{y py spos}(hN:X.N.Nodup)(hi:D0 X kd tg iter fi)(hg:∀cl s H fp,AG (yI X (JI (rO tg) X.N cap) scope cl s H fp) kd tg (nA 0 cap) g)(ht:∀cl s H fp,C7 (yI X (JI (rO tg) X.N cap) scope cl s H fp) ifs<|uj X.K kd tt)(he:∀cl s H fp,AE (yI X (JI (rO tg) X.N cap) scope cl s H fp) kd elt fe)
 (hiy:X.N[i]? = some y:=by rfl) (hy:Loc X.env.scope y:=by first|exact Or.inl rfl|exact Or.inr rfl) (hf:X.fn y=true\/X.env.scope.names.lookup y=some .local:=by first|exact Or.inl rfl|exact Or.inr rfl) (hsw:swapsWith (.ListComp elt [⟨tg,iter,ifs,0⟩] scope pos) (some<|.Name y py) spos.line X.env=pure true:=by rfl)
 (hc:X.calm=true:=by rfl) (hk:scope.kind = .function:=by rfl) (hcap:Ui (JI (rO tg) X.N cap) X.N scope.names X.env.scope.names cap=true:=by kernel_rfl) (hs:∀x,foldedSetIterable iter X.env x=pure x:=by exact λ_=>rfl):B2 X kd (.Assign [.Name y py] (.ListComp elt [⟨tg,iter,ifs,0⟩] scope pos) spos) (zp z i<|zS fi cap g tt fe):=Dt hN hiy hy hf hsw hc hi hk hcap AR hg ht he hs
end
abbrev zO(n:Nat)(x:Int):Prop:=0<=x/\x<(n:Int)
structure LJ(n:Nat)(j:Int->Int->Int)(e:Int):Prop where
 cl:∀a b,zO n a->zO n b->zO n (j a b)
 ce:zO n e
 ul:∀a,zO n a->j e a=a
 ur:∀a,zO n a->j a e=a
 as:∀a b c,zO n a->zO n b->zO n c->j (j a b) c=j a (j b c)
structure LD(n m:Nat)(j:Int->Int->Int)(e:Int)(d:Int->Int->Int):Prop where
 cl:∀c a,zO m c->zO n a->zO n (d c a)
 em:d 0 e=e
 dn:∀a i b k,zO n a->zO m i->zO n b->zO m k->d ((i+k)%m) (j a b)=j (d i a) (d k b)
def QJ{n:Nat}(hn:0<n):zO n (x%n):=⟨zyN _<|q1n hn,zyH _<|q0c hn⟩
def LD.congr{n m:Nat}(hm:0<m)(hj:LJ n j e)(h:LD n m j e d)(q:∀a b,zO n a->zO n b->j' a b=j a b)(p:∀c a,zO m c->zO n a->d' c a=d c a):LD n m j' e d':=by
 refine⟨λc a r f=>by rw[p c a r f];exact h.cl c a r f,by rw[p 0 e ⟨by omega,q0c hm⟩ hj.ce];exact h.em,λa i b k f l g o=>?_⟩;rw[q a b f g,p _ _ (QJ hm)<|hj.cl a b f g,p i a l f,p k b o g,q _ _ (h.cl i a l f)<|h.cl k b o g];exact h.dn a i b k f l g o
def jS(n:Nat)(a b:Int):Int:=(a+b)%n
def jM(a b:Int):Int:=if b > a then b else a
def jL(a b:Int):Int:=if b=0 then a else b
def fw{n:Nat}(hn:0<n):LJ n (jS n) 0:=by
 refine⟨λa b _ _=>QJ hn,⟨by omega,q0c hn⟩,λa d=>?_,λa d=>?_,λa b c _ _ _=>?_⟩
 . unfold jS;rw[Int.zero_add,Int.emod_eq_of_lt d.1 d.2]
 . unfold jS;rw[Int.add_zero,Int.emod_eq_of_lt d.1 d.2]
 . unfold jS;rw[Int.emod_add_emod,Int.add_emod_emod,Int.add_assoc]
def d9{n:Nat}(hn:0<n):LJ n jM 0:=by
 refine⟨λa b d e=>?_,⟨by omega,q0c hn⟩,λa d=>?_,λa d=>?_,λa b c _ _ _=>?_⟩<;>unfold jM<;>(try unfold jM)<;>grind
def da{n:Nat}(hn:0<n):LJ n jL 0:=by
 refine⟨λa b d e=>?_,⟨by omega,q0c hn⟩,λa d=>?_,λa d=>?_,λa b c _ _ _=>?_⟩<;>unfold jL<;>grind
def four{P:Int->Prop}(h0:P 0)(h1:P 1)(h2:P 2)(h3:P 3)(h:zO 4 a):P a:=by
 rcases(show a=0\/a=1\/a=2\/a=3 by have:=h.1;have:=h.2;omega)with rfl|rfl|rfl|rfl<;>assumption
def f4{P:Int->Prop}(h:∀a ∈ ([0,1,2,3]:List Int),P a){a:Int}(ha:zO 4 a):P a:=four (h 0<|by decide) (h 1<|by decide) (h 2<|by decide) (h 3<|by decide) ha
def d6{n m:Nat}{g x0 x1:Int}(hn:0<n)(hm:0<m)(g0:0<g)(gn:g ∣ n)(gm:g ∣ m):LD n m (jS n) 0 (λc a=>(a*x0+c*((n:Int)/g)*x1)%n):=by
 refine⟨λc a _ _=>QJ hn,by simp,λa i b k _ _ _ _=>?_⟩;obtain⟨t,e⟩:=gm;have h:(m:Int)*((n:Int)/g)=n*t:=by
  obtain⟨s,f⟩:=gn;rw[f,Int.mul_ediv_cancel_left _<|q1u g0,e];grind
 unfold jS;rw[<-Int.add_emod];generalize n/g=d at h;rw[Int.emod_def (i+k) m,Int.emod_def (a+b) n];generalize (i+k)/m=q;generalize (a+b)/n=p;rw[show _*x0+_*d*x1=(a*x0+i*d*x1+(b*x0+k*d*x1))+n*(-(p*x0)-t*q*x1) by grind,Int.add_mul_emod_self_left]
def dh{n m:Nat}{r:Int->Int}(hm:0<m)(h0:r 0=0)(hc:∀a,zO n a->zO n (r a))(hr:∀a b,zO n a->zO n b->a<=b->r a<=r b):LD n m jM 0 (λ_ a=>r a):=by
 refine⟨λc a _ d=>hc a d,h0,λa i b k d _ e _=>?_⟩;unfold jM;have f:=hr a b d e;have g:=hr b a e d
 split<;>split<;>grind
def dY{n m:Nat}{r:Int->Int}(h0:r 0=0)(hc:∀a,zO n a->zO n (r a))(hr:∀a,zO n a->a≠0->r a≠0):LD n m jL 0 (λ_ a=>r a):=by
 refine⟨λc a _ d=>hc a d,h0,λa i b k d _ e _=>?_⟩;unfold jL;have f:=hr b e
 split<;>split<;>grind
def oA{n1 n2:Nat}(hx:zO n1 x)(hy:zO n2 y):zO (n1*n2) (x*n2+y):=by
 have b:0<=x*n2:=Int.mul_nonneg hx.1<|q0a;have a:x*n2<=(n1-1)*n2:=Int.mul_le_mul_of_nonneg_right (by have:=hx.2;omega)<|q0a;rw[Int.sub_mul,Int.one_mul]at a;refine⟨by have:=hy.1;omega, ?_⟩;rw[zzV];have:=hy.2;omega
def yc{n1 n2:Nat}(h2:0<n2)(h:zO (n1*n2) p):zO n1 (p/n2)/\zO n2 (p%n2):=
 ⟨⟨Int.ediv_nonneg h.1 (by omega),Int.ediv_lt_of_lt_mul (q0c h2)<|by have:=h.2;rw[zzV]at this;exact this⟩,QJ h2⟩
def QK{n2:Nat}(hy:zO n2 y):(x*n2+y)/n2=x/\(x*n2+y)%n2=y:=by
 have a:(n2:Int)≠0:=by have:=hy.1;have:=hy.2;omega
 constructor
 . rw[Int.add_comm,Int.add_mul_ediv_right _ _ a,Int.ediv_eq_zero_of_lt hy.1 hy.2,Int.zero_add]
 . rw[Int.add_comm,Int.add_mul_emod_self_right,Int.emod_eq_of_lt hy.1 hy.2]
def kL{n2:Nat}{p:Int}:(p/n2)*n2+p%n2=p:=by rw[Int.mul_comm];exact Int.mul_ediv_add_emod p n2
def jB(n2:Nat)(j1 j2:Int->Int->Int)(p q:Int):Int:=j1 (p/n2) (q/n2)*n2+j2 (p%n2) (q%n2)
def dB(n2:Nat)(d1 d2:Int->Int->Int)(c p:Int):Int:=d1 c (p/n2)*n2+d2 c (p%n2)
def pR{n k:Nat}(h:n<=8)(hk:8<=k:=by decide):n<=k:=zzO h hk
def pG{n:Nat}(h:1<=n):(0:Int)<n:=Int.natCast_pos.mpr h
def tS{a:Int}{n:Nat}(h0:0<=a)(h1:a<n):a.toNat<n:=Int.ofNat_lt.mp (by rw[zyY h0];exact h1)
def mU{n:Nat}(h:n<=8)(hk:8<k:=by decide):(n:Int)<k:=Int.lt_of_le_of_lt (Int.ofNat_le.mpr h) hk
def iT{n:Nat}(h:zO n x):x.toNat<n:=Int.ofNat_lt.mp (by rw[zyY h.1];exact h.2)
def iC{n:Nat}(h:zO n x):((x.toNat:Nat):Int)=x:=zyY h.1
noncomputable def Zd(r:List Int)(v:Int):Int:=(r[v.toNat]?).getD 0
def ym(J:List (List Int))(w v:Int):Int:=Zd ((J[w.toNat]?).getD []) v
def HK(J:List (List Int))(e:Int):List Int->Int
 | []=>e
 |x::t=>t.foldl (ym J) x
section
variable{n m:Nat}{J T:List (List Int)}{e:Int}
theorem BX(h:LJ n (ym J) e):∀(t:List Int) (w:Int),zO n w->(∀x ∈ t,zO n x)->zO n (t.foldl (ym J) w)
 | [],w,a,_=>a
 |v::t,w,a,k=>BX h t _ (h.cl w v a<|k v<|zzF ..) λx m=>k x<|zzD _ m
def Xh(h:LJ n (ym J) e)(k:∀x ∈ r,zO n x):zO n (HK J e r):=by
 cases r with
 |nil=>exact h.ce
 |cons x t=>exact BX h t x (k x<|zzF ..) λy m=>k y<|zzD _ m
theorem U1(h:LJ n (ym J) e):∀(t:List Int) (w:Int),zO n w->(∀x ∈ t,zO n x)->t.foldl (ym J) w=ym J w (HK J e t)
 | [],w,a,_=>(h.ur w a).symm
 |x::t,w,a,k=>by
  have b:=k x<|zzF ..;have c:=λy m=>k y<|zzD _ m;show t.foldl _ _=ym J w (t.foldl _ x);rw[U1 h t _ (h.cl w x a b) c,U1 h t x b c,h.as _ _ _ a b<|Xh h c]
def J_(h:LJ n (ym J) e)(k:∀x ∈ l,zO n x)(k':∀x ∈ l',zO n x):HK J e (l++l')=ym J (HK J e l) (HK J e l'):=by
 cases l with
 |nil=>exact(h.ul _<|Xh h k').symm
 |cons x t=>
  show(t++l').foldl _ x=_;rw[List.foldl_append];exact U1 h l' _ (Xh h k) k'
theorem EA(hm:0<m)(h:LJ n (ym J) e)(d:LD n m (ym J) e (ym T)):∀r:List Int,(∀x ∈ r,zO n x)->HK J e (r.map<|ym T<|1%(m:Int))=ym T ((r.length:Int)%m) (HK J e r)
 | [],_=>by
  show e=ym T ((0:Int)%m) e;rw[Int.zero_emod,d.em]
 |x::t,k=>by
  have b:=k x<|zzF ..;have a:=λy m=>k y<|zzD _ m;have c:zO m (1%m):=QJ hm;have f:∀y ∈ t.map (ym T<|1%m),zO n y:=λy g=>by
   obtain⟨z,i,rfl⟩:=zxD.mp g;exact d.cl _ _ c<|a z i
  have j:HK J e (x::t)=ym J x _:=U1 h t x b a;have l:HK J e ((x::t).map _)=ym J _ _:=U1 h _ _ (d.cl _ _ c b) f;rw[l,EA hm h d t a,j,<-d.dn _ _ _ _ b c (Xh h a) (QJ hm),<-Int.add_emod,zzT,Int.natCast_add,Int.add_comm t.length];rfl
end
local macro_rules | `(tactic| trivial)=>`(tactic| first|with_reducible first|assumption|exact Int.natCast_nonneg _|exact Nat.le_refl _|exact Int.le_refl _|exact rfl|exact pR (by assumption)|exact pG (by assumption)|exact np2 (by assumption)|exact nq1 (by assumption)|exact nq2 (by assumption)|exact Int.natCast_pos.mpr (by assumption)|exact Nat.le_trans (by assumption) (by decide)|exact bgL _|exact bgU (by assumption)|exact mU (by assumption)|exact zI _|exact bL0 (by assumption)|exact bU0 (by assumption) (by assumption)|exact iL (by assumption)|exact iU (by assumption) (by assumption)|exact iC (by assumption)|exact iT (by assumption)|exact stL (by assumption)|exact stU (by assumption)|exact lnK (by assumption) (by assumption) (by assumption)|exact zi1 _|exact lnE (by assumption)|exact ltL (by assumption)|exact Int.toNat_of_nonneg (by assumption)|exact tS (by assumption) (by assumption)|exact b6 (by assumption)|exact Int.emod_nonneg _ (by decide)|exact Int.emod_lt_of_pos _ (by decide)|decide|omega)
noncomputable abbrev Fm(x:Int):O:=.lf true<|.int x
abbrev sI(x:Int):Option O:=some<|Fm x
noncomputable abbrev sT(d:D):Option O:=some<|.lf true d
abbrev sN(os:List O):Option O:=some<|.nd .ls os
abbrev TZ:Type:=List<|List Int
abbrev DD:Type:=List<|Str×TZ
abbrev SS:Type:=List<|Str×List Int
def GO{f as as1 o}(h:f as=some (.ow o,as1))(hs:o.str=true):zw f as=some (.rt o):=by
 unfold zw;rw[h];show((if o.str=true then some o else none).bind _)=_;rw[if_pos hs];rfl
theorem Zz:∀xs:List Int,(xs.map Fm).all O.isLf=true/\O.strs (xs.map Fm)=true/\O.toDs (xs.map Fm)=xs.map D.int
 | []=>⟨rfl,rfl,rfl⟩
 |x::r=>⟨(Zz r).1,(Zz r).2.1,congrArg _ (Zz r).2.2⟩
def F_(ys)(w):(ys++[w]).map Fm=ys.map Fm++[O.lf true<|.int w]:=by rw[zyM];rfl
def XO(xs:List Int):(O.nd .ls<|xs.map Fm).str=true/\(O.nd .ls<|xs.map Fm).toD = .lst (xs.map D.int):=⟨(Zz xs).2.1,congrArg D.lst (Zz xs).2.2⟩
abbrev xN(r:List Int):O:=.nd .ls<|r.map Fm
noncomputable abbrev zk(r:List Int):D:=.lst<|r.map D.int
def FN{g fe as0 as1 y r o os}(h1:g y as0=some as1)(h2:fe as1=some (.ow o,as1))(hs:o.str=true)(h3:xF g yx fe as0 r=some os):xF g yx fe as0 (y::r)=some (o::os):=by
 unfold xF;rw[h1];show((fe as1).bind _)=_;rw[h2];show(if o.str=true then _ else _)=_;rw[if_pos hs,h3];rfl
theorem yY:∀(n:Nat) (k:Int),(y4 k n).length=n
 |0,_=>rfl
 |n+1,k=>by rw[N6];exact congrArg (· + 1)<|yY n<|k+1
def Jp{f as x}(h:WE f as x):∃o,zw f as=some (.rt o)/\o.str=true/\o.toD=x:=by
 obtain⟨o,b,a,c⟩:=h;exact⟨o,GO b a,a,c⟩
theorem GV:∀{n:Nat}{k:Int}{y:wK},y ∈ y4 k n->∃b:Int,y=(true,.int b)/\k<=b/\b<k+n
 |0,_,_,h=>nomatch h
 |n+1,k,y,h=>by
  rw[N6]at h
  rcases zzC.mp h with rfl|h
  . exact⟨k,rfl,by trivial,by trivial⟩
  . obtain⟨b,e,a,c⟩:=GV h;exact⟨b,e,by trivial,by trivial⟩
theorem MJ{α:Type}(toD){Q:α->Prop}{g fe as0}:∀{xs:List wK},(∀y ∈ xs,∃as1 a,g y as0=some as1/\WE fe as1 (toD a)/\Q a)->∃(os:List O) (l:List α),xF g yx fe as0 xs=some os/\O.strs os=true/\O.toDs os=l.map toD/\l.length=xs.length/\∀a ∈ l,Q a
 | [],_=>⟨[],[],rfl,rfl,rfl,rfl,λ_ m=>nomatch m⟩
 |y::e,H=>by
  obtain⟨f,a,h,⟨o,i,d,j⟩,k⟩:=H y<|zzF ..;obtain⟨c,l,n,p,q,r,s⟩:=MJ toD λz m=>H z<|zzD _ m;refine⟨o::c,a::l,FN h i d n,by show(o.str&&O.strs c)=true;rw[d,p];rfl,by show o.toD::O.toDs c=_;rw[j,q];rfl,congrArg (· + 1) r,λb m=>?_⟩
  rcases zzC.mp m with rfl|m
  . exact k
  . exact s b m
def DC{α:Type}(toD:α->D){Q:α->Prop}{fi cap g fe as xs}(h1:fi as=some (xs,as))(hl:xs.length<=1000)(H:∀y ∈ xs,∃as1 a,g y (Z6 cap as)=some as1/\WE fe as1 (toD a)/\Q a):
 ∃l:List α,l.length=xs.length/\(∀a ∈ l,Q a)/\WE (zS fi cap g yx fe) as (.lst<|l.map toD):=by
 obtain⟨h,l,b,c,d,e,f⟩:=MJ toD H;exact⟨l,e,f,_,Rn h1 (OP<|by trivial) b,c,congrArg D.lst d⟩
def qT{α:Type}(toD:α->D){Q:α->Prop}{fr cap fe as}{n:Nat}{u}(h1:WA fr as [(u,.int n)])(hl:n<=1000)(H:∀b:Int,0<=b->b<n->∃as1 a,gN 0 (true,.int b) (Z6 cap as)=some as1/\WE fe as1 (toD a)/\Q a):
 ∃l:List α,l.length=n/\(∀a ∈ l,Q a)/\WE (zS (yB fr yO) cap (gN 0) yx fe) as (.lst<|l.map toD):=by
 obtain⟨l,c,d,e⟩:=DC toD (xf h1 (by trivial)<|by trivial) (by rw[yY];trivial) (λy m=>by
  obtain⟨b,rfl,f,h⟩:=GV m;exact H b f<|by trivial)
 rw[yY]at c;exact⟨l,by trivial,d,e⟩
def Row(n:Nat)(r:List Int):Prop:=r.length=n/\∀x ∈ r,0<=x/\x<(n:Int)
def Tab(k n:Nat)(T:TZ):Prop:=T.length=k/\∀r ∈ T,Row n r
abbrev xp(T:TZ):D:=.lst<|T.map zk
def A3{r}{P:Int->Prop}{k}(h0:0<=k)(h1:k<r.length)(hp:∀x ∈ r,P x):∃x,zx (zk r) (.int k)=some (.im<|.int x)/\P x:=by
 have a:k.toNat<r.length:=by trivial
 refine⟨r[k.toNat], ?_,hp _<|zyZ a⟩;have h:=RW (xs:=r.map D.int) (by rw[zzI,zzE a];rfl);rw[show(k.toNat:Int)=k by trivial]at h;show Ji _=_;rw[h];rfl
def qB{α:Type}(toD){T:List α}{P:α->Prop}{k:Int}(h0:0<=k)(h1:k<T.length)(hp:∀r ∈ T,P r):∃r,zx (.lst<|T.map toD) (.int k)=some (.im<|toD r)/\P r:=by
 have a:k.toNat<T.length:=by trivial
 refine⟨T[k.toNat], ?_,hp _<|zyZ a⟩;have h:=RW (xs:=T.map toD) (by rw[zzI,zzE a];rfl);rw[show(k.toNat:Int)=k by trivial]at h;show Ji _=_;rw[h];rfl
def Xu{α:Type}{f}{l:List α}{i:Nat}{p}(h:l[i]? = some p):zx (.lst<|l.map f) (.int (i:Int))=some (.im<|f p):=by
 have h:=RW (v:=f p) (by rw[zzI,h];rfl);show Ji _=_;rw[h];rfl
def p9{n k:Nat}{r}{v:Int}(hl:r.length=k)(hr:∀x ∈ r,zO n x)(hv:zO k v):zx (zk r) (.int v)=some (.im<|.int<|Zd r v)/\zO n (Zd r v):=by
 have a:v.toNat<r.length:=by rw[hl];have:=hv.1;have:=hv.2;trivial
 have g:=zzE a;have e:Zd r v=r[v.toNat]:=by unfold Zd;rw[g];rfl
 rw[e];refine⟨?_,hr _<|zyZ a⟩;have:=Xu (f:=D.int) g;rw[show(v.toNat:Int)=v by have:=hv.1;trivial]at this;exact this
abbrev GG(T:TZ)(w:Int):List Int:=(T[w.toNat]?).getD []
def vG{k n:Nat}{T}{w:Int}(hT:Tab k n T)(hw:zO k w):zx (xp T) (.int w)=some (.im<|zk<|GG T w)/\Row n (GG T w):=by
 have a:w.toNat<T.length:=by rw[hT.1];have:=hw.1;have:=hw.2;trivial
 have g:=zzE a;unfold GG;rw[g];refine⟨?_,hT.2 _<|zyZ a⟩;have:=Xu (f:=zk) g;rw[show(w.toNat:Int)=w by have:=hw.1;trivial]at this;exact this
def rowAt{n:Nat}{r v}(hr:Row n r)(hv:zO n v):zx (zk r) (.int v)=some (.im<|.int<|Zd r v)/\zO n (Zd r v):=p9 hr.1 hr.2 hv
theorem strs_snoc:∀(os:List O) (o:O),O.strs os=true->o.str=true->O.strs (os++[o])=true
 | [],o,_,h=>by show(o.str&&true)=true;rw[h];rfl
 |p::r,o,h,a=>by
  have h:=(zyC _ _).mp<|h;show(p.str&&O.strs (r++[o]))=_;rw[h.1,strs_snoc r o h.2 a];rfl
theorem NX:∀(os:List O) (o:O),O.toDs (os++[o])=O.toDs os++[o.toD]
 | [],o=>rfl
 |p::r,o=>congrArg _<|NX r o
structure Ows{α:Type}(toD:α->D)(Q:α->Prop)(os:List O)(l:List α):Prop where
 st:O.strs os=true
 ds:O.toDs os=l.map toD
 al:∀a ∈ l,Q a
 ln:os.length=l.length
def Ows.nil{α:Type}{toD}{Q:α->Prop}:Ows toD Q [] []:=⟨rfl,rfl,(λ_ m=>nomatch m),rfl⟩
def Ows.snoc{α:Type}{toD Q os l o}{a:α}(h:Ows toD Q os l)(h1:o.str=true)(h2:o.toD=toD a)(h3:Q a):Ows toD Q (os++[o]) (l++[a]):=
 ⟨strs_snoc os o h.st h1,(by rw[NX,h.ds,h2,zyM];rfl),(λb m=>(zzM.mp m).elim (h.al b) λm=>(by rw[zzR.mp m];exact h3)),(by rw[zzJ,zzJ,h.ln];rfl)⟩
def UL{as as1 a}{i:Nat}{os0 os o}(h:as[i]? = some (sN os0))(ha:a as=some (.ow o,as1))(h1:as1[i]? = some (sN os))(hl:os.length<sizeLine):yq (vX i (dC a dN) vM) as=some (.nx<|as1.set i<|sN<|os++[o]):=by
 unfold yq vX;rw[h];have e:dC a dN as=some _:=xW ha rfl;rw[e];show(Option.bind (match as1[i]? with|some (some<|.nd .ls os)=>_|_=>none) _)=_;rw[h1];show((vM os [o]).bind _).bind _=_;have e2:vM os [o]=some (os++[o],.lf true .non):=by unfold vM;exact if_pos hl
 rw[e2];rfl
def IH{α:Type}{toD Q as a}{i:Nat}{os l}{x:α}(h:as[i]? = some (sN os))(ho:Ows toD Q os l)(hl:l.length<1000)(ha:WE a as (toD x))(hx:Q x):
 ∃os',Ows toD Q os' (l++[x])/\yq (vX i (dC a dN) vM) as=some (.nx<|as.set i<|sN os'):=by
 obtain⟨o,b,c,d⟩:=ha;exact⟨os++[o],ho.snoc c d hx,UL h b h<|by rw[ho.ln];exact Pe<|by trivial⟩
def Ows.retB{α:Type}{toD Q as}{i:Nat}{os}{l:List α}(h:as[i]? = some (sN os))(ho:Ows toD Q os l):Rt (zw (fV i) as) (.lst<|l.map toD):=
 ⟨_,Qy h ho.st,ho.st,congrArg D.lst ho.ds⟩
structure OwsX{α:Type}(toD:α->D)(Q:Nat->α->Prop)(os:List O)(l:List α):Prop where
 st:O.strs os=true
 ds:O.toDs os=l.map toD
 al:∀i a,l[i]? = some a->Q i a
 ln:os.length=l.length
def ko{fr as rs g zs}(ha:WA fr as rs)(hg:g (rs.map (·.2))=some (.fl zs)):fP fr g as=some (.ow (.nd .ls (zs.map (OI (rs.all (·.1))))),as):=by
 unfold fP;unfold WA at ha;rw[ha];show(views as _).bind _=_;rw[YG];show(g _).bind _=_;rw[hg];show(if _=true then _ else _:Option RV).bind _=_;rw[if_pos<|by simp];rfl
def lP{a as s r}(h:WD a as s (zk r)):fP (aC a aN) lstP as=some (.ow<|xN r,as):=by
 have:=ko (g:=lstP) (zj h<|zr) rfl;rw[zyB]at this;exact this
def KA{a as s r}(h:WD a as s (zk r)):WE (fP (aC a aN) lstP) as (zk r):=⟨_,lP h,(XO r).1,(XO r).2⟩
def ue{fr as os x}(h:WO fr as os)(hl:os.length<=sizeLine)(hs:O.strs os=true)(e:D.tup (O.toDs os)=x):WE (yd fr) as x:=by
 refine⟨_,Ju h hl, ?_, ?_⟩
 . unfold Q3
   split
   . exact hs
   . exact hs
 . unfold Q3
   split
   . exact e
   . exact e
def RN{r a}(h:a.toNat<r.length):Zd r a=r[a.toNat]:=by unfold Zd;rw[zzE h];rfl
theorem Ows.frz{α:Type}{toD:α->D}{Q:α->Prop}{os:List O}{l:List α}(h:Ows toD Q os l):(O.nd .ls os).frz = .lf true (.lst<|l.map toD):=by
 show O.lf (O.strs os) (.lst _)=_;rw[h.st,h.ds]
def K_{as as2}{j:Nat}{ps fr os}(hj:as[j]? = some (sN ps))(hr:fr (as.set j<|some (O.nd .ls ps).frz)=some (os,as2)):dC (fV j) fr as=some ((O.nd .ls ps).frz::os,as2):=by
 unfold dC;rw[FK hj];show((t7 as _).bind _)=_;rw[qR hj];show(fr _).bind _=_;rw[hr];rfl
def Oe{as as1 fr os}(h:fr as=some (os,as1))(hl:os.length<=sizeLine):yd fr as=some (.ow<|Q3 os,as1):=by
 unfold yd;rw[h];show(if os.length<=sizeLine then _ else _)=_;rw[if_pos hl]
def Ic{f as ds}(h:WE f as (.lst ds)):YU f as=some (ds.map λd=>(true,d),as):=by
 obtain⟨o,h1,h2,h3⟩:=h;unfold YU;rw[h1];have e:X_ as (.ow o)=some _:=rfl;show(X_ as<|RV.ow o).bind (λq=>(Rj q.1).bind λds=>some (ds,q.2))=_;rw[e,h2,h3];show some _=_;rw[X0]
abbrev Gz(n:Nat):List Int:=(List.range n).map λ(i:Nat)=>(i:Int)
abbrev Lk(p:Str×List Int):D:=.tup [.str p.1,zk p.2]
def mQ{x y c}:zx (.lst [.int x,.int y]) (.int (if c=true then 1 else 0))=some (.im<|.int (if c=true then y else x)):=by cases c<;>rfl
abbrev Dh:Str:="abcdefghijklmnopqrstuvwxyz"
def uc:∀k,k<26->Dh.cps.toList[k]? = some (97+k):=by decide +kernel
def qp{i}(h0:0<=i)(h1:i<26):zx (.str Dh) (.int i)=some (.im<|.str ⟨#[97+i.toNat]⟩):=by
 show(if Dh.length<=sizeLine then(atI Dh.cps.toList i).bind _ else none)=_;rw[if_pos (show Dh.length<=sizeLine by decide +kernel)];have:=RW (uc i.toNat<|by trivial);rw[show(i.toNat:Int)=i by trivial]at this;rw[this];rfl
def xQ{F}{n:Nat}(h:F.Perm (Gz n)):Row n F/\∀b:Int,0<=b->b<n->b ∈ F:=by
 refine⟨⟨by rw[h.length_eq,zzB,zyU],λx m=>?_⟩,λb c d=>h.mem_iff.mpr ?_⟩
 . obtain⟨i,a,rfl⟩:=zxD.mp<|h.mem_iff.mp m;have:=List.mem_range.mp a;trivial
 . exact zxD.mpr ⟨b.toNat,List.mem_range.mpr (by trivial),by trivial⟩
def Jr{F}{n:Nat}(h:F.Perm (Gz n)){v w}(hv:zO n v)(hw:zO n w)(e:Zd F v=Zd F w):v=w:=by
 have a:=(xQ h).1.1;have b:=hv.1;have c:=hv.2;have d:=hw.1;have f:=hw.2;have nd:F.Nodup:=by
  refine h.nodup_iff.mpr (List.pairwise_map.mpr<|List.nodup_range.imp λz q=>z<|by trivial)
 rw[RN (by trivial),RN<|by trivial]at e;have:=(List.getElem_inj nd).mp e;trivial
def SD{f g as as' x}(h:WE f as x)(hg:g (true,x) as=some as'):Vu f g as=some (.nx as'):=by
 obtain⟨o,a,b,c⟩:=h;exact SK a (by rw[b,c];exact hg)
abbrev wb(p:Str×TZ):D:=.tup [.str p.1,xp p.2]
structure Alg(n m:Nat)(J:TZ)(e:Int)(Ds:DD):Prop where
 n1:1<=n
 n8:n<=8
 m1:1<=m
 m6:m<=6
 j:Tab n n J
 e0:0<=e
 en:e<n
 dl:Ds.length<=6
 ds:∀p ∈ Ds,Tab m n p.2
 nd:(Ds.map (·.1)).Nodup
structure LawA(n m:Nat)(J:TZ)(e:Int)(Ds:DD):Prop where
 lj:LJ n (ym J) e
 ld:∀p ∈ Ds,LD n m (ym J) e<|ym p.2
abbrev vZ(n m:Nat)(J:TZ)(e:Int)(Ds:DD)(S:SS):D:=.tup [.int n,.int m,xp J,.int e,.lst<|Ds.map wb,.lst<|S.map Lk]
def Sg{f as k}(h:WD f as true (.int k)):oS f as=some (some k,as):=by
 unfold oS;unfold WD at h;rw[h];rfl
abbrev Hc(T:TZ):O:=.nd .ls<|T.map xN
def Po{n:Nat}{J w v}(hJ:Tab n n J)(hw:zO n w)(hv:zO n v):zO n (ym J w v):=(rowAt (vG hJ hw).2 hv).2
def vJ{a b c as}{n:Nat}{J w v}(hJ:Tab n n J)(hw:zO n w)(hv:zO n v)(ha:WD a as true (xp J))(hb:WD b as true (.int w))(hc:WD c as true (.int v)):WD (f2 (f2 a b zx) c zx) as true (.int<|ym J w v):=
 zB (yE ha hb (vG hJ hw).1) hc (rowAt (vG hJ hw).2 hv).1 rfl
def mE{fr as rs g kvs}(ha:WA fr as rs)(hg:g (rs.map (·.2))=some (.fd kvs)):fP fr g as=some (.ow (.nd (.dc (kvs.map (·.1))) ((kvs.map (·.2)).map (OI (rs.all (·.1))))),as):=by
 unfold fP;unfold WA at ha;rw[ha];show(views as _).bind _=_;rw[YG];show(g _).bind _=_;rw[hg];show(if _=true then _ else _:Option RV).bind _=_;rw[if_pos<|by simp];rfl
abbrev RT(o:O):Prop:=o.str=true/\∃ds,o.toD = .tup ds
theorem HD(I:AS->Prop)(P:wK->Prop):∀(xs:List wK) (as:AS),(∀x ∈ xs,∀as,I as->∃as1,g x as=some as1/\((∃as2,f as1=some (.nx as2)/\I as2/\P x)\/∃o,f as1=some (.rt o)/\RT o/\¬P x))->I as->
 (∃as',forL g f xs as=some (.nx as')/\I as'/\∀x ∈ xs,P x)\/∃o,forL g f xs as=some (.rt o)/\RT o/\¬ ∀x ∈ xs,P x
 | [],as,_,h=>.inl ⟨as,rfl,h,λ_ m=>nomatch m⟩
 |x::r,as,H,h=>by
  obtain⟨n,b,a⟩:=H x (zzF ..) as h
  rcases a with⟨c,a,d,e⟩|⟨o,a,d,e⟩
  . rcases HD I P r c (λy m=>H y<|zzD _ m) d with⟨i,j,k,l⟩|⟨o,j,k,l⟩
    . refine .inl ⟨i,xZ b a j,k,λy m=>?_⟩
      rcases zzC.mp m with rfl|m
      . exact e
      . exact l y m
    . exact .inr ⟨o,xZ b a j,k,λz=>l λy m=>z y<|zzD _ m⟩
  . exact .inr ⟨o,A5 b a,d,λz=>e<|z x<|zzF ..⟩
abbrev T4(r:Option Out)(I:AS->Prop)(P:Prop):Prop:=(∃as',r=some (.nx as')/\I as'/\P)\/∃o,r=some (.rt o)/\RT o/\¬P
def T4.imp{P Q:Prop}(h:T4 r I P)(k:P ↔ Q):T4 r I Q:=by
 rcases h with⟨a,b,c,d⟩|⟨a,b,c,d⟩
 . exact .inl ⟨a,b,c,k.mp d⟩
 . exact .inr ⟨a,b,c,λz=>d<|k.mpr z⟩
def Qb{v n:Nat}{f fr:SF}(I)(P:Int->Prop)(H:∀b,zO n b->∀as,I as->∃as1,gN v (true,.int b) as=some as1/\T4 (f as1) I (P b)){as:AS}(h:I as):T4 (forL (gN v) f (y4 0 n) as) I (∀b,zO n b->P b):=by
 have k:=HD I (λx=>∀b,x=(true,.int b)->P b) (y4 0 n) as (λx m as j=>by
  obtain⟨b,rfl,l,u⟩:=GV m;obtain⟨a,o,q⟩:=H b ⟨l,by trivial⟩ as j;exact⟨a,o,q.imp ⟨λp c e=>by cases e;exact p,λp=>p b rfl⟩⟩) h
 refine T4.imp k ⟨λp b d=>p _ ?_ b rfl,λp x m b e=>?_⟩
 . have r:=d.1;have s:=d.2;refine zyA (i:=b.toNat) ?_;unfold y4;rw[zzI,List.getElem?_range<|by trivial];show some (true,D.int _)=_;rw[show 0+b.toNat=b by trivial]
 . subst e;obtain⟨c,e,t,w⟩:=GV m;cases e;exact p b ⟨t,by trivial⟩
def Wf{v n:Nat}(h:as[v]? = some (some<|.lf s<|.int n))(hn:n<=1000):yJ (yB (aC (fV v) aN) yO) g f as=forL g f (y4 0 n) as:=
 yn (xf (zj (za h) zr) (by trivial)<|by trivial) (by rw[zyI])
def Hi{P:Prop}(ht:WT c as q)(hq:q=true ↔ ¬P)(hf:WE f as (.tup ds))(hI:I as):T4 (yR c (zw f) yM as) I P:=by
 cases q with
 |false=>exact .inl ⟨as,zq ht rfl,hI,Classical.byContradiction λz=>nomatch hq.mpr z⟩
 |true=>
  obtain⟨o,a,b,d⟩:=Jp hf;exact .inr ⟨o,y6 ht a,⟨b,ds,d⟩,hq.mp rfl⟩
def IC(ha:WD a as s (.int x))(hb:WD b as t (.int y)):WT (fT<|f2 a b<|zy .NotEq) as (!(x==y)):=yf (Ov ha hb rfl) rfl
def Oh{x y:Int}:(!(x==y))=true ↔ ¬x=y:=by simp
abbrev jJ(n:Nat)(J:TZ)(e:Int):Prop:=∀a,zO n a->ym J e a=a/\ym J a e=a
abbrev As(n:Nat)(J:TZ):Prop:=∀a,zO n a->∀b,zO n b->∀c,zO n c->ym J (ym J a b) c=ym J a (ym J b c)
section
variable{S:Option O->Option O->Option O->AS}{vj vn ve:Nat}{J:TZ}{n:Nat}{e:Int}
def rV{x y z:Option O}(hJ:Tab n n J)(he:zO n e)(hj:∀x y z,(S x y z)[vj]? = some (sT<|xp J))(hv:∀x y z,(S x y z)[ve]? = some (sI e))(h3:∀x y z,(S x y z)[3]? = some x)(g3:∀d x y z,gN 3 (true,d) (S x y z)=some (S (sT d) y z)):
 T4 (forL (gN 3) (yR (Fs (fT<|f2 (f2 (f2 (fV vj) (fV ve) zx) (fV 3) zx) (fV 3)<|zy .NotEq)<|fT<|f2 (f2 (f2 (fV vj) (fV 3) zx) (fV ve) zx) (fV 3)<|zy .NotEq) (zw<|yd<|dC (fC<|.str "nothing")<|dC (fV 3) dN) yM) (y4 0 n)<|S x y z) (λas=>∃x,as=S x y z) (jJ n J e):=by
 refine Qb (fr:=yM) (λas=>∃x,as=S x y z) (λa=>ym J e a=a/\ym J a e=a) (λa c as f=>?_) ⟨x,rfl⟩;obtain⟨x,rfl⟩:=f;have b:WD (fV 3) (S (sI a) y z) true (.int a):=za<|h3 _ _ _;have g:=IC (vJ hJ he c (za<|hj (sI a) y z) (za<|hv (sI a) y z) b) b;have i:=IC (vJ hJ c he (za<|hj (sI a) y z) b<|za<|hv (sI a) y z) b;refine⟨S (sI a) y z,g3 _ _ _ _,Hi (q:=!(ym J e a==a) || !(ym J a e==a)) (AX g (λh=>by rw[h,Bool.false_or];exact i) λh=>by rw[h];rfl) (by simp;grind) (ue (zu zb<|zu b yi) (VI rfl) rfl rfl) ⟨_,rfl⟩⟩
abbrev mS(vj vn:Nat):SF:=yJ (yB (aC (fV vn) aN) yO) (gN 4)<|yJ (yB (aC (fV vn) aN) yO) (gN 5)<|yR (fT<|f2 (f2 (f2 (fV vj) (f2 (f2 (fV vj) (fV 3) zx) (fV 4) zx) zx) (fV 5) zx) (f2 (f2 (fV vj) (fV 3) zx) (f2 (f2 (fV vj) (fV 4) zx) (fV 5) zx) zx)<|zy .NotEq) (zw<|yd<|dC (fC<|.str "parting")<|dC (fV 3)<|dC (fV 4)<|dC (fV 5) dN) yM
def ua{x y z:Option O}(n8:n<=8)(hJ:Tab n n J)(hj:∀x y z,(S x y z)[vj]? = some (sT<|xp J))(hn:∀x y z,(S x y z)[vn]? = some (sI n))(h3:∀x y z,(S x y z)[3]? = some x)(h4:∀x y z,(S x y z)[4]? = some y)(h5:∀x y z,(S x y z)[5]? = some z)
 (g3:∀d x y z,gN 3 (true,d) (S x y z)=some (S (sT d) y z)) (g4:∀d x y z,gN 4 (true,d) (S x y z)=some (S x (sT d) z)) (g5:∀d x y z,gN 5 (true,d) (S x y z)=some (S x y<|sT d)):
 T4 (forL (gN 3) (mS vj vn) (y4 0 n)<|S x y z) (λas=>∃x y z,as=S x y z) (As n J):=by
 refine Qb (fr:=yM) (λas=>∃x y z,as=S x y z) (λa=>∀b,zO n b->∀c,zO n c->ym J (ym J a b) c=ym J a (ym J b c)) (λa i as e=>?_) ⟨x,y,z,rfl⟩;obtain⟨x,y,z,rfl⟩:=e;refine⟨_,g3 _ _ _ _, ?_⟩;unfold mS;rw[Wf (hn _ _ _)<|by trivial];have k:=Qb (fr:=yM) (f:=yJ _ (gN 5) _) (λas=>∃y z,as=S (sI a) y z) (λb=>∀c,zO n c->ym J (ym J a b) c=ym J a (ym J b c)) (λb g as e=>by
  obtain⟨y,z,rfl⟩:=e;refine⟨_,g4 _ _ _ _, ?_⟩;rw[Wf (hn _ _ _)<|by trivial];have k:=Qb (fr:=yM) (λas=>∃z,as=S (sI a) (sI b) z) (λc=>ym J (ym J a b) c=ym J a (ym J b c)) (λc j as e=>by
   obtain⟨z,rfl⟩:=e;have l:WD (fV 3) (S (sI a) (sI b)<|sI c) true (.int a):=za<|h3 _ _ _;have m:WD (fV 4) (S (sI a) (sI b)<|sI c) true (.int b):=za<|h4 _ _ _;have o:WD (fV 5) (S (sI a) (sI b)<|sI c) true (.int c):=za<|h5 _ _ _;have h:WD (fV vj) (S (sI a) (sI b)<|sI c) true (xp J):=za<|hj _ _ _;have s:=Po hJ i g;have bc:=Po hJ g j;exact⟨_,g5 _ _ _ _,Hi (ds:=[.str "parting",.int a,.int b,.int c]) (IC (vJ hJ s j h (vJ hJ i g h l m) o)<|vJ hJ i bc h l<|vJ hJ g j h m o) Oh (ue (zu zb<|zu l<|zu m<|zu o yi) (VI rfl) rfl rfl) ⟨_,rfl⟩⟩) ⟨z,rfl⟩
  rcases k with⟨p,q,⟨t,rfl⟩,r⟩|k
  . exact .inl ⟨_,q,⟨_,_,rfl⟩,r⟩
  . exact .inr k) ⟨y,z,rfl⟩
 rcases k with⟨p,q,⟨u,t,rfl⟩,r⟩|k
 . exact .inl ⟨_,q,⟨_,_,_,rfl⟩,r⟩
 . exact .inr k
end
abbrev C9(r:Option O)(P:Prop):Prop:=(RE r .non/\P)\/((∃ds,RE r<|.tup ds)/\¬P)
def Sf{n m:Nat}{P:Prop}(hl:ds.length=m)(h:(Rt (c<|Zh n ds) .non/\P)\/((∃es,Rt (c<|Zh n ds)<|.tup es)/\¬P)):C9 (xY n m c ds) P:=by
 rcases h with⟨h,p⟩|⟨⟨a,h⟩,p⟩
 . exact .inl ⟨zL hl h,p⟩
 . exact .inr ⟨⟨a,zL hl h⟩,p⟩
def Fj{P Q:Prop}(h:T4 (f as) I P)(k:∀as',I as'->P->(Rt (g as') .non/\Q)\/((∃es,Rt (g as')<|.tup es)/\¬Q)):(Rt (ze f g as) .non/\P/\Q)\/((∃es,Rt (ze f g as)<|.tup es)/\¬(P/\Q)):=by
 rcases h with⟨b,a,c,p⟩|⟨o,a,⟨c,d,i⟩,p⟩
 . rcases k b c p with⟨e,q⟩|⟨⟨d,e⟩,q⟩
   . exact .inl ⟨zc a e,p,q⟩
   . exact .inr ⟨⟨d,zc a e⟩,λz=>q z.2⟩
 . exact .inr ⟨⟨d,o,vV a,c,i⟩,λz=>p z.1⟩
def MY:(Rt (zw (fC .non) as) .non/\True)\/((∃es,Rt (zw (fC .non) as)<|.tup es)/\¬True):=.inl ⟨zA<|WD.e zb,trivial⟩
def C9.imp{P Q:Prop}(h:C9 r P)(k:P ↔ Q):C9 r Q:=by
 rcases h with⟨h,p⟩|⟨h,p⟩
 . exact .inl ⟨h,k.mp p⟩
 . exact .inr ⟨h,λz=>p<|k.mpr z⟩
section
variable{n m:Nat}{J T:TZ}{e:Int}{Ds:DD}{S:SS}
abbrev Dn(n m:Nat)(J T:TZ):Prop:=∀a,zO n a->∀i,zO m i->∀b,zO n b->∀k,zO m k->ym T ((i+k)%m) (ym J a b)=ym J (ym T i a) (ym T k b)
def Qg(hT:Tab m n T)(hw:zO m w)(hv:zO n v)(ha:WD a as true (xp T))(hb:WD b as true (.int w))(hc:WD c as true (.int v)):WD (f2 (f2 a b zx) c zx) as true (.int<|ym T w v)/\zO n (ym T w v):=
 ⟨zB (yE ha hb (vG hT hw).1) hc (rowAt (vG hT hw).2 hv).1 rfl,(rowAt (vG hT hw).2 hv).2⟩
abbrev gZ:SF:=(yR (fT<|f2 (f2 (f2 (fV 2) (f2 (f2 (fV 7) (fV 9)<|Yq .Add) (fV 4)<|Yq .Mod) zx) (f2 (f2 (fV 5) (fV 6) zx) (fV 8) zx) zx) (f2 (f2 (fV 5) (f2 (f2 (fV 2) (fV 7) zx) (fV 6) zx) zx) (f2 (f2 (fV 2) (fV 9) zx) (fV 8) zx) zx)<|zy .NotEq) (zw<|yd<|dC (fC<|.str "doing")<|dC (fV 1)<|dC (fV 6)<|dC (fV 7)<|dC (fV 8)<|dC (fV 9) dN) yM)
abbrev Fi(n m:Nat)(J T:TZ)(e:Int)(Ds:DD)(S:SS)(s:Str)(x y z w:Option O):AS:=[sT<|vZ n m J e Ds S,sT<|.str s,sT<|xp T,sI n,sI m,sT<|xp J,x,y,z,w]
def cA{a i b:Int}(hJ:Tab n n J)(hT:Tab m n T)(m1:1<=m)(ha:zO n a)(hi:zO m i)(hb:zO n b):T4 (forL (gN 9) gZ (y4 0 m)<|Fi n m J T e Ds S s (sI a) (sI i) (sI b) w) (λas=>∃w,as=Fi n m J T e Ds S s (sI a) (sI i) (sI b) w) (∀k,zO m k->ym T ((i+k)%m) (ym J a b)=ym J (ym T i a) (ym T k b)):=by
 refine Qb (fr:=yM) (λas=>∃w,as=Fi n m J T e Ds S s (sI a) (sI i) (sI b) w) (λk=>ym T _ _=ym J _ _) (λk l as o=>?_) ⟨w,rfl⟩;obtain⟨w,rfl⟩:=o;have c:WD (fV 2) (Fi n m J T e Ds S s (sI a) (sI i) (sI b)<|sI k) true (xp T):=za rfl;have j:WD (fV 5) (Fi n m J T e Ds S s (sI a) (sI i) (sI b)<|sI k) true (xp J):=za rfl;have d:WD (fV 6) (Fi n m J T e Ds S s (sI a) (sI i) (sI b)<|sI k) true (.int a):=za rfl;have f:WD (fV 7) (Fi n m J T e Ds S s (sI a) (sI i) (sI b)<|sI k) true (.int i):=za rfl;have g:WD (fV 8) (Fi n m J T e Ds S s (sI a) (sI i) (sI b)<|sI k) true (.int b):=za rfl;have h:WD (fV 9) (Fi n m J T e Ds S s (sI a) (sI i) (sI b)<|sI k) true (.int k):=za rfl;obtain⟨p,q⟩:=Qg hT hi ha c f d;obtain⟨r,t⟩:=Qg hT l hb c h g;have u:=Po hJ ha hb;obtain⟨v,y⟩:=Qg hT (QJ m1) u c (zU (zK f h) (za (i:=4) rfl)<|by trivial)<|vJ hJ ha hb j d g;exact⟨_,rfl,Hi (IC v<|vJ hJ q t j p r) Oh (ue (zu zb<|zu (za rfl)<|zu d<|zu f<|zu g<|zu h yi) (VI rfl) rfl rfl) ⟨_,rfl⟩⟩
def C9.none{P:Prop}(h:C9 r P)(p:P):RE r .non:=by
 rcases h with⟨h,_⟩|⟨_,h⟩
 . exact h
 . exact absurd p h
def LawA.un(L:LawA n m J e Ds):jJ n J e:=λa b=>⟨L.lj.ul a b,L.lj.ur a b⟩
theorem LawA.as(L:LawA n m J e Ds):As n J:=λa d b f c g=>L.lj.as a b c d f g
theorem LawA.dn(L:LawA n m J e Ds)(hp:p ∈ Ds):Dn n m J p.2:=λa c i d b f k g=>(L.ld p hp).dn a i b k c d f g
end
noncomputable def iP(b k:Int):Int:=if k=0 then b/2 else b%2
def jP(a b:Int):Int:=2*iP b (a/2)+iP b (a%2)
def sP(a:Int):Int:=2*(1-a%2)+1-a/2
def gc:LJ 4 jP 1:=by
 refine⟨λa b d e=>?_,⟨by decide,by decide⟩,λa d=>?_,λa d=>?_,λa b c d e f=>?_⟩
 . revert b;refine f4 (P:=λa=>∀b,zO 4 b->zO 4 (jP a b)) ?_ d
   have:∀a ∈ ([0,1,2,3]:List Int),∀b ∈ ([0,1,2,3]:List Int),zO 4 (jP a b):=by decide
   exact λa m b e=>f4 (this a m) e
 . exact f4 (P:=λa=>jP 1 a=a) (by decide) d
 . exact f4 (P:=λa=>jP a 1=a) (by decide) d
 . have:∀a ∈ ([0,1,2,3]:List Int),∀b ∈ ([0,1,2,3]:List Int),∀c ∈ ([0,1,2,3]:List Int),jP (jP a b) c=jP a (jP b c):=by decide
   refine f4 (λa m=>f4 (λb g=>f4 (this a m b g) f) e) d
def dR{m:Nat}{r:Int->Int}(h:(∀a,zO 4 a->r a=a)\/(∀a,zO 4 a->r a=sP a)):LD 4 m jP 1 (λ_ a=>r a):=by
 rcases h with h|h
 . refine⟨λc a _ d=>by show zO 4 (r a);rw[h a d];exact d,h 1 ⟨by decide,by decide⟩,λa i b k d _ e _=>?_⟩;rw[h a d,h b e,h _<|gc.cl a b d e]
 . refine⟨λc a _ d=>by show zO 4 (r a);rw[h a d];exact f4 (P:=λa=>zO 4<|sP a) (by decide) d,h 1 ⟨by decide,by decide⟩,λa i b k d _ e _=>?_⟩;rw[h a d,h b e,h _<|gc.cl a b d e];have:∀a ∈ ([0,1,2,3]:List Int),∀b ∈ ([0,1,2,3]:List Int),sP (jP a b)=jP (sP a) (sP b):=by decide
   exact f4 (λa m=>f4 (this a m) e) d
def cx{n1 n2:Nat}(h1:LJ n1 j1 e1)(h2:LJ n2 j2 e2)(p2:0<n2):LJ (n1*n2) (jB n2 j1 j2) (e1*n2+e2):=by
 refine⟨λa b d e=>?_,oA h1.ce h2.ce,λa d=>?_,λa d=>?_,λa b c d e f=>?_⟩
 . exact oA (h1.cl _ _ (yc p2 d).1 (yc p2 e).1)<|h2.cl _ _ (yc p2 d).2 (yc p2 e).2
 . unfold jB;rw[(QK h2.ce).1,(QK h2.ce).2,h1.ul _ (yc p2 d).1,h2.ul _ (yc p2 d).2,kL]
 . unfold jB;rw[(QK h2.ce).1,(QK h2.ce).2,h1.ur _ (yc p2 d).1,h2.ur _ (yc p2 d).2,kL]
 . unfold jB;rw[(QK<|h2.cl _ _ (yc p2 d).2 (yc p2 e).2).1,(QK<|h2.cl _ _ (yc p2 d).2 (yc p2 e).2).2,(QK<|h2.cl _ _ (yc p2 e).2 (yc p2 f).2).1,(QK<|h2.cl _ _ (yc p2 e).2 (yc p2 f).2).2,h1.as _ _ _ (yc p2 d).1 (yc p2 e).1 (yc p2 f).1,h2.as _ _ _ (yc p2 d).2 (yc p2 e).2 (yc p2 f).2]
def di{n1 n2 m:Nat}(h1:LJ n1 j1 u1)(h2:LJ n2 j2 u2)(p2:0<n2)(e1:LD n1 m j1 u1 d1)(e2:LD n2 m j2 u2 d2):LD (n1*n2) m (jB n2 j1 j2) (u1*n2+u2) (dB n2 d1 d2):=by
 refine⟨λc a h d=>oA (e1.cl _ _ h (yc p2 d).1)<|e2.cl _ _ h (yc p2 d).2, ?_,λa i b k d f e g=>?_⟩
 . unfold dB;rw[(QK h2.ce).1,(QK h2.ce).2,e1.em,e2.em]
 . unfold jB dB;rw[(QK<|h2.cl _ _ (yc p2 d).2 (yc p2 e).2).1,(QK<|h2.cl _ _ (yc p2 d).2 (yc p2 e).2).2,(QK<|e2.cl i _ f (yc p2 d).2).1,(QK<|e2.cl i _ f (yc p2 d).2).2,(QK<|e2.cl k _ g (yc p2 e).2).1,(QK<|e2.cl k _ g (yc p2 e).2).2,e1.dn _ _ _ _ (yc p2 d).1 f (yc p2 e).1 g,e2.dn _ _ _ _ (yc p2 d).2 f (yc p2 e).2 g]
def dw{n:Nat}{F B:Int->Int}(h:LJ n j e)(hF:∀a,zO n a->zO n (F a))(hB:∀a,zO n a->zO n (B a))(hFB:∀a,zO n a->F (B a)=a)(q:∀a b,zO n a->zO n b->j' (F a) (F b)=F (j a b)):LJ n j' (F e):=by
 have g:=λa b d f=>by
  have:=q (B a) (B b) (hB a d)<|hB b f;rw[hFB a d,hFB b f]at this;exact this
 refine⟨λa b d f=>by rw[g a b d f];exact hF _<|h.cl _ _ (hB a d)<|hB b f,hF e h.ce,λa d=>?_,λa d=>?_,λa b c d f i=>?_⟩
 . have:=q e (B a) h.ce<|hB a d;rw[hFB a d,h.ul _<|hB a d,hFB a d]at this;exact this
 . have:=q (B a) e (hB a d) h.ce;rw[hFB a d,h.ur _<|hB a d,hFB a d]at this;exact this
 . have k:=hB a d;have l:=hB b f;have m:=hB c i;rw[g a b d f,g b c f i];have x:=q _ (B c) (h.cl _ _ k l) m;have y:=q (B a) _ k<|h.cl _ _ l m;rw[hFB c i]at x;rw[hFB a d]at y;rw[x,y,h.as _ _ _ k l m]
def dJ{n m:Nat}{F B:Int->Int}(hm:0<m)(h:LJ n j e)(k:LD n m j e d)(hF:∀a,zO n a->zO n (F a))(hB:∀a,zO n a->zO n (B a))(hFB:∀a,zO n a->F (B a)=a)
 (q:∀a b,zO n a->zO n b->j' (F a) (F b)=F (j a b)) (p:∀c a,zO m c->zO n a->d' c (F a)=F (d c a)):LD n m j' (F e) d':=by
 refine⟨λc a t f=>?_, ?_,λa i b l f r u s=>?_⟩
 . have:=p c (B a) t<|hB a f;rw[hFB a f]at this;rw[this];exact hF _<|k.cl _ _ t<|hB a f
 . rw[p 0 e ⟨by omega,q0c hm⟩ h.ce,k.em]
 . have g:=hB a f;have o:=hB b u;have x:=q (B a) (B b) g o;have y:=p i (B a) r g;have z:=p l (B b) s o;rw[hFB a f]at x y;rw[hFB b u]at x z;rw[x,y,z,p _ _ (QJ hm)<|h.cl _ _ g o,q _ _ (k.cl _ _ r g)<|k.cl _ _ s o,k.dn _ _ _ _ g r o s]
def KN(k:Int)(n:Nat):Prop:=(k=0/\1<=n)\/(k=1/\1<=n)\/(k=2/\1<=n)\/(k=3/\n=4)
def jK(k:Int)(n:Nat):Int->Int->Int:=if k=0 then jS n else if k=1 then jM else if k=2 then jL else jP
noncomputable def eK(k:Int):Int:=if k=3 then 1 else 0
def fg{n:Nat}(h:KN k n):LJ n (jK k n) (eK k):=by
 rcases h with⟨rfl,h⟩|⟨rfl,h⟩|⟨rfl,h⟩|⟨rfl,rfl⟩
 . exact fw h
 . exact d9 h
 . exact da h
 . exact gc
def IY(h:WA fr as [(u,.int i),(v,.int j)])(h0:0<=i)(h1:i<=1000)(h2:0<=j)(h3:j<=1000):yB fr D2 as=some (y4 i (j-i).toNat,as):=by
 unfold yB;unfold WA at h;rw[h];simp only[zyL,YG];show((if -_<=i/\i<2 ^ 62 /\ -_<=j/\j<2 ^ 62 then some _ else none).bind _)=_;rw[if_pos ⟨q2k h0 h1,q2u h0 h1,q2k h2 h3,q2u h2 h3⟩];rfl
noncomputable abbrev Gr(r:List Int):D:=.tup<|r.map D.int
abbrev vY(T:TZ):D:=.tup<|T.map Gr
def Oo{α:Type}{f}{l:List α}{i:Nat}{p}(h:l[i]? = some p):zx (.tup<|l.map f) (.int (i:Int))=some (.im<|f p):=by
 have h:=RW (v:=f p) (by rw[zzI,h];rfl);show Ji _=_;rw[h];rfl
def gu{k n:Nat}{T}{w:Int}(hT:Tab k n T)(hw:zO k w):zx (vY T) (.int w)=some (.im<|Gr<|GG T w):=by
 have a:w.toNat<T.length:=by rw[hT.1];exact iT hw
 have g:=zzE a;unfold GG;rw[g];have:=Oo (f:=Gr) g;rw[iC hw]at this;exact this
def nO{n:Nat}{r}{v:Int}(hr:Row n r)(hv:zO n v):zx (Gr r) (.int v)=some (.im<|.int<|Zd r v):=by
 have a:v.toNat<r.length:=by rw[hr.1];exact iT hv
 have g:=zzE a;rw[RN a];have:=Oo (f:=D.int) g;rw[iC hv]at this;exact this
def JF{m n:Nat}(hT:Tab m n T)(hw:zO m w)(hv:zO n v)(ha:WD a as true (vY T))(hb:WD b as true (.int w))(hc:WD c as true (.int v)):WD (f2 (f2 a b zx) c zx) as true (.int<|ym T w v):=
 zB (yE ha hb<|gu hT hw) hc (nO (vG hT hw).2 hv) rfl
section
variable{α:Type}{kf:α->Str}{vf:α->D}
theorem NY:∀l:List α,PM (l.map λp=>.tup [.str<|kf p,vf p])=some (l.map λp=>(.inr<|kf p,vf p))
 | []=>rfl
 |p::l=>by
  show(PM _).bind _=_;rw[NY l];rfl
theorem GL:∀{l:List α},p ∈ l->(l.map kf).Nodup->PV (l.map λp=>(.inr<|kf p,vf p)) (.inr<|kf p)=some (vf p)
 | [],h,_=>nomatch h
 |q::l,h,nd=>by
  have a:=zzW.mp<|nd
  rcases zzC.mp h with rfl|h
  . unfold PV;simp
  . have e:kf q≠kf p:=λe=>a.1<|e ▸ List.mem_map_of_mem h;have b:=GL h a.2;unfold PV at b ⊢;rw[zyS,List.find?_cons_of_neg<|by simp[e]];exact b
theorem Jj:∀(kvs:List (Key×D)),(kvs.map (·.1)).zip (kvs.map (·.2))=kvs
 | []=>rfl
 |p::r=>congrArg (p :: ·)<|Jj r
def rZ{l:List α}(nd:(l.map kf).Nodup)(h:WE a as (.lst<|l.map λp=>.tup [.str<|kf p,vf p])):WE (fP (aC a aN) LY) as (.dct<|l.map λp=>(.inr<|kf p,vf p)):=by
 have c:LY [.lst<|l.map λp=>.tup [.str<|kf p,vf p]]=some (.fd<|l.map λp=>(.inr<|kf p,vf p)):=by
  show(PM _).bind _=_;rw[NY];refine if_pos ?_;rw[zyB];exact List.pairwise_map.mpr<|(List.pairwise_map.mp nd).imp λh e=>h<|Sum.inr.inj e
 have k:=mE (yZ h<|zr) c;rw[show([(true,D.lst _)].all (·.1))=true from rfl,GS]at k;generalize _=b at k;refine⟨_,k,U8 _, ?_⟩;show D.dct _=_;rw[TQ,Jj]
end
def yH{i:Nat}{os}(h:WE fe as d)(hi:as[i]? = some (some<|.nd (.ob c ns) os))(hc:c ∈ cs)(hn:f ∉ ns)(hl:ns.length<1000):Vo i cs f fe as=some (as.set i<|some<|.nd (.ob c<|ns++[f])<|os++[.lf true d]):=by
 obtain⟨o,a,b,g⟩:=h;unfold Vo;have e:X_ as (.ow o)=some _:=rfl;simp only[a,zyL,e,hi,if_pos (⟨hc,hn,hl⟩:c ∈ cs/\f ∉ ns/\ns.length<1000),b,g]
def yA(h:f as=some as1)(h2:g as1=o):Zx f g as=o:=by
 unfold Zx;rw[h];exact h2
def Jv(h:WE fe as d):uW fe as=some as:=by
 obtain⟨o,a,_,_⟩:=h;unfold uW;rw[a];rfl
def tw{i:Nat}(h:as[i]? = some (sT<|.ob c ns ds))(hc:c ∈ cs)(hl:B6 ns ds f=some d):WD (f1 (fV i)<|zT cs f) as true d:=by
 have:=RZ (za h) hc hl;rw[zyD]at this;exact this
def bh(A B:TZ):TZ:=(A.zip B).map λp=>p.1.map<|Zd p.2
def qW{m n:Nat}(hA:Tab m n A)(hB:Tab m n B){i:Nat}(hi:i<m):(bh A B)[i]? = some ((GG A i).map<|Zd<|GG B i):=by
 have a:=zzE (by rw[hA.1];exact hi);have b:=zzE (by rw[hB.1];exact hi);unfold bh GG;rw[zzI,zyI,a,b];have:_[i]? = some (A[i]'(by rw[hA.1];exact hi),B[i]'(by rw[hB.1];exact hi)):=List.getElem?_zip_eq_some.mpr ⟨a,b⟩;rw[this];rfl
def oZ{m n:Nat}(hA:Tab m n A)(hB:Tab m n B):Tab m n (bh A B):=by
 refine⟨by unfold bh;rw[zzB,List.length_zip,hA.1,hB.1,Nat.min_self],λr h=>?_⟩;obtain⟨p,b,rfl⟩:=zxD.mp h;obtain⟨c,d⟩:=List.of_mem_zip b;have a:=hA.2 _ c;have e:=hB.2 _ d;exact⟨by rw[zzB];exact a.1,λx f=>by
  obtain⟨y,g,rfl⟩:=zxD.mp f;exact(rowAt e<|a.2 y g).2⟩
def kG{m n:Nat}(hA:Tab m n A)(hB:Tab m n B)(hc:zO m c)(ha:zO n a):ym (bh A B) c a=ym B c (ym A c a):=by
 have d:=iT hc;have g:=qW hA hB d;have e:=iC hc;rw[e]at g;have f:=(vG hA hc).2;have h:=(vG hB hc).2;show Zd _ a=Zd _ (Zd _ a);rw[g];show Zd ((GG A c).map _) a=_;have b:a.toNat<(GG A c).length:=by rw[f.1];exact iT ha
 rw[RN (by rw[zzB];exact b),List.getElem_map,RN b]
end PF
end
section
namespace G41
open PySem PySem.Spec PyProof.Rows L2 PF
abbrev zi:EF:=fV 1
abbrev zV:EF:=fC<|.int 0
abbrev zm:EF:=fV 0
abbrev yN:EF:=fC<|.int 2
abbrev zJ:EF:=fC<|.int 1
abbrev zF:EF:=fV 2
abbrev Zw:EF:=fC<|.int 4
abbrev RG:GF:=gN 4
abbrev yh:EF:=fV 4
abbrev zE:EF:=fV 3
abbrev y8:GF:=gN 0
abbrev zt:=Yq .Add
abbrev xr:EF:=fV 5
abbrev IB:EF:=fC<|.int 5
abbrev ZE:EF:=fV 6
abbrev K3:EF:=fV 7
abbrev WY:EF:=fV 11
abbrev zM:=Yq .Mod
abbrev zR:=Yq .Mult
abbrev Nx:EF:=fC<|.int 8
abbrev zD:=Yq .FloorDiv
abbrev Wg:EF:=fC<|.int 3
abbrev xt:=Yq .Sub
abbrev Aw:EF:=fC<|.int 6
abbrev v8:AF:=aC (fV 3) aN
abbrev v7:AF:=aC (fV 0) aN
abbrev wA:AF:=aC (fV 1) aN
abbrev ZA:AF:=aC (fV 2) aN
abbrev gf:AF:=aC (fV 5) aN
def vC:List Str:=["Knot"]
def Wz:List Str:=["Knot"]
def Zr:List Str:=["Knot"]
def Xa:List Str:=["Knot"]
def VQ:List Str:=["Knot"]
def Zv:List Str:=["Knot"]
def yz:List Str:=["Knot"]
def xO:List Str:=["Knot","Ways"]
def Ld:List Str:=["Ways"]
def Ql:List Str:=["Ways"]
def xj:List Str:=["Makes"]
def xl:List Str:=["Makes"]
def LH:List Str:=["Ways"]
def XI:List Str:=["Ways"]
def Lx:List Str:=["Ways"]
abbrev Lb:List Str:=["thing"]
def Tr:FnScope Lb ["thing"] (zd Wh):=w9
def G8:SF:=(zw<|Nr (Ux zm "int")<|CQ<|Ux zm "bool")
def UD:Fn:=xY 1 1 G8
abbrev Td:List Str:=["thing","least","most"]
def El:FnScope Td ["thing","least","most"] (zd Y1):=w9
def P_:SF:=(zw<|Nr (zh v7 UD)<|Ei zi zm zF (zy .LtE)<|zy .LtE)
def vm:Fn:=xY 3 3 P_
abbrev WQ:List Str:=["algebra","join","nothing","a"]
def XR:FnScope WQ ["algebra"] (zd wW):=w9
def ZV:SF:=(ze (zp true 1<|f2 zm yN zx)<|ze (zp true 2<|f2 zm Wg zx)<|ze (yJ (yB (aC (f2 zm zV zx) aN) yO) (gN 3)<|yR (Fs (fT<|f2 (f2 (f2 zi zF zx) zE zx) zE<|zy .NotEq)<|fT<|f2 (f2 (f2 zi zE zx) zF zx) zE<|zy .NotEq) (zw<|yd<|dC (fC<|.str "nothing")<|dC zE dN) yM)<|zw<|fC .non)
def ZK:Fn:=xY 4 1 ZV
abbrev Ve:List Str:=["algebra","n","join","a","b","c"]
def Xz:FnScope Ve ["algebra"] (zd va):=w9
def W4:SF:=(ze (zp true 1<|f2 zm zV zx)<|ze (zp true 2<|f2 zm yN zx)<|ze (yJ (yB wA yO) (gN 3)<|yJ (yB wA yO) RG<|yJ (yB wA yO) (gN 5)<|yR (fT<|f2 (f2 (f2 zF (f2 (f2 zF zE zx) yh zx) zx) xr zx) (f2 (f2 zF zE zx) (f2 (f2 zF yh zx) xr zx) zx)<|zy .NotEq) (zw<|yd<|dC (fC<|.str "parting")<|dC zE<|dC yh<|dC xr dN) yM)<|zw<|fC .non)
def ZN:Fn:=xY 6 1 W4
noncomputable abbrev Uq:List Str:=["algebra","name","rows","n","m","join","a","i","b","j"]
def VO:FnScope Uq ["algebra","name","rows"] (zd Zs):=w9
def QU:SF:=(ze (zp true 3<|f2 zm zV zx)<|ze (zp true 4<|f2 zm zJ zx)<|ze (zp true 5<|f2 zm yN zx)<|ze (yJ (yB v8 yO) (gN 6)<|yJ (yB (aC yh aN) yO) (gN 7)<|yJ (yB v8 yO) (gN 8)<|yJ (yB (aC yh aN) yO) (gN 9)<|yR (fT<|f2 (f2 (f2 zF (f2 (f2 K3 (fV 9) zt) yh zM) zx) (f2 (f2 xr ZE zx) (fV 8) zx) zx) (f2 (f2 xr (f2 (f2 zF K3 zx) ZE zx) zx) (f2 (f2 zF (fV 9) zx) (fV 8) zx) zx)<|zy .NotEq) (zw<|yd<|dC (fC<|.str "doing")<|dC zi<|dC ZE<|dC K3<|dC (fV 8)<|dC (fV 9) dN) yM)<|zw<|fC .non)
def Xf:Fn:=xY 10 3 QU
abbrev RH:List Str:=["algebra","nothing","name","rows","fault"]
def Ul:FnScope RH ["algebra"] (zd Z_):=w9
def U6:SF:=(ze (zp true 1<|f2 zm Wg zx)<|ze (yJ (YU<|f2 zm Zw zx) (gT 2<|yG (gN 2)<|yG (gN 3) XM)<|ze (yR (fT<|f2 (f2 (f2 zE zV zx) zi zx) zi<|zy .NotEq) (zw<|yd<|dC (fC<|.str "empty")<|dC zF dN) yM)<|ze (zp true 4<|zh (aC zm<|aC zF v8) Xf)<|yR (fT<|f2 yh (fC .non)<|zy .IsNot) (zw yh) yM)<|zw<|fC .non)
def Wt:Fn:=xY 5 1 U6
abbrev RL:List Str:=["algebra","fault"]
def QY:FnScope RL ["algebra"] (zd Z4):=w9
def RR:SF:=(ze (zp true 1<|zh v7 ZK)<|ze (yR (fT<|f2 zi (fC .non)<|zy .Is) (zp true 1<|zh v7 ZN) yM)<|ze (yR (fT<|f2 zi (fC .non)<|zy .Is) (zp true 1<|zh v7 Wt) yM)<|zw zi)
def WG:Fn:=xY 2 1 RR
abbrev V5:List Str:=["algebra","fault"]
def Vd:FnScope V5 ["algebra"] (zd vO):=w9
def Yu:SF:=(ze (zp true 1<|zh v7 WG)<|yR (fT<|f2 zi (fC .non)<|zy .IsNot) Di yM)
def vE:Fn:=xY 2 1 Yu
abbrev W6:List Str:=["self","whole","back","wait","turn","one","other"]
def P0:FnScope W6 ["self","whole","back","wait","turn","one","other"] (zd wR):=w9
abbrev kB:EF:=(Ou (fT<|f2 xr (fC .non)<|zy .Is) zV<|f2 zJ (fP (aC (f1 xr<|zT yz "deep")<|aC (f1 ZE<|zT yz "deep") aN) Nw) zt)
abbrev ll:EF:=(Ou (fT<|f2 xr (fC .non)<|zy .Is) zJ<|f2 (f1 xr<|zT xO "size") (f1 ZE<|zT xO "size") zt)
def ZM:Cf:=(Zx (Vo 0 vC "whole" zi)<|Zx (Vo 0 Wz "back" zF)<|Zx (Vo 0 Zr "wait" zE)<|Zx (Vo 0 Xa "turn" yh)<|Zx (Vo 0 VQ "one" xr)<|Zx (Vo 0 Zv "other" ZE)<|Zx (Vo 0 yz "deep" kB)<|Vo 0 xO "size" ll)
def yg(c:Str):Fn:=oB c 7 7 ZM
abbrev Mp:List Str:=["value"]
def Ki:FnScope Mp ["value"] (zd Qu):=w9
def ME:SF:=(zw<|zh (aC zm<|aC zm<|aC (fC .non)<|aC (fC<|.bl false)<|aC (fC .non)<|aC (fC .non) aN)<|yg "Knot")
def Qs:Fn:=xY 1 1 ME
abbrev Tn:List Str:=["self","one","other"]
def U7:FnScope Tn ["self","one","other"] (zd YY):=w9
def To:SF:=(zw<|f2 (f2 (f1 zm<|zT Ld "table") zi zx) zF zx)
def Vy:Fn:=xY 3 3 To
def RD:List (Str×Fn):=[("Ways",Vy)]
abbrev NU:List Str:=["way","one","other"]
def Lq:FnScope NU ["way","one","other"] (zd Qn):=w9
def MF:SF:=(zw<|zh (aC (Ye RD "join" zm<|aC (f1 zi<|zT vC "whole")<|aC (f1 zF<|zT vC "whole") aN)<|aC (Ye RD "join" zm<|aC (f1 zF<|zT Wz "back")<|aC (f1 zi<|zT Wz "back") aN)<|aC (fC .non)<|aC (fC<|.bl false)<|aC zi ZA)<|yg "Knot")
def yu:Fn:=xY 3 3 MF
abbrev Mr:List Str:=["way","row","half"]
def LZ:FnScope Mr ["way","row"] (zd Qo):=w9
def NZ(self:Fn):SF:=(ze (yR (fT<|f2 (fP wA xq) zV<|zy .Eq) (zw<|fC .non) yM)<|ze (yR (fT<|f2 (fP wA xq) zJ<|zy .Eq) (zw<|zh (aC (f2 zi zV zx) aN) Qs) yM)<|ze (zp true 2<|f2 (fP wA xq) yN zD)<|zw<|zh (aC zm<|aC (zh (aC zm<|aC (WR zi oN (oS zF) QE) aN) self)<|aC (zh (aC zm<|aC (WR zi (oS zF) oN QE) aN) self) aN) yu)
def xM:Nat->Fn
 |0=>λ_=>none
 |n+1=>xY 3 2<|NZ<|xM n
abbrev MC:List Str:=["tree"]
def L7:FnScope MC ["tree"] (zd Qr):=w9
def Mt:SF:=(zw<|Ou (fT<|f2 zm (fC .non)<|zy .Is) zV<|f1 zm<|zT xO "size")
def XU:Fn:=xY 1 1 Mt
abbrev QS:List Str:=["self","one","other"]
def Qe:FnScope QS ["self","one","other"] (zd Zn):=w9
abbrev ny:EF:=(zS (xC zm) [none,some 1] y8 yx<|f2 zi zm zx)
def Q9:SF:=(zw<|fP (aC (zS (Yz<|aC zi ZA) [none,none] (gT 2<|yG y8<|yG (gN 1) XM) yx<|fP (aC ny aN) tupP) aN) tupP)
def Xg:Fn:=xY 3 3 Q9
def NR:List (Str×Fn):=[("Ways",Xg)]
abbrev Rm:List Str:=["way","one","other"]
def Ub:FnScope Rm ["way","one","other"] (zd Z9):=w9
def Pa:SF:=(ze (yR (fT<|f2 zi (fC .non)<|zy .Is) (zw zF) yM)<|ze (yR (fT<|f2 zF (fC .non)<|zy .Is) (zw zi) yM)<|zw<|Ye NR "behind" zm<|aC zi ZA)
def XZ:Fn:=xY 3 3 Pa
abbrev TC:List Str:=["self","wait","value","many"]
def U4:FnScope TC ["self","wait","value","many"] (zd YZ):=w9
def Tw:SF:=(zw<|f2 (f2 zi (f2 zE (f1 zm<|zT Ql "around") zM) zx) zF zx)
def VR:Fn:=xY 4 4 Tw
def U3:List (Str×Fn):=[("Ways",VR)]
abbrev G4:List Str:=["way","tree","wait","whole","back"]
def Tg:FnScope G4 ["way","tree","wait"] (zd Wp):=w9
abbrev nI:EF:=(zh (aC zm<|aC (f1 zi<|zT Zr "wait") ZA) XZ)
abbrev kI:AF:=(aC (f1 zi<|zT VQ "one")<|aC (f1 zi<|zT Zv "other") aN)
def Kp:SF:=(ze (yR (fT<|f2 zi (fC .non)<|zy .Is) (zw<|fC .non) yM)<|ze (zp true 3<|Ye U3 "made" zm<|aC zF<|aC (f1 zi<|zT vC "whole")<|aC (f1 zi<|zT xO "size") aN)<|ze (yR (fT<|f2 (f1 zi<|zT yz "deep") zV<|zy .Eq) (zw<|zh v8 Qs) yM)<|ze (zp true 4<|Ye U3 "made" zm<|aC zF<|aC (f1 zi<|zT Wz "back")<|aC (f1 zi<|zT xO "size") aN)<|zw<|zh (aC zE<|aC yh<|aC nI<|aC (f1 zi<|zT Xa "turn") kI)<|yg "Knot")
def Zg:Fn:=xY 5 3 Kp
abbrev UI:List Str:=["way","tree"]
def Uc:FnScope UI ["way","tree"] (zd Z5):=w9
def Rk:SF:=(ze (yR (fT<|f2 zi (fC .non)<|zy .Is) (zw<|fC .non) yM)<|zw<|zh (aC (f1 zi<|zT Wz "back")<|aC (f1 zi<|zT vC "whole")<|aC (f1 zi<|zT Zr "wait")<|aC (CQ<|f1 zi<|zT Xa "turn") kI)<|yg "Knot")
def Z2:Fn:=xY 2 2 Rk
abbrev LI:List Str:=["way","knot","one","other"]
def TR:FnScope LI ["way","knot"] (zd WH):=w9
def Ko:SF:=(ze (zp true 2<|f1 zi<|zT VQ "one")<|ze (zp true 3<|f1 zi<|zT Zv "other")<|ze (yR (fT<|f2 (f1 zi<|zT Zr "wait") (fC .non)<|zy .IsNot) (ze (zp true 2<|zh (aC zm<|aC zF<|aC (f1 zi<|zT Zr "wait") aN) Zg)<|zp true 3<|zh (aC zm<|aC zE<|aC (f1 zi<|zT Zr "wait") aN) Zg) yM)<|ze (yR (fT<|f1 zi<|zT Xa "turn") (zw<|yd<|dC (zh (aC zm v8) Z2)<|dC (zh (aC zm ZA) Z2) dN) yM)<|zw<|yd<|dC zF<|dC zE dN)
def vg:Fn:=xY 4 2 Ko
abbrev FS:List Str:=["way","tree","wait","turn","row","owed","contrary","parts","part"]
def Xx:FnScope FS ["way","tree","wait","turn","row"] (zd RO):=w9
abbrev lu:EF:=(Ou (fT<|f2 zF (fC .non)<|zy .Is) (f1 zi<|zT vC "whole")<|Ye U3 "made" zm<|aC zF<|aC (f1 zi<|zT vC "whole")<|aC zJ aN)
abbrev qm:AF:=(aC zm<|aC (fV 8)<|aC xr<|aC ZE<|aC yh aN)
def KC(self:List wK->O->Option O):SF:=(yR (fT<|f2 (f1 zi<|zT yz "deep") zV<|zy .Eq) (yq<|vX 4 (dC lu dN) vM)<|ze (zp true 5 nI)<|ze (zp true 6<|f2 (f1 zi<|zT Xa "turn") zE<|zy .NotEq)<|ze (zp true 7<|Ou (fT ZE) (yd<|dC (f1 zi<|zT Zv "other")<|dC (f1 zi<|zT VQ "one") dN)<|yd<|dC (f1 zi<|zT VQ "one")<|dC (f1 zi<|zT Zv "other") dN)<|yJ (YU K3) (gN 8)<|Wx 4 qm self)
def xU:Nat->List wK->O->Option O
 |0=>λ_ _=>none
 |n+1=>gL 9 5<|KC<|xU n
abbrev BH:List Str:=["way","tree","row"]
def Pb:FnScope BH ["way","tree"] (zd UH):=w9
def By:SF:=(ze (zp false 2<|zZ dN)<|ze (yR (fT<|f2 zi (fC .non)<|zy .IsNot) (Wx 2 (aC zm<|aC zi<|aC (fC .non)<|aC (fC<|.bl false) ZA)<|xU 20) yM)<|zw zF)
def XT:Fn:=xY 3 2 By
abbrev Uh:List Str:=["way","one","other","parts","inner"]
def VD:FnScope Uh ["way","one","other"] (zd Zt):=w9
abbrev oX:SF:=(zp true 3<|zh (aC zm wA) vg)
def QP:SF:=(ze oX<|ze (yR (fT<|f2 (f1 (f2 zE zV zx)<|zT yz "deep") (f1 (f2 zE zJ zx)<|zT yz "deep")<|zy .GtE) (zw<|zh (aC zm<|aC (f2 zE zV zx)<|aC (zh (aC zm<|aC (f2 zE zJ zx) ZA) yu) aN) yu) yM)<|ze (zp true 4<|zh (aC zm<|aC (f2 zE zJ zx) aN) vg)<|zw<|zh (aC zm<|aC (zh (aC zm<|aC (f2 zE zV zx)<|aC (f2 yh zV zx) aN) yu)<|aC (zh (aC zm<|aC (f2 yh zJ zx) ZA) yu) aN) yu)
def Xs:Fn:=xY 5 3 QP
abbrev V1:List Str:=["way","one","other","parts","inner"]
def Vb:FnScope V1 ["way","one","other"] (zd vL):=w9
def Qf:SF:=(ze (zp true 3<|zh (aC zm ZA) vg)<|ze (yR (fT<|f2 (f1 (f2 zE zJ zx)<|zT yz "deep") (f1 (f2 zE zV zx)<|zT yz "deep")<|zy .GtE) (zw<|zh (aC zm<|aC (zh (aC zm<|aC zi<|aC (f2 zE zV zx) aN) yu)<|aC (f2 zE zJ zx) aN) yu) yM)<|ze (zp true 4<|zh (aC zm<|aC (f2 zE zV zx) aN) vg)<|zw<|zh (aC zm<|aC (zh (aC zm<|aC zi<|aC (f2 yh zV zx) aN) yu)<|aC (zh (aC zm<|aC (f2 yh zJ zx)<|aC (f2 zE zJ zx) aN) yu) aN) yu)
def YJ:Fn:=xY 5 3 Qf
abbrev FD:List Str:=["way","one","other"]
def Mg:FnScope FD ["way","one","other"] (zd Rh):=w9
abbrev kX:TF:=(fT<|f2 (f1 zi<|zT yz "deep") (f2 (f1 zF<|zT yz "deep") zJ zt)<|zy .Gt)
abbrev jC:TF:=(fT<|f2 (f1 zF<|zT yz "deep") (f2 (f1 zi<|zT yz "deep") zJ zt)<|zy .Gt)
def BG:SF:=(ze (yR kX (zw<|zh (aC zm<|aC zi ZA) Xs) yM)<|ze (yR jC (zw<|zh (aC zm<|aC zi ZA) YJ) yM)<|zw<|zh (aC zm<|aC zi ZA) yu)
def RJ:Fn:=xY 3 3 BG
abbrev VM:List Str:=["way","one","other","parts"]
def ZJ:FnScope VM ["way","one","other"] (zd vp):=w9
def Vr(self:Fn):SF:=(ze (yR (fT<|f2 zi (fC .non)<|zy .Is) (zw zF) yM)<|ze (yR (fT<|f2 zF (fC .non)<|zy .Is) (zw zi) yM)<|ze (yR kX (ze oX<|zw<|zh (aC zm<|aC (f2 zE zV zx)<|aC (zh (aC zm<|aC (f2 zE zJ zx) ZA) self) aN) RJ) yM)<|ze (yR jC (ze (zp true 3<|zh (aC zm ZA) vg)<|zw<|zh (aC zm<|aC (zh (aC zm<|aC zi<|aC (f2 zE zV zx) aN) self)<|aC (f2 zE zJ zx) aN) RJ) yM)<|zw<|zh (aC zm<|aC zi ZA) yu)
def zN:Nat->Fn
 |0=>λ_=>none
 |n+1=>xY 4 3<|Vr<|zN n
noncomputable abbrev Tu:List Str:=["way","tree","place","parts","ahead","pair"]
def vW:FnScope Tu ["way","tree","place"] (zd Y0):=w9
def P9(self:Fn):SF:=(ze (yR (fT<|f2 zF zV<|zy .Eq) (zw<|yd<|dC (fC .non)<|dC zi dN) yM)<|ze (yR (fT<|f2 zF (f1 zi<|zT xO "size")<|zy .Eq) (zw<|yd<|dC zi<|dC (fC .non) dN) yM)<|ze oX<|ze (zp true 4<|f1 (f2 zE zV zx)<|zT xO "size")<|ze (yR (fT<|f2 zF yh<|zy .Lt) (ze (zp true 5<|zh (aC zm<|aC (f2 zE zV zx) ZA) self)<|zw<|yd<|dC (f2 xr zV zx)<|dC (zh (aC zm<|aC (f2 xr zJ zx)<|aC (f2 zE zJ zx) aN)<|zN 20) dN) yM)<|ze (zp true 5<|zh (aC zm<|aC (f2 zE zJ zx)<|aC (f2 zF yh xt) aN) self)<|zw<|yd<|dC (zh (aC zm<|aC (f2 zE zV zx)<|aC (f2 xr zV zx) aN)<|zN 20)<|dC (f2 xr zJ zx) dN)
def yy:Nat->Fn
 |0=>λ_=>none
 |n+1=>xY 6 3<|P9<|yy n
abbrev Uo:List Str:=["place","least","most"]
def V_:FnScope Uo ["place","least","most"] (zd Zm):=w9
def Xn:SF:=(yR (wH<|fT<|zh (aC zm<|aC zi ZA) vm) Di yM)
def xJ:Fn:=xY 3 3 Xn
abbrev UG:List Str:=["size"]
def QR:FnScope UG ["size"] (zd Yd):=w9
def Wo:SF:=(yR (fT<|f2 zm (fC<|.int 300)<|zy .Gt) Di yM)
def vq:Fn:=xY 1 1 Wo
abbrev IJ:List Str:=["rows"]
def Os:FnScope IJ ["rows"] (zd MK):=w9
def JK:SF:=(zw<|fP (aC (zS (xC zm) [none] y8 yx<|fP v7 tupP) aN) tupP)
def MZ:Fn:=xY 1 1 JK
abbrev Lj:List Str:=["_law_script","_law_k","_law_most","_law_x","_law_found","_law_j"]
def P1:FnScope Lj ["_law_script","_law_k"] (zd X9):=w9
abbrev k_:EF:=(f2 (f2 (f2 (f2 zm zi zx) zF zM) (f2 (fC<|.int 7919) (fC<|.int 15)<|Yq .Pow) zR) zF zM)
abbrev lI:SF:=(zp true 3<|f2 zE (f2 (f2 (f2 zm (f2 zi (fP v7 xq) zM) zx) (fC<|.int 1000003) zM) (f2 (f2 yN zi zR) zJ zt) zR) zt)
abbrev n6:SF:=(zp true 3<|f2 (f2 (f2 (f2 (f2 zE zE zR) (f2 (fC<|.int 48271) zE zR) zt) (f2 (fC<|.int 69621) xr zR) zt) zi zt) (fC<|.int 2147483629) zM)
abbrev lQ:SF:=(zp true 4<|f2 (f2 yh (fC<|.int 998244353) zR) (f2 (f2 zE (fC<|.int 16807) zR) (fC<|.int 2147483587) zM) zt)
def LP:SF:=(ze (zp true 2<|f2 (fC<|.int 1000) (f2 (fC<|.int 10) (fC<|.int 64)<|Yq .Pow) zR)<|ze (yR (fT<|f2 zi (fP v7 xq)<|zy .Lt) (zw k_) yM)<|ze (zp true 3<|f2 (f2 (f2 zi zi zR) (f2 (fC<|.int 7) zi zR) zt) (fC<|.int 11) zt)<|ze (yR (fT<|f2 zm (zZ dN)<|zy .NotEq) lI yM)<|ze (zp true 4 zV)<|ze (yJ (yB (aC Nx aN) yO) (gN 5)<|ze n6 lQ)<|zw<|f2 yh zF zM)
def yj:Fn:=xY 6 2 LP
abbrev Rz:List Str:=["_law_x","_law_sizes","_law_found","_law_size"]
def Q0:FnScope Rz ["_law_x","_law_sizes"] (zd Yi):=w9
def UR:SF:=(ze (zp false 2<|zZ dN)<|ze (yJ (YU zi) (gN 3)<|ze (yq<|vX 2 (dC (f2 zm zE zM) dN) vM)<|zp true 0<|f2 zm zE zD)<|zw zF)
def yw:Fn:=xY 4 2 UR
noncomputable abbrev TL:List Str:=["_law_x","_law_many","_law_letters","_law_size","_law_at","_law_step","_law_names_here","_law_k","_law_name","_law_j","_law_turn"]
def Ry:FnScope TL ["_law_x","_law_many"] (zd YX):=w9
abbrev nE:EF:=(zh (aC zm<|aC (zZ<|dC Nx<|dC (fC<|.int 840)<|dC Nx dN) aN) yw)
abbrev pF:EF:=(f2 zm (f2 (fC<|.int 53761) (f2 (f2 (fC<|.int 26) (fV 9) zR) (fV 9) zR) zt) zD)
abbrev pE:SF:=(zp true 10<|f2 (fV 10) (f2 K3 (f2 xr zJ zt) zR) zt)
abbrev lV:SF:=(zp true 8<|f2 (fV 8) (f2 zF (f2 (fV 10) (fC<|.int 26) zM) zx) zt)
def Tj:SF:=(ze (zp true 2<|fC<|.str "abcdefghijklmnopqrstuvwxyz")<|ze (Vu nE<|gT 3<|yG (gN 3)<|yG RG<|yG (gN 5) XM)<|ze (zp true 5<|f2 (zZ<|dC zV<|dC yN<|dC Zw<|dC Aw<|dC Nx<|dC (fC<|.int 10)<|dC (fC<|.int 14)<|dC (fC<|.int 16) dN) xr zx)<|ze (zp true 4<|f2 yh (f2 zE zJ zt) zM)<|ze (zp false 6<|zZ dN)<|ze (yJ (yB wA yO) (gN 7)<|ze (zp true 8<|fC<|.str "")<|ze (yJ (yB (aC (f2 zE zJ zt) aN) yO) (gN 9)<|ze (zp true 10 pF)<|ze (yR (fT<|f2 (fV 9) yh<|zy .Eq) pE yM) lV)<|yq<|vX 6 (dC (fV 8) dN) vM)<|zw ZE)
def Xd:Fn:=xY 11 2 Tj
abbrev Vn:List Str:=["_law_part","_law_a","_law_b","_law_kind","_law_size"]
def Xy:FnScope Vn ["_law_part","_law_a","_law_b"] (zd w_):=w9
abbrev mH:EF:=(zZ<|dC (f2 zF yN zD)<|dC (f2 zF yN zM) dN)
def WX:SF:=(ze (Vu zm<|gT 2<|yG (gN 3)<|yG RG XM)<|ze (yR (fT<|f2 zE zV<|zy .Eq) (zw<|f2 (f2 zi zF zt) yh zM) yM)<|ze (yR (fT<|f2 zE zJ<|zy .Eq) (zw<|fP (aC zi ZA) Nw) yM)<|ze (yR (fT<|f2 zE yN<|zy .Eq) (zw<|f2 (zZ<|dC zF<|dC zi dN) (fP (aC (f2 zF zV<|zy .Eq) aN) My) zx) yM)<|zw<|f2 (f2 yN (f2 mH (f2 zi yN zD) zx) zR) (f2 mH (f2 zi yN zM) zx) zt)
def wQ:Fn:=xY 5 3 WX
abbrev WZ:List Str:=["_law_part","_law_x","_law_c","_law_a","_law_kind","_law_size"]
def XQ:FnScope WZ ["_law_part","_law_x","_law_c","_law_a"] (zd vb):=w9
def WV:SF:=(ze (Vu zm<|gT 2<|yG RG<|yG (gN 5) XM)<|ze (yR (fT<|f2 yh zV<|zy .Eq) (zw<|f2 (f2 (f2 (f2 zi xr zM) zE zR) (f2 (f2 (f2 zi xr zD) xr zM) zF zR) zt) xr zM) yM)<|ze (yR (fT<|f2 yh zJ<|zy .Eq) (zw<|fP (aC (f2 xr zJ xt)<|aC (fP (aC (zS (yB v8 yO) [none,some 1] y8 yx<|f2 (f2 zi (f2 (zZ<|dC zJ<|dC Wg<|dC (fC<|.int 9)<|dC (fC<|.int 27)<|dC (fC<|.int 81)<|dC (fC<|.int 243)<|dC (fC<|.int 729) dN) zm zx) zD) Wg zM) aN) r9) aN) L_) yM)<|ze (yR (fT<|f2 yh yN<|zy .Eq) (zw<|f2 (fP (aC (f2 zE zV<|zy .Gt) aN) My) (f2 zJ (f2 (f2 zi (f2 (zZ<|dC zJ<|dC Aw<|dC (fC<|.int 36)<|dC (fC<|.int 216)<|dC (fC<|.int 1296)<|dC (fC<|.int 7776)<|dC (fC<|.int 46656) dN) zE zx) zD) (fP (aC zJ<|aC (f2 xr zJ xt) aN) Nw) zM) zt) zR) yM)<|ze (yR (fT<|f2 (f2 zi yN zM) zV<|zy .Eq) (zw zE) yM)<|zw<|f2 (f2 (f2 yN (f2 zJ (f2 zE yN zM) xt) zR) zJ zt) (f2 zE yN zD) xt)
def xI:Fn:=xY 6 4 WV
abbrev P6:List Str:=["_law_x","_law_some"]
def U_:FnScope P6 ["_law_x"] (zd Y6):=w9
def P7:SF:=(ze (zp true 1<|zZ<|dC (zZ<|dC (yd<|dC zV<|dC Wg dN) dN)<|dC (zZ<|dC (yd<|dC yN<|dC Wg dN) dN)<|dC (zZ<|dC (yd<|dC zJ<|dC Zw dN) dN)<|dC (zZ<|dC (yd<|dC zV<|dC yN dN)<|dC (yd<|dC yN<|dC yN dN) dN)<|dC (zZ<|dC (yd<|dC Wg<|dC Zw dN) dN)<|dC (zZ<|dC (yd<|dC yN<|dC Zw dN) dN)<|dC (zZ<|dC (yd<|dC zV<|dC yN dN)<|dC (yd<|dC zJ<|dC Wg dN) dN)<|dC (zZ<|dC (yd<|dC zV<|dC IB dN) dN) dN)<|ze (zp true 1<|f2 zi (zZ<|dC (zZ<|dC (yd<|dC yN<|dC yN dN)<|dC (yd<|dC Wg<|dC Zw dN) dN)<|dC (zZ<|dC (yd<|dC zJ<|dC yN dN)<|dC (yd<|dC yN<|dC Wg dN) dN)<|dC (zZ<|dC (yd<|dC zV<|dC Zw dN) dN)<|dC (zZ<|dC (yd<|dC Wg<|dC Zw dN) dN)<|dC (zZ<|dC (yd<|dC zJ<|dC Aw dN) dN)<|dC (zZ<|dC (yd<|dC zV<|dC yN dN)<|dC (yd<|dC Wg<|dC Zw dN) dN) dN) zt)<|ze (zp true 1<|f2 zi (zZ<|dC (zZ<|dC (yd<|dC yN<|dC (fC<|.int 7) dN) dN)<|dC (zZ<|dC (yd<|dC zV<|dC Aw dN) dN) dN) zt)<|zw<|f2 zi (f2 zm (fC<|.int 16) zM) zx)
def Qd:Fn:=xY 2 1 P7
noncomputable abbrev Tz:List Str:=["_law_parts_here","_law_value","_law_found","_law_kind","_law_size"]
def Rc:FnScope Tz ["_law_parts_here","_law_value"] (zd Xc):=w9
def TN:SF:=(ze (zp false 2<|zZ dN)<|ze (yJ (YU zm) (gT 2<|yG (gN 3)<|yG RG XM)<|ze (yq<|vX 2 (dC (f2 zi yh zM) dN) vM)<|zp true 1<|f2 zi yh zD)<|zw zF)
def VU:Fn:=xY 5 2 TN
abbrev KM:List Str:=["_law_parts_here","_law_row_here","_law_value","_law_part","_law_one"]
def TB:FnScope KM ["_law_parts_here","_law_row_here"] (zd Wc):=w9
abbrev oe:AF:=(aC (WR zm oN (oS<|f1 zJ EN) mh)<|aC (WR zi oN (oS<|f1 zJ EN) mh) aN)
abbrev n3:SF:=(zp true 2<|f2 (f2 zF (f2 zE zJ zx) zR) yh zt)
def Ka:SF:=(ze (zp true 2 zV)<|ze (yJ (Yz oe) (gT 2<|yG (gN 3)<|yG RG XM) n3)<|zw zF)
def xv:Fn:=xY 5 2 Ka
abbrev TV:List Str:=["_law_x","_law_n","_law_order_here","_law_k"]
def RC:FnScope TV ["_law_x","_law_n"] (zd Y7):=w9
def Te:SF:=(ze (zp false 2<|zZ dN)<|ze (yJ (yB wA yO) (gN 3)<|ze (yq<|vX 2 (dC (f2 zm (f2 zE zJ zt) zM)<|dC zE dN) Sv)<|zp true 0<|f2 zm (f2 zE zJ zt) zD)<|zw zF)
def VG:Fn:=xY 4 2 Te
noncomputable abbrev QZ:List Str:=["_law_script","_law_start","_law_parts_here","_law_n","_law_m","_law_order_here","_law_values","_law_join","_law_a","_law_deeds","_law_names_here","_law_k","_law_x","_law_rows","_law_c","_law_signs","_law_nothing"]
def Qh:FnScope QZ ["_law_script","_law_start"] (zd Zk):=w9
abbrev lG:SF:=(zp true 2<|zh (aC (zh (aC zm wA) yj) aN) Qd)
abbrev lK:SF:=(zp true 3<|f2 (zh (aC zF<|aC (zS (xC zF) [none,none] (gT 2<|yG y8<|yG (gN 1) XM) yx<|f2 zi zJ xt) aN) xv) zJ zt)
abbrev mK:SF:=(zp true 4<|f2 zJ (f2 (f2 (zh (aC zm wA) yj) (fC<|.int 16) zD) Zw zM) zt)
abbrev kj:SF:=(yR (fT<|f2 (f2 (f2 zF zV zx) zV zx) zV<|zy .Eq) (zp true 4<|f2 (f2 zF zV zx) zJ zx) yM)
abbrev ml:SF:=(zp true 5<|zh (aC (zh (aC zm<|aC (f2 zi zJ zt) aN) yj) v8) VG)
abbrev lX:SF:=(zp true 6<|zS (yB v8 yO) [none,some 2,some 5] y8 yx<|zh (aC zi<|aC (Mz .lst zF v7 Hb) aN) VU)
abbrev qb:GF:=(gT 3<|yG y8<|yG (gN 1)<|yG (gN 2) XM)
abbrev fW:SF:=(yJ (YU ZE) (gN 8)<|yq<|vX 7 (dC (zS (xC ZE) [none,some 2,some 8] y8 yx<|zh (aC zi<|aC (zS (HI<|aC zi<|aC zF v7) [none,none,none] qb yx<|zh (aC zm<|aC zi ZA) wQ) aN) xv) dN) vM)
abbrev jl:SF:=(zp true 10<|zh (aC (zh (aC zm<|aC (f2 zi yN zt) aN) yj)<|aC (fC<|.int 7) aN) Xd)
abbrev kg:EF:=(zh (aC zm<|aC (f2 (f2 zi Zw zt) WY zt) aN) yj)
abbrev mJ:SF:=(yq<|vX 13 (dC (zS (xC ZE) [none,some 2,some 12,some 14] y8 yx<|zh (aC zi<|aC (zS (Yz<|aC zi v7) [none,none,some 2,some 3] (gT 2<|yG y8<|yG (gN 1) XM) yx<|zh (aC zm<|aC zF<|aC zE wA) xI) aN) xv) dN) vM)
abbrev ei:SF:=(yJ (yB (aC (f2 zJ (f2 (zh (aC zm<|aC (f2 zi Wg zt) aN) yj) Zw zM) zt) aN) yO) (gN 11)<|ze (zp true 12 kg)<|ze (zp false 13<|zZ dN)<|ze (yJ (yB (aC yh aN) yO) (gN 14) mJ)<|yq<|vX 9 (dC (yd<|dC (f2 (fV 10) WY zx)<|dC (zS (xC<|fV 13) [none,some 5] y8 yx ny) dN) dN) vM)
abbrev lr:EF:=(f2 (zh (aC zm<|aC (f2 (f2 zi (fC<|.int 9) zt) WY zt) aN) yj) (fC<|.int 7) zD)
abbrev fF:SF:=(yJ (yB (aC (f2 zJ (f2 (zh (aC zm<|aC (f2 zi Nx zt) aN) yj) Wg zM) zt) aN) yO) (gN 11)<|ze (zp true 12 lr)<|yq<|vX 15 (dC (yd<|dC (f2 (fV 10) (f2 Zw WY zt) zx)<|dC (zS (yB v8 yO) [none,some 12] y8 (fT<|f2 (f2 (f2 zi (f2 (zZ<|dC zJ<|dC yN<|dC Zw<|dC Nx<|dC (fC<|.int 16)<|dC (fC<|.int 32)<|dC (fC<|.int 64)<|dC (fC<|.int 128) dN) zm zx) zD) yN zM) zJ<|zy .Eq) zm) dN) dN) vM)
abbrev kH:SF:=(zp true 16<|f2 xr (zh (aC zF<|aC (zS (xC zF) [none,none] (gT 2<|yG y8<|yG (gN 1) XM) yx<|fP (aC (f2 zm Wg<|zy .Eq) aN) My) aN) xv) zx)
abbrev lD:DF:=(dC zE<|dC yh<|dC K3<|dC (fV 16)<|dC (fV 9)<|dC (fV 15) dN)
def Q_:SF:=(ze lG<|ze lK<|ze mK<|ze kj<|ze ml<|ze lX<|ze (zp false 7<|zZ dN)<|ze fW<|ze (zp false 7<|zS (xC K3) [none,some 5] y8 yx ny)<|ze (zp false 9<|zZ dN)<|ze jl<|ze ei<|ze (zp false 15<|zZ dN)<|ze fF<|ze kH<|zw<|yd lD)
def Zl:Fn:=xY 17 2 Q_
noncomputable abbrev W8:List Str:=["_law_script","_law_cells","_law_odd","_law_n","_law_m","_law_deeds","_law_signs","_law_nothing","_law_names_here","_law_table","_law_join","_law_told","_law_k","_law_rows","_law_held","_law_bits"]
def XS:FnScope W8 ["_law_script"] (zd wO):=w9
abbrev l_:EF:=(f2 (fC<|.int 12) (fP (aC (WR zm oN (oS<|fC<|.int 12) QE) aN) xq) xt)
abbrev ik:EF:=(f2 (zS (xC<|WR zm oN (oS<|fC<|.int 12) QE) [none] y8 yx zm) (f2 (zZ<|dC zV dN) l_ zR) zt)
abbrev kM:SF:=(Vu (zh (aC (f2 zi zV zx)<|aC (zZ<|dC yN<|dC Nx<|dC Aw<|dC (fC<|.int 7)<|dC IB<|dC Nx dN) aN) yw)<|gT 6<|yG (gN 2)<|yG (gN 3)<|yG RG<|yG (gN 5)<|yG (gN 6)<|yG (gN 7) XM)
abbrev l9:SF:=(zp true 8<|zh (aC (zh (aC zm<|aC (fC<|.int 12) aN) yj)<|aC (fC<|.int 10) aN) Xd)
abbrev kJ:SF:=(zp true 9<|zh (aC (f2 zi zJ zx)<|aC (f2 (zZ<|dC zE dN) (f2 zE zE zR) zR) aN) yw)
abbrev mw:EF:=(WR zi (oS<|f2 zF zm zR) (oS<|f2 (f2 zF zm zR) zF zt) QE)
abbrev kP:SF:=(zp true 10<|zS (yB v8 yO) [none,some 9,some 3] y8 yx mw)
abbrev eD:SF:=(yJ (yB gf yO) (gN 12)<|ze (zp true 13<|zh (aC (f2 zi (f2 yN (fV 12) zt) zx)<|aC (f2 (zZ<|dC zE dN) (f2 zE yh zR) zR) aN) yw)<|yq<|vX 11 (dC (yd<|dC (f2 (fV 8) (fV 12) zx)<|dC (zS (yB (aC yh aN) yO) [none,some 13,some 3] y8 yx mw) dN) dN) vM)
abbrev fK:SF:=(yJ (yB (aC ZE aN) yO) (gN 12)<|ze (zp true 15<|zh (aC (f2 zi (f2 Nx (fV 12) zt) zx)<|aC (f2 (zZ<|dC yN dN) zE zR) aN) yw)<|yq<|vX 14 (dC (yd<|dC (f2 (fV 8) (f2 (fC<|.int 9) (fV 12) xt) zx)<|dC (zS (yB v8 yO) [none,some 15] y8 (fT<|f2 (f2 zi zm zx) zJ<|zy .Eq) zm) dN) dN) vM)
abbrev lZ:DF:=(dC zE<|dC yh<|dC (fV 10)<|dC (f2 K3 zE zM)<|dC WY<|dC (fV 14) dN)
def Vg:SF:=(ze (zp true 1 ik)<|ze kM<|ze (zp true 3<|f2 zE zJ zt)<|ze (zp true 4<|f2 yh zJ zt)<|ze l9<|ze kJ<|ze kP<|ze (zp false 11<|zZ dN)<|ze eD<|ze (zp false 14<|zZ dN)<|ze fK<|zw<|yd lZ)
def wV:Fn:=xY 16 1 Vg
noncomputable abbrev Kv:List Str:=["_law_m","_law_join","_law_rows","_law_a","_law_b","_law_i","_law_j","_law_one","_law_other"]
def TJ:FnScope Kv ["_law_m","_law_join","_law_rows","_law_a","_law_b"] (zd X7):=w9
abbrev eG:SF:=(yJ (yB v7 yO) (gN 6)<|ze (zp true 7<|f2 (f2 zF (f2 (f2 xr ZE zt) zm zM) zx) (f2 (f2 zi zE zx) yh zx) zx)<|ze (zp true 8<|f2 (f2 zi (f2 (f2 zF xr zx) zE zx) zx) (f2 (f2 zF ZE zx) yh zx) zx)<|yR (fT<|f2 K3 (fV 8)<|zy .NotEq) (zw<|fC<|.bl false) yM)
def L3:SF:=(ze (yJ (yB v7 yO) (gN 5) eG)<|zw<|fC<|.bl true)
def Uy:Fn:=xY 9 5 L3
noncomputable abbrev Uj:List Str:=["_law_algebra_here","_law_n","_law_m","_law_join","_law_nothing","_law_deeds","_law_signs","_law_p","_law_a","_law_b","_law_name","_law_rows","_law_empty"]
def VZ:FnScope Uj ["_law_algebra_here"] (zd Zp):=w9
abbrev t_:SF:=(Vu zm<|gT 6<|yG (gN 1)<|yG (gN 2)<|yG (gN 3)<|yG RG<|yG (gN 5)<|yG (gN 6) XM)
abbrev n4:SF:=(Vu (fP (aC K3 wA) DY)<|gT 2<|yG (gN 8)<|yG (gN 9) XM)
abbrev fu:SF:=(ze n4<|ze (yR (Fs (fT<|f2 (f2 (f2 zE yh zx) (fV 8) zx) (fV 8)<|zy .NotEq)<|fT<|f2 (f2 (f2 zE (fV 8) zx) yh zx) (fV 8)<|zy .NotEq) (zw<|fC<|.bl false) yM)<|ze (yR (fT<|f2 (f2 zE (f2 (f2 zE (fV 8) zx) (fV 9) zx) zx) (zS (xC<|f2 zE (fV 9) zx) [none,some 3,some 8] y8 yx<|f2 (f2 zi zF zx) zm zx)<|zy .NotEq) (zw<|fC<|.bl false) yM)<|yJ (YU xr) (gT 2<|yG (gN 10)<|yG (gN 11) XM)<|yR (wH<|fT<|zh (aC zF<|aC zE<|aC WY<|aC (fV 8)<|aC (fV 9) aN) Uy) (zw<|fC<|.bl false) yM)
def Q4:SF:=(ze t_<|ze (yJ (yB (aC (f2 zi zi zR) aN) yO) (gN 7) fu)<|ze (zp true 12<|zS (xC xr) [none,none,some 4] (gT 2<|yG y8<|yG (gN 1) XM) (fT<|f2 (f2 (f2 zi zV zx) zF zx) zF<|zy .NotEq) zm)<|zw<|Nr (f2 (fV 12) (zZ dN)<|zy .Eq)<|Nr (f2 xr (zZ dN)<|zy .NotEq)<|f2 ZE (zZ dN)<|zy .NotEq)
def Xv:Fn:=xY 13 1 Q4
abbrev NJ:List Str:=["_law_script","_law_algebra_here"]
def LB:FnScope NJ ["_law_script"] (zd Qx):=w9
def Mo:SF:=(ze (yR (BO (fT<|f2 (fP v7 xq) zV<|zy .Gt)<|fT<|f2 (f2 (f2 zm zV zx) yN zM) zJ<|zy .Eq) (ze (zp true 1<|zh v7 wV)<|yR (fT<|zh wA Xv) (zw zi) yM) yM)<|zw<|zh (aC zm<|aC zV aN) Zl)
def Qv:Fn:=xY 2 1 Mo
abbrev LN:List Str:=["_law_algebra_here","_law_n","_law_m","_law_join","_law_nothing","_law_deeds","_law_signs"]
def TX:FnScope LN ["_law_algebra_here"] (zd Wi):=w9
abbrev lN:SF:=(zp true 5<|zS (xC xr) [none,none] (gT 2<|yG y8<|yG (gN 1) XM) yx<|yd<|dC zm<|dC (zS (xC zi) [none] y8 yx<|fP v7 lstP) dN)
def LR:SF:=(ze t_<|ze lN<|zw<|yd<|dC zi<|dC zF<|dC (zS (xC zE) [none] y8 yx<|fP v7 lstP)<|dC yh<|dC xr<|dC (zS (xC ZE) [none,none] (gT 2<|yG y8<|yG (gN 1) XM) yx<|yd<|dC zm<|dC (fP wA lstP) dN) dN)
def YQ:Fn:=xY 7 1 LR
noncomputable abbrev LK:List Str:=["_law_algebra_here","_law_name","_law_row_here","_law_rows"]
def P5:FnScope LK ["_law_algebra_here","_law_name","_law_row_here"] (zd Wj):=w9
def Ke:SF:=(ze (zp true 3<|f2 (fP (aC (f2 zm Zw zx) aN) LY) zi zx)<|zw<|zS (xC zF) [none,some 3,some 0] y8 yx<|f2 (f2 zi (f2 zJ (f2 zF zJ zx) zM) zx) zm zx)
def Ze:Fn:=xY 4 3 Ke
abbrev Mn:List Str:=["_law_x","_law_n","_law_most","_law_many"]
def KB:FnScope Mn ["_law_x","_law_n","_law_most"] (zd Qm):=w9
def Ml:SF:=(ze (zp true 3<|f2 zm (f2 zF zJ zt) zM)<|ze (yR (fT<|f2 (f2 (f2 zm (fC<|.int 64) zD) Nx zM) zJ<|zy .Eq) (zp true 3<|f2 (fC<|.int 20) (f2 (f2 zm (fC<|.int 512) zD) (fC<|.int 40) zM) zt) yM)<|zw<|zh (aC (f2 zm (fC<|.int 32768) zD)<|aC (f2 (zZ<|dC zi dN) zE zR) aN) yw)
def Pl:Fn:=xY 4 3 Ml
abbrev Ug:List Str:=["_law_found","_law_due"]
def VB:FnScope Ug ["_law_found","_law_due"] (zd Zu):=w9
def Q5:SF:=(ze (yR (Fs (wH<|fT<|Ux zm "list")<|fT<|f2 zm zi<|zy .NotEq) (zw<|fC<|.bl false) yM)<|zw<|f2 (zS (xC zm) [none] y8 (Fs (fT<|Ux zm "bool")<|wH<|fT<|Ux zm "int") zm) (zZ dN)<|zy .Eq)
def wL:Fn:=xY 2 2 Q5
abbrev Vc:List Str:=["_law_found","_law_due"]
def XH:FnScope Vc ["_law_found","_law_due"] (zd wM):=w9
def WU:SF:=(zw<|Nr (Ux zm "int")<|Nr (CQ<|Ux zm "bool")<|f2 zm zi<|zy .Eq)
def yQ:Fn:=xY 2 2 WU
abbrev Rg:List Str:=["_law_x","_law_many","_law_one","_law_other","_law_kind"]
def Q7:FnScope Rg ["_law_x","_law_many"] (zd Yb):=w9
def UQ:SF:=(ze (Vu (zh (aC zm<|aC (zZ<|dC (fC<|.int 27720)<|dC (fC<|.int 27720)<|dC IB dN) aN) yw)<|gT 3<|yG (gN 2)<|yG (gN 3)<|yG RG XM)<|ze (zp true 2<|f2 zF (f2 zi zJ zt) zM)<|ze (zp true 3<|f2 zE (f2 zi zJ zt) zM)<|ze (yR (fT<|f2 yh zV<|zy .Eq) (zw<|yd<|dC zV<|dC zi dN) yM)<|ze (yR (fT<|f2 yh zJ<|zy .Eq) (zw<|yd<|dC zF<|dC (fP (aC (f2 zF zJ zt) wA) L_) dN) yM)<|zw<|yd<|dC (fP (aC zF v8) L_)<|dC (fP (aC zF v8) Nw) dN)
def WI:Fn:=xY 5 2 UQ
abbrev XG:List Str:=["self","way"]
def Rw:FnScope XG ["self","way"] (zd x5):=w9
def Zb:Cf:=(Zx (Vo 0 xj "way" zi)<|Jk 0 xl "trees" (zZ dN))
def yt(c:Str):Fn:=oB c 2 2 Zb
abbrev wX:List Str:=["self","algebra"]
def Pc:FnScope wX ["self","algebra"] (zd yS):=w9
def Yy:(["name","rows"]:List Str).Nodup:=by decide +kernel
def Yv:(["name","values"]:List Str).Nodup:=by decide +kernel
abbrev jd:EF:=(fP (aC (zS (xC<|f2 zi Zw zx) [none,none] (gT 2<|yG y8<|yG (gN 1) XM) yx<|yd<|dC zm<|dC (zh wA MZ) dN) aN) LY)
abbrev mN:EF:=(fP (aC (zS (xC<|f2 zi IB zx) [none,none] (gT 2<|yG y8<|yG (gN 1) XM) yx<|yd<|dC zm<|dC (fP wA tupP) dN) aN) LY)
def ZO:Cf:=(Zx (uW<|zh wA vE)<|Zx (Vo 0 xO "size" (f2 zi zV zx))<|Zx (Vo 0 Ql "around" (f2 zi zJ zx))<|Zx (Vo 0 Ld "table" (zh (aC (f2 zi yN zx) aN) MZ))<|Zx (Vo 0 LH "neutral" (f2 zi Wg zx))<|Zx (Vo 0 XI "waits" jd)<|Vo 0 Lx "holders" mN)
def yP(c:Str):Fn:=oB c 2 2 ZO
abbrev Ra:List Str:=["self","tree"]
def Na:FnScope Ra ["self","tree"] (zd Yh):=w9
def Yg:VF:=(Np (m4 0 1 xl "trees")<|FU<|f2 (jv 0 xl "trees") zJ xt)
def yT:List wK->O->Option (D×O):=sR 2 2 Yg
abbrev Va:List Str:=["self","thing"]
def XB:FnScope Va ["self","thing"] (zd vc):=w9
def Vi:SF:=(zw<|zh (aC zi<|aC zV<|aC (f2 (f1 zm<|zT xO "size") zJ xt) aN) vm)
def ZQ:Fn:=xY 2 2 Vi
def Th:List (Str×Fn):=[("Ways",ZQ)]
abbrev ZX:List Str:=["self","thing"]
def ZD:FnScope ZX ["self","thing"] (zd y_):=w9
def wu:SF:=(yR (wH<|fT<|Ye Th "is_value" (f1 zm<|zT xj "way") wA) Di yM)
def xh:Fn:=xY 2 2 wu
def YR:List (Str×Fn):=[("Makes",xh)]
abbrev UN:List Str:=["self","row","value"]
def Ua:FnScope UN ["self","row"] (zd Z7):=w9
def Yc:VF:=(Np (yR (wH<|fT<|Ux zi "list") Di yM)<|Np (yJ (YU zi) (gN 2)<|yq<|Z0 0 YR "check_value" ZA)<|Np (yq<|zh (aC (fP wA xq) aN) vq)<|FU<|Vx 0 "Makes" "keep" yT<|aC (zh (aC (O7 0 xj "way") wA)<|xM 20) aN)
def yX:List wK->O->Option (D×O):=sR 3 2 Yc
abbrev WW:List Str:=["self","make"]
def XJ:FnScope WW ["self","make"] (zd wY):=w9
def WS:SF:=(ze (yR (wH<|fT<|zh (aC zi<|aC zV<|aC (f2 (fP (aC (f1 zm<|zT xl "trees") aN) xq) zJ xt) aN) vm) Di yM)<|zw<|f2 (f1 zm<|zT xl "trees") zi zx)
def ZH:Fn:=xY 2 2 WS
def Yr:List (Str×Fn):=[("Makes",ZH)]
abbrev ZW:List Str:=["self","make","i","j","tree","pair","ahead"]
def ZC:FnScope ZW ["self","make","i","j"] (zd xa):=w9
def ZZ:SF:=(ze (zp true 4<|Ye Yr "tree_at" zm wA)<|ze (yq<|zh (aC zF<|aC zV<|aC (zh (aC yh aN) XU) aN) xJ)<|ze (yq<|zh (aC zE<|aC zF<|aC (zh (aC yh aN) XU) aN) xJ)<|ze (zp true 5<|zh (aC (f1 zm<|zT xj "way")<|aC yh v8)<|yy 20)<|ze (zp true 6<|zh (aC (f1 zm<|zT xj "way")<|aC (f2 xr zV zx) ZA)<|yy 20)<|zw<|yd<|dC (f2 ZE zV zx)<|dC (f2 ZE zJ zx)<|dC (f2 xr zJ zx) dN)
def wz:Fn:=xY 7 4 ZZ
abbrev VV:List Str:=["self","thing"]
def WN:FnScope VV ["self","thing"] (zd vF):=w9
def Vz:SF:=(zw<|Nr (Ux zi "str")<|f2 zi (f1 zm<|zT XI "waits")<|zy .In)
def YD:Fn:=xY 2 2 Vz
abbrev VJ:List Str:=["self","deed"]
def W9:FnScope VJ ["self","deed"] (zd vQ):=w9
def VY:SF:=(zw<|f2 (f1 zm<|zT XI "waits") zi zx)
def YN:Fn:=xY 2 2 VY
abbrev vP:List Str:=["self","ahead","stretch","rest"]
def vk:FnScope vP ["self","ahead","stretch","rest"] (zd yD):=w9
def vt:SF:=(zw<|BN<|zh (aC (f1 zm<|zT xj "way")<|aC (zh (aC (f1 zm<|zT xj "way")<|aC zi ZA)<|zN 20) v8)<|zN 20)
def yF:Fn:=xY 4 4 vt
def Y9:List (Str×Fn):=[("Makes",yF)]
def Uv:List (Str×Fn):=[("Ways",YN)]
def UB:List (Str×Fn):=[("Ways",YD)]
def Yo:List (Str×Fn):=[("Makes",wz)]
noncomputable abbrev UZ:List Str:=["self","make","i","j","deed","parts","stretch"]
def Xp:FnScope UZ ["self","make","i","j","deed"] (zd Z8):=w9
abbrev nY:EF:=(Z0 0 Y9 "three_together" (aC (f2 xr zV zx)<|aC ZE<|aC (f2 xr yN zx) aN))
def U0:VF:=(Np (zp true 5<|Z0 0 Yo "three_parts" (aC zi<|aC zF v8))<|Np (yR (wH<|fT<|Ye UB "is_deed" (O7 0 xj "way")<|aC yh aN) Di yM)<|Np (zp true 6<|zh (aC (O7 0 xj "way")<|aC (f2 xr zJ zx)<|aC (Ye Uv "wait_of" (O7 0 xj "way")<|aC yh aN) aN) Zg)<|FU<|Vx 0 "Makes" "keep" yT<|aC nY aN)
def vv:List wK->O->Option (D×O):=sR 7 5 U0
abbrev VX:List Str:=["self","make"]
def WJ:FnScope VX ["self","make"] (zd vB):=w9
def VT:SF:=(zw<|zh (aC (f1 zm<|zT xj "way")<|aC (Ye Yr "tree_at" zm wA) aN) XT)
def YK:Fn:=xY 2 2 VT
def Yl:List (Str×Fn):=[("Makes",YK)]
noncomputable abbrev sF:List Str:=["_law_script","_law_algebra_here","_law_makes","_law_rows","_law_names_here","_law_exchanged","_law_other","_law_beside","_law_lists","_law_number","_law_k","_law_x","_law_make","_law_i","_law_j","_law_name","_law_row_here"]
def JQ:FnScope sF ["_law_script"] (zd OK):=w9
abbrev nr:AF:=(aC yh<|aC (WR (f2 zi Zw zx) oN (oS<|f1 zJ EN) mh) aN)
abbrev kW:EF:=(f2 (WR zi oN (oS Zw) QE) (yd<|dC xr<|dC (f2 zi IB zx) dN) zt)
abbrev jt:AF:=(aC (fC<|.int 14)<|aC (fP (aC (fC<|.int 22)<|aC (fP (aC (fP v7 xq)<|aC (fC<|.int 63) aN) L_) aN) Nw) aN)
abbrev nJ:SF:=(zp true 12<|f2 (zZ<|dC (BN<|f2 (fP v8 xq) zJ xt)<|dC (BN<|f2 (fP v8 xq) zJ xt)<|dC (BN<|f2 (f2 WY (fC<|.int 12) zD) (fP v8 xq) zM) dN) (f2 WY Wg zM) zx)
abbrev km:SF:=(Vu (zh (aC (f2 WY (fC<|.int 1000) zD)<|aC (fP (aC (f2 zE (fV 12) zx) aN) xq) aN) WI)<|gT 2<|yG (gN 13)<|yG (gN 14) XM)
abbrev mT:SF:=(zp true 15<|f2 (f2 (f2 zi Zw zx) (f2 (f2 WY (fC<|.int 7) zD) (fP (aC (f2 zi Zw zx) aN) xq) zM) zx) zV zx)
abbrev rY:AF:=(aC (fV 12)<|aC (fV 13)<|aC (fV 14)<|aC (fV 15) aN)
abbrev mG:SF:=(yR (wH<|fT<|zh (aC (Vx 2 "Makes" "done" vv rY)<|aC (fP v8 xq) aN) yQ) (zw<|fC<|.bl false) yM)
abbrev pQ:AF:=(aC (fV 15)<|aC (WR (fV 16) (oS<|fV 13) (oS<|fV 14) QE) aN)
abbrev jz:SF:=(yR (wH<|fT<|zh (aC (Z0 2 Yl "listed" (aC (f2 (fP v8 xq) zJ xt) aN))<|aC (f2 zE (f1 zJ EN) zx) aN) wL) (zw<|fC<|.bl false) yM)
abbrev jo:SF:=(yR (fT<|f2 (Vx 7 "Makes" "done" vv rY) (f2 (fP v8 xq) zJ xt)<|zy .NotEq) (zw<|fC<|.bl false) yM)
abbrev js:SF:=(yR (fT<|f2 (Z0 7 Yl "listed" (aC (f2 (fP v8 xq) zJ xt) aN)) (f2 (fV 8) (f1 zJ EN) zx)<|zy .NotEq) (zw<|fC<|.bl false) yM)
def sJ:SF:=(ze (zp true 1<|zh v7 Qv)<|ze (zp false 2<|zh (aC (zh (aC (zh wA YQ) aN)<|yP "Ways") aN)<|yt "Makes")<|ze (zp false 3<|zZ<|dC (BN<|zh (aC (zh (aC zm<|aC (fC<|.int 13) aN) yj)<|aC (f2 zi zV zx)<|aC (fC<|.int 11) aN) Pl) dN)<|ze (zp true 4<|zS (xC<|f2 zi Zw zx) [none] y8 yx<|f2 zm zV zx)<|ze (zp true 5<|zS (Yz nr) [none,none] (gT 2<|yG y8<|yG (gN 1) XM) yx<|yd<|dC zm<|dC (f2 zi zJ zx) dN)<|ze (zp true 6 kW)<|ze (zp false 7<|zh (aC (zh (aC (zh (aC ZE aN) YQ) aN)<|yP "Ways") aN)<|yt "Makes")<|ze (zp false 8<|zZ<|dC (BN<|fP (aC (f2 zE zV zx) aN) lstP) dN)<|ze (yJ (YU<|zZ<|dC (BN<|Vx 2 "Makes" "made" yX<|aC (fP (aC (f2 zE zV zx) aN) lstP) aN)<|dC (BN<|Vx 7 "Makes" "made" yX<|aC (fP (aC (f2 zE zV zx) aN) lstP) aN) dN) (gN 9)<|yR (wH<|fT<|zh (aC (fV 9)<|aC zV aN) yQ) (zw<|fC<|.bl false) yM)<|ze (yJ (yB jt D2) (gN 10)<|ze (zp true 11<|zh (aC zm<|aC (fV 10) aN) yj)<|ze nJ<|ze km<|ze mT<|ze (zp true 16<|f2 zE (fV 12) zx)<|ze mG<|ze (yq<|vX 3 (dC (BN<|f2 (f2 (WR (fV 16) oN (oS<|fV 13) QE) (zh (aC zi pQ) Ze) zt) (WR (fV 16) (oS<|fV 14) oN QE) zt) dN) vM)<|ze jz<|ze (zp true 16<|f2 (fV 8) (fV 12) zx)<|ze (yq<|vX 8 (dC (BN<|f2 (f2 (WR (fV 16) oN (oS<|fV 13) QE) (zh (aC ZE pQ) Ze) zt) (WR (fV 16) (oS<|fV 14) oN QE) zt) dN) vM)<|ze jo js)<|ze (yJ (yB (aC (fP v8 xq) aN) yO) (gN 10)<|ze (yR (wH<|fT<|zh (aC (Z0 2 Yl "listed" (aC (fV 10) aN))<|aC (f2 zE (fV 10) zx) aN) wL) (zw<|fC<|.bl false) yM)<|yR (fT<|f2 (Z0 7 Yl "listed" (aC (fV 10) aN)) (f2 (fV 8) (fV 10) zx)<|zy .NotEq) (zw<|fC<|.bl false) yM)<|zw<|fC<|.bl true)
def Mf:Fn:=xY 17 1 sJ
structure Fq(K:zzA)(mg:Str->Option Value)(x:Str)(st:Stmt)(f:Addr)(d:FuncData)(ps:List Str):Prop where
 F:Fun K x x st f d
 b:Binds K d ps []
 m:mg x=some (.ref f)
def Xi{P:Program}{w:World}{K:zzA}{mg:Str->Option Value}{base:Heap}{kd:KD}{x:Str}{st:Stmt}{f:Addr}{d:FuncData}{N ps:List Str}{k:Nat}{c:SF}(Q:Fq K mg x st f d ps)(S:FnScope N ps (zd st))
 (hb:∀(cdv:Value) (A:Around) (outer:List Env) (s:Shared) (H:Hp) (E:XK),Room k (A.deeper<|envOfC x (zd st) s.heap.objs.size f cdv)->O0 (LM vI P w K mg base N x (zd st) f cdv A outer s H E).nox kd (Zo st) c):
 Co x P w K mg base kd (k+1) f d ps (xY N.length ps.length c):=⟨YH Q.F S hb,Q.m,Q.F.kp,Q.b⟩
set_option genInjectivity false in
set_option genSizeOf false in
structure Adr where
 Km:Addr
 KJ:FuncData
 P2:Addr
 Ta:FuncData
 Vk:Addr
 Vf:FuncData
 Vm:Addr
 W7:FuncData
 Q6:Addr
 Q2:FuncData
 R_:Addr
 UW:FuncData
 RU:Addr
 RF:FuncData
 V3:Addr
 V9:FuncData
 ZG:Addr
 ZR:FuncData
 NP:Addr
 NW:FuncData
 VN:Addr
 VH:FuncData
 Mu:Addr
 NO:FuncData
 PU:Addr
 PY:FuncData
 NN:Addr
 NL:FuncData
 Xj:Addr
 Xk:FuncData
 RA:Addr
 UM:FuncData
 VS:Addr
 VP:FuncData
 Lr:Addr
 KG:FuncData
 UV:Addr
 UU:FuncData
 LA:Addr
 Kr:FuncData
 Kx:Addr
 KZ:FuncData
 BQ:Addr
 Bl:FuncData
 Q1:Addr
 Ud:FuncData
 V8:Addr
 Vs:FuncData
 Fy:Addr
 FX:FuncData
 YI:Addr
 Yx:FuncData
 Qi:Addr
 Vt:FuncData
 QW:Addr
 Ue:FuncData
 RM:Addr
 Rq:FuncData
 JS:Addr
 Ag:FuncData
 K1:Addr
 LG:FuncData
 Ri:Addr
 UO:FuncData
 Tt:Addr
 Ts:FuncData
 Vl:Addr
 Vh:FuncData
 W5:Addr
 W_:FuncData
 Tv:Addr
 Tc:FuncData
 Tb:Addr
 Tx:FuncData
 La:Addr
 Kd:FuncData
 P3:Addr
 TH:FuncData
 Uk:Addr
 QV:FuncData
 WK:Addr
 W3:FuncData
 K7:Addr
 KI:FuncData
 Up:Addr
 QX:FuncData
 NS:Addr
 Mb:FuncData
 Le:Addr
 KU:FuncData
 Ll:Addr
 LS:FuncData
 Mj:Addr
 NV:FuncData
 Q8:Addr
 Um:FuncData
 WM:Addr
 Vj:FuncData
 RS:Addr
 RX:FuncData
 Zi:Addr
 Zj:FuncData
 ZL:Addr
 ZP:FuncData
 X2:Addr
 Wq:FuncData
 ZT:Addr
 ZI:FuncData
 wo:Addr
 wG:FuncData
 WC:Addr
 X8:FuncData
 ZF:Addr
 ZU:FuncData
 wj:Addr
 we:FuncData
 YE:Addr
 YA:FuncData
 Yt:Addr
 YO:FuncData
 xy:Addr
 xB:FuncData
 Wy:Addr
 X6:FuncData
 YS:Addr
 Yp:FuncData
 rk:Addr
 rM:FuncData
 Xq:Addr
 wZ:Addr
 vA:Addr
structure Txt(K:zzA)(kd:KD)(mg:Str->Option Value)(t:Adr):Prop where
 Sl:Fq K mg "is_whole" Wh t.Km t.KJ ["thing"]
 Bh:Fq K mg "is_within" Y1 t.P2 t.Ta ["thing","least","most"]
 Gy:Fq K mg "nothing_fails" wW t.Vk t.Vf ["algebra"]
 GE:Fq K mg "parting_fails" va t.Vm t.W7 ["algebra"]
 Nz:Fq K mg "doing_fails" Zs t.Q6 t.Q2 ["algebra","name","rows"]
 MW:Fq K mg "deeds_fail" Z_ t.R_ t.UW ["algebra"]
 EE:Fq K mg "what_fails" Z4 t.RU t.RF ["algebra"]
 Lz:Fq K mg "check_let_by" vO t.V3 t.V9 ["algebra"]
 Gg:Fun K "__init__" "Knot.__init__" wR t.ZG t.ZR
 Gv:Binds K t.ZR ["self","whole","back","wait","turn","one","other"] []
 CP:Fq K mg "leaf_of" Qu t.NP t.NW ["value"]
 B1:Fun K "join" "Ways.join" YY t.VN t.VH
 FP:Binds K t.VH ["self","one","other"] []
 CH:Fq K mg "knot_of" Qn t.Mu t.NO ["way","one","other"]
 Qq:Fun K "tree_of" "tree_of" Qo t.PU t.PY
 Pg:Binds K t.PY ["way","row"] []
 xM:mg "tree_of"=some (.ref t.PU)
 C3:Fq K mg "size_of" Qr t.NN t.NL ["tree"]
 L9:Fun K "behind" "Ways.behind" Zn t.Xj t.Xk
 Nq:Binds K t.Xk ["self","one","other"] []
 Eg:Fq K mg "both_waits" Z9 t.RA t.UM ["way","one","other"]
 FA:Fun K "made" "Ways.made" YZ t.VS t.VP
 BY:Binds K t.VP ["self","wait","value","many"] []
 SQ:Fq K mg "done_all" Wp t.Lr t.KG ["way","tree","wait"]
 Ea:Fq K mg "turned_all" Z5 t.UV t.UU ["way","tree"]
 SH:Fq K mg "parts_of" WH t.LA t.Kr ["way","knot"]
 Lc:Fun K "gather" "gather" RO t.Kx t.KZ
 BA:Binds K t.KZ ["way","tree","wait","turn","row"] []
 xU:mg "gather"=some (.ref t.Kx)
 IR:Fq K mg "row_of" UH t.BQ t.Bl ["way","tree"]
 ND:Fq K mg "leaned_left" Zt t.Q1 t.Ud ["way","one","other"]
 K4:Fq K mg "leaned_right" vL t.V8 t.Vs ["way","one","other"]
 J8:Fq K mg "evened" Rh t.Fy t.FX ["way","one","other"]
 xm:Fun K "put_together" "put_together" vp t.YI t.Yx
 xT:Binds K t.Yx ["way","one","other"] []
 zN:mg "put_together"=some (.ref t.YI)
 Y4:Fun K "parted_at" "parted_at" Y0 t.Qi t.Vt
 Vv:Binds K t.Vt ["way","tree","place"] []
 yy:mg "parted_at"=some (.ref t.Qi)
 Nt:Fq K mg "check_place" Zm t.QW t.Ue ["place","least","most"]
 EX:Fq K mg "check_size" Yd t.RM t.Rq ["size"]
 pJ:Fq K mg "firm" MK t.JS t.Ag ["rows"]
 Hq:Fq K mg "_law_draw" X9 t.K1 t.LG ["_law_script","_law_k"]
 Ey:Fq K mg "_law_digits" Yi t.Ri t.UO ["_law_x","_law_sizes"]
 FT:Fq K mg "_law_names" YX t.Tt t.Ts ["_law_x","_law_many"]
 GD:Fq K mg "_law_part_join" w_ t.Vl t.Vh ["_law_part","_law_a","_law_b"]
 Gk:Fq K mg "_law_part_done" vb t.W5 t.W_ ["_law_part","_law_x","_law_c","_law_a"]
 Bo:Fq K mg "_law_parts" Y6 t.Tv t.Tc ["_law_x"]
 Bn:Fq K mg "_law_split" Xc t.Tb t.Tx ["_law_parts_here","_law_value"]
 Ss:Fq K mg "_law_laid" Wc t.La t.Kd ["_law_parts_here","_law_row_here"]
 Bi:Fq K mg "_law_order" Y7 t.P3 t.TH ["_law_x","_law_n"]
 Nj:Fq K mg "_law_algebra" Zk t.Uk t.QV ["_law_script","_law_start"]
 T_:Fq K mg "_law_by_digits" wO t.WK t.W3 ["_law_script"]
 Ha:Fq K mg "_law_does" X7 t.K7 t.KI ["_law_m","_law_join","_law_rows","_law_a","_law_b"]
 NA:Fq K mg "_law_is_good" Zp t.Up t.QX ["_law_algebra_here"]
 O8:Fq K mg "_law_any" Qx t.NS t.Mb ["_law_script"]
 Sj:Fq K mg "_law_copy" Wi t.Le t.KU ["_law_algebra_here"]
 Sq:Fq K mg "_law_deed" Wj t.Ll t.LS ["_law_algebra_here","_law_name","_law_row_here"]
 Cu:Fq K mg "_law_row" Qm t.Mj t.NV ["_law_x","_law_n","_law_most"]
 Nm:Fq K mg "_law_is_list" Zu t.Q8 t.Um ["_law_found","_law_due"]
 Ge:Fq K mg "_law_is_number" wM t.WM t.Vj ["_law_found","_law_due"]
 MN:Fq K mg "_law_places" Yb t.RS t.RX ["_law_x","_law_many"]
 Pv:Fun K "__init__" "Makes.__init__" x5 t.Zi t.Zj
 PL:Binds K t.Zj ["self","way"] []
 GB:Fun K "__init__" "Ways.__init__" yS t.ZL t.ZP
 GH:Binds K t.ZP ["self","algebra"] []
 Ep:Fun K "keep" "Makes.keep" Yh t.X2 t.Wq
 EC:Binds K t.Wq ["self","tree"] []
 Gi:Fun K "is_value" "Ways.is_value" vc t.ZT t.ZI
 Gn:Binds K t.ZI ["self","thing"] []
 QI:Fun K "check_value" "Makes.check_value" y_ t.wo t.wG
 QF:Binds K t.wG ["self","thing"] []
 MV:Fun K "made" "Makes.made" Z7 t.WC t.X8
 E4:Binds K t.X8 ["self","row"] []
 Ga:Fun K "tree_at" "Makes.tree_at" wY t.ZF t.ZU
 Gh:Binds K t.ZU ["self","make"] []
 QD:Fun K "three_parts" "Makes.three_parts" xa t.wj t.we
 QH:Binds K t.we ["self","make","i","j"] []
 KY:Fun K "is_deed" "Ways.is_deed" vF t.YE t.YA
 Lh:Binds K t.YA ["self","thing"] []
 LC:Fun K "wait_of" "Ways.wait_of" vQ t.Yt t.YO
 Kf:Binds K t.YO ["self","deed"] []
 XY:Fun K "three_together" "Makes.three_together" yD t.xy t.xB
 Wr:Binds K t.xB ["self","ahead","stretch","rest"] []
 Eu:Fun K "done" "Makes.done" Z8 t.Wy t.X6
 E2:Binds K t.X6 ["self","make","i","j","deed"] []
 K9:Fun K "listed" "Makes.listed" vB t.YS t.Yp
 L6:Binds K t.Yp ["self","make"] []
 ja:Fq K mg "law" OK t.rk t.rM ["_law_script"]
 Yn:CI K kd mg "Knot" t.Xq
 x_:CI K kd mg "Makes" t.wZ
 vd:CI K kd mg "Ways" t.vA
 Gq:Meth K t.Xq "__init__" t.ZG
 Pf:Meth K t.wZ "__init__" t.Zi
 T5:Meth K t.vA "__init__" t.ZL
 Bm:Meth K t.vA "join" t.VN
 Nv:Meth K t.vA "behind" t.Xj
 ED:Meth K t.wZ "made" t.WC
 BJ:Meth K t.vA "made" t.VS
 Gs:Meth K t.vA "is_value" t.ZT
 Fb:Meth K t.wZ "keep" t.X2
 QB:Meth K t.wZ "check_value" t.wo
 GA:Meth K t.wZ "tree_at" t.ZF
 Wu:Meth K t.wZ "three_together" t.xy
 LV:Meth K t.vA "wait_of" t.Yt
 KW:Meth K t.vA "is_deed" t.YE
 QC:Meth K t.wZ "three_parts" t.wj
 E_:Meth K t.wZ "done" t.Wy
 Kc:Meth K t.wZ "listed" t.YS
 MU:yC K t.Xq "whole"
 Bb:yC K t.Xq "back"
 BS:yC K t.Xq "wait"
 FI:yC K t.Xq "turn"
 Hg:yC K t.Xq "one"
 EV:yC K t.Xq "other"
 FH:yC K t.Xq "deep"
 BW:yC K t.Xq "size"
 Fz:yC K t.vA "size"
 ML:yC K t.vA "table"
 NF:yC K t.vA "around"
 FF:yC K t.wZ "way"
 NB:yC K t.wZ "trees"
 Kq:yC K t.vA "neutral"
 Ez:yC K t.vA "waits"
 Kk:yC K t.vA "holders"
 NG:GC K kd mg "MOST_IN_ROW" (.int 300)
 pU:mg "bool"=none
 Hk:mg "dict"=none
 Im:mg "divmod"=none
 sO:mg "int"=none
 vS:mg "isinstance"=none
 Me:mg "len"=none
 Sh:mg "list"=none
 sY:mg "max"=none
 ky:mg "min"=none
 Ee:mg "range"=none
 lO:mg "str"=none
 nX:mg "sum"=none
 OJ:mg "tuple"=none
 Ar:mg "zip"=none
set_option maxHeartbeats 8000000
section
variable{P:Program}{w:World}{K:zzA}{mg:Str->Option Value}{base:Heap}{kd:KD}{t:Adr}
def GK(T:Txt K kd mg t):CF K kd vC "whole":=(wB T.Yn T.MU vh)
def IV(T:Txt K kd mg t):CF K kd Wz "back":=(wB T.Yn T.Bb vh)
def Sa(T:Txt K kd mg t):CF K kd Zr "wait":=(wB T.Yn T.BS vh)
def Hn(T:Txt K kd mg t):CF K kd Xa "turn":=(wB T.Yn T.FI vh)
def HU(T:Txt K kd mg t):CF K kd VQ "one":=(wB T.Yn T.Hg vh)
def GT(T:Txt K kd mg t):CF K kd Zv "other":=(wB T.Yn T.EV vh)
def Wk(T:Txt K kd mg t):CF K kd yz "deep":=(wB T.Yn T.FH vh)
def Ur(T:Txt K kd mg t):CF K kd xO "size":=(wB T.Yn T.BW<|wB T.vd T.Fz vh)
def OA(T:Txt K kd mg t):CF K kd Ld "table":=(wB T.vd T.ML vh)
def FQ(T:Txt K kd mg t):CF K kd Ql "around":=(wB T.vd T.NF vh)
def N_(T:Txt K kd mg t):CF K kd xj "way":=(wB T.x_ T.FF vh)
def GW(T:Txt K kd mg t):CF K kd xl "trees":=(wB T.x_ T.NB vh)
def Cc(T:Txt K kd mg t):CF K kd LH "neutral":=(wB T.vd T.Kq vh)
def HX(T:Txt K kd mg t):CF K kd XI "waits":=(wB T.vd T.Ez vh)
def CB(T:Txt K kd mg t):CF K kd Lx "holders":=(wB T.vd T.Kk vh)
variable(T:Txt K kd mg t)(hkd:Df P w K kd)
include T hkd
local macro_rules | `(tactic| trivial)=>do let T:=Lean.mkIdent `T;let h:=Lean.mkIdent `hkd;let r:=Lean.mkIdent `hr;`(tactic| first|(show AE _ _ _ _;first|exact av _|exact aI|(refine ax $h ?_ ?_<;>trivial)|(refine bn ?_ ?_<;>trivial)|exact aS|exact aZ|exact aB|(refine ec $h $r ?_ ?_<;>trivial)|(refine ec $h $r ?_ ?_ (hm:=rfl)<;>trivial)|(refine cq (by assumption) $r ?_<;>trivial)|(refine X5 ?_;trivial)|(refine A4 ?_;trivial)|(refine cm ?_ ?_ ?_ ?_<;>trivial)|(refine Ks ?_ ?_ ?_<;>trivial)|(refine o5 ?_ ?_<;>trivial)|(refine bi (XD ($h _ rfl rfl rfl)) (Txt.Me $T) Bt.len ?_;trivial)|(refine bi (Mq rfl) (Txt.sY $T) Bt.max ?_;trivial)|(refine bi (Cq rfl) (Txt.ky $T) Bt.min ?_;trivial)|(refine bi CV (Txt.Im $T) Bt.divmod ?_;trivial)|(refine bi (OY rfl) (Txt.nX $T) Bt.sum ?_;trivial)|(refine nh Ht (Txt.sO $T) Bt.int ?_;trivial)|(refine Kh ($h _ rfl rfl rfl) rfl rfl (Txt.vS $T) Bt.isinstance rfl (Txt.sO $T) Bt.int ?_ (Bt.n _ rfl) (by decide) (Bt.n _ rfl) (by decide) rfl rfl rfl;trivial)|(refine Kh ($h _ rfl rfl rfl) rfl rfl (Txt.vS $T) Bt.isinstance rfl (Txt.lO $T) Bt.str ?_ (Bt.n _ rfl) (by decide) (Bt.n _ rfl) (by decide) rfl rfl rfl;trivial)|(refine nh Ma (Txt.OJ $T) Bt.tuple ?_;trivial)|(refine nh C4 (Txt.Sh $T) Bt.list ?_;trivial)|(refine Kh ($h _ rfl rfl rfl) rfl rfl (Txt.vS $T) Bt.isinstance rfl (Txt.Sh $T) Bt.list ?_ (Bt.n _ rfl) (by decide) (Bt.n _ rfl) (by decide) rfl rfl rfl;trivial)|(refine nh (Ut rfl ($h _ rfl rfl rfl)) (Txt.Hk $T) Bt.dict ?_;trivial)|(refine Kh ($h _ rfl rfl rfl) rfl rfl (Txt.vS $T) Bt.isinstance rfl (Txt.pU $T) Bt.bool ?_ (Bt.n _ rfl) (by decide) (Bt.n _ rfl) (by decide) rfl rfl rfl;trivial)|(refine qH ?_;trivial)|(refine nC gv ?_;trivial)|(refine FC ?_ ?_ ?_<;>trivial)|(refine Al ?_ ?_<;>trivial)|(refine IA ?_;trivial)|(refine Bx (PD ($h _ rfl rfl rfl) (G6 $r) _) (PD ($h _ rfl rfl rfl) (G6 $r) _) ?_ ?_ ?_ (by with_unfolding_all rfl)<;>trivial)|(refine Sr Ph Ap PySem.F.slot_list_append PySem.F.type_list_append (pv _) ?_ rfl rfl rfl rfl rfl;trivial)|(refine Sr o6 r_ PySem.F.slot_list_insert PySem.F.type_list_insert (pv _) ?_ rfl rfl rfl rfl rfl;trivial)|(refine tK (ty:=.lst) ($h _ rfl rfl rfl) (IG ($h _ rfl rfl rfl) (G6 $r)) PySem.F.plainAttrs_list PySem.F.slot_list_index PySem.F.type_list_index ?_ ?_ rfl rfl rfl rfl rfl<;>trivial)|exact oH (Txt.NG $T) rfl (by decide)|(refine fd (Wk $T) ?_;trivial)|(refine fd (Ur $T) ?_;trivial)|(refine fd (OA $T) ?_;trivial)|(refine fd (GK $T) ?_;trivial)|(refine fd (IV $T) ?_;trivial)|(refine fd (FQ $T) ?_;trivial)|(refine fd (Sa $T) ?_;trivial)|(refine fd (Hn $T) ?_;trivial)|(refine fd (HU $T) ?_;trivial)|(refine fd (GT $T) ?_;trivial)|(refine fd (N_ $T) ?_;trivial)|(refine fd (GW $T) ?_;trivial)|(refine fd (HX $T) ?_;trivial)|(refine mq (Txt.Yn $T).eq ((Txt.Yn $T).mk' (Txt.Gq $T)) (by assumption) $r (Txt.Yn $T).mg (Txt.Gv $T) ?_;trivial)|(refine mq (Txt.x_ $T).eq ((Txt.x_ $T).mk' (Txt.Pf $T)) (by assumption) $r (Txt.x_ $T).mg (Txt.PL $T) ?_;trivial)|(refine mq (Txt.vd $T).eq ((Txt.vd $T).mk' (Txt.T5 $T)) (by assumption) $r (Txt.vd $T).mg (Txt.GH $T) ?_;trivial)|(refine mt (by assumption) $r ?_ ?_ rfl<;>trivial)|(refine GM (by assumption) (($r).mono (by omega)) Xw (pv _) ?_ rfl rfl rfl;trivial)|(refine M6 (by assumption) (($r).mono (by omega)) Xw (pv _) ?_ rfl rfl rfl;trivial)|(refine kr ?_;trivial))|(show AA _ _ _ _;first|(refine bc ?_ ?_<;>trivial)|exact zQ)|exact M9|(refine tL ?_;trivial)|(intro _;trivial)|(show B2 _ _ _ _;first|(refine dz (by assumption) ?_ ?_ ?_ ?_<;>trivial)|(refine vi ?_;trivial)|(refine Qj ?_ ?_ ?_<;>trivial)|(refine dr ?_ ?_ ?_<;>trivial)|(refine D7 ?_ rfl;trivial)|(refine sv _ _ (by assumption) ?_;trivial)|(refine gx ?_ ?_<;>trivial)|exact jF)|(show O0 _ _ _ _;first|(refine sj _ (by assumption) ?_ ?_<;>trivial)|(refine xG ?_ ?_<;>trivial)|(refine xg ?_;trivial)|exact vH)|(show AT _ _ _ _;first|(refine tc $h $r ?_ ?_<;>trivial)|(refine Sz ?_;trivial)|(refine M0 ?_ (λ_=>rfl);trivial)|(refine AW.at_ ?_;trivial))|(show AD _ _ _ _;first|(refine bd ?_ ?_<;>trivial)|exact YM)|(show AO _ _ _ _;first|(refine GI ?_;trivial)|exact Em)|(show AG _ _ _ _ _;first|exact an _ (by assumption)|exact an _ (du (by kernel_rfl))|(refine EO rfl ?_ rfl rfl;trivial))|(show sW _ _ _ _ _;first|(refine dD ?_ ?_<;>trivial)|exact G0)|(show nv _ _ _ _;first|exact gz _ (by assumption)|(refine hV ?_;trivial))|(show IZ _ _ _ _;first|(refine g8 ?_ ?_<;>trivial)|exact iB)|(show D0 _ _ _ _ _;first|(refine CM rfl (Txt.Ee $T) ?_ rfl;trivial)|(refine tP rfl (Txt.Ar $T) ?_ rfl rfl;trivial)|(refine uz rfl (Txt.Ar $T) ?_ rfl rfl;trivial)|(refine SU ?_;trivial))|(show AI _ _ _ _ _;first|(refine CY rfl (Txt.Ee $T) ?_ rfl;trivial)|(refine Cy rfl (Txt.Ee $T) ?_ rfl rfl;trivial)|(refine uS rfl (Txt.Ar $T) ?_ rfl rfl;trivial)|(refine He ?_;trivial))|(show AW _ _ _ _;first|(refine lh ?_ ?_<;>trivial)|(refine oC ?_ ?_<;>trivial)|(refine CL ?_;trivial)|(refine SR ?_;trivial)))
theorem S4:Co "is_whole" P w K mg base kd 1 t.Km t.KJ ["thing"] UD:=by
 refine Xi (N:=Lb) (k:=0) (c:=G8) T.Sl Tr λ_ _ _ _ _ _ hr=>?_;have:=Tr.nd;conv=>arg 3;whnf
 trivial
theorem VC:Co "is_within" P w K mg base kd 2 t.P2 t.Ta ["thing","least","most"] vm:=by
 refine Xi (N:=Td) (k:=1) (c:=P_) T.Bh El λcdv A outer s H E hr=>?_;exact(xg<|vi<|Al (cq (S4 T hkd) hr<|bc (av 0) zQ)<|IA<|Bx (PD (hkd _ rfl rfl rfl) (G6 hr) .LtE) (PD (hkd _ rfl rfl rfl) (G6 hr) .LtE) (av 1) (av 0) (av 2)<|by with_unfolding_all rfl)
theorem T6:Co "nothing_fails" P w K mg base kd 1 t.Vk t.Vf ["algebra"] ZK:=by
 refine Xi (N:=WQ) (k:=0) (c:=ZV) T.Gy XR λ_ _ _ _ _ _ hr=>?_;have:=XR.nd;conv=>arg 3;whnf
 trivial
theorem Gb:Co "parting_fails" P w K mg base kd 1 t.Vm t.W7 ["algebra"] ZN:=by
 refine Xi (N:=Ve) (k:=0) (c:=W4) T.GE Xz λ_ _ _ _ _ _ hr=>?_;have:=Xz.nd;conv=>arg 3;whnf
 trivial
theorem Nk:Co "doing_fails" P w K mg base kd 1 t.Q6 t.Q2 ["algebra","name","rows"] Xf:=by
 refine Xi (N:=Uq) (k:=0) (c:=QU) T.Nz VO λ_ _ _ _ _ _ hr=>?_;have:=VO.nd;conv=>arg 3;whnf
 trivial
theorem ET:Co "deeds_fail" P w K mg base kd 2 t.R_ t.UW ["algebra"] Wt:=by
 refine Xi (N:=RH) (k:=1) (c:=U6) T.MW Ul λ_ _ _ _ _ _ hr=>?_;have:=Ul.nd;have:=Nk (base:=base) T hkd;conv=>arg 3;whnf
 trivial
theorem E9:Co "what_fails" P w K mg base kd 3 t.RU t.RF ["algebra"] WG:=by
 refine Xi (N:=RL) (k:=2) (c:=RR) T.EE QY λ_ _ _ _ _ _ hr=>?_;have:=QY.nd;have:=T6 (base:=base) T hkd;have:=Gb (base:=base) T hkd;have:=ET (base:=base) T hkd;conv=>arg 3;whnf
 trivial
theorem Kj:Co "check_let_by" P w K mg base kd 4 t.V3 t.V9 ["algebra"] vE:=by
 refine Xi (N:=V5) (k:=3) (c:=Yu) T.Lz Vd λ_ _ _ _ _ _ hr=>?_;have:=Vd.nd;have:=E9 (base:=base) T hkd;conv=>arg 3;whnf
 trivial
theorem wU(c:Str):FnOk P w K mg base vI 1 t.ZG t.ZR ["self","whole","back","wait","turn","one","other"] (p4 K kd c<|yg c):=by
 refine Si (N:=W6) (k:=0) (b:=ZM) T.Gg P0 (by decide) λcdv A outer s H E hr=>?_;exact(yU (xu (GK T) (pv 0) (av 1) rfl)<|yU (xu (IV T) (pv 0) (av 2) rfl)<|yU (xu (Sa T) (pv 0) (av 3) rfl)<|yU (xu (Hn T) (pv 0) (av 4) rfl)<|yU (xu (HU T) (pv 0) (av 5) rfl)<|yU (xu (GT T) (pv 0) (av 6) rfl)<|yU (xu (Wk T) (pv 0) (FC (tc hkd hr (av 5) aZ) aI<|bn aI<|bi (Mq rfl) T.sY Bt.max<|bc (fd (Wk T)<|av 5)<|bc (fd (Wk T)<|av 6) zQ) rfl)<|Fd<|xu (Ur T) (pv 0) (FC (tc hkd hr (av 5) aZ) aI<|bn (fd (Ur T)<|av 5)<|fd (Ur T)<|av 6) rfl)
theorem Ms:Co "leaf_of" P w K mg base kd 3 t.NP t.NW ["value"] Qs:=by
 refine Xi (N:=Mp) (k:=2) (c:=ME) T.CP Ki λ_ _ _ _ _ _ hr=>?_;have:=Ki.nd;have:=wU (base:=base) T hkd "Knot";conv=>arg 3;whnf
 trivial
theorem FE:FnOk P w K mg base vI 1 t.VN t.VH ["self","one","other"] (Tf K kd Vy):=by
 refine YH (N:=Tn) (k:=0) (c:=To) T.B1 U7 λ_ _ _ _ _ _ hr=>?_;have:=U7.nd;conv=>arg 3;whnf
 trivial
theorem pS:MT P w K mg base kd "join" 1 RD:=(YT T.vd T.Bm (FE T hkd) (by decide) T.FP Ys)
theorem XE:Co "knot_of" P w K mg base kd 3 t.Mu t.NO ["way","one","other"] yu:=by
 refine Xi (N:=NU) (k:=2) (c:=MF) T.CH Lq λ_ _ _ _ _ _ hr=>?_;have:=Lq.nd;have:=wU (base:=base) T hkd "Knot";have:=pS (base:=base) T hkd;conv=>arg 3;whnf
 trivial
omit T hkd in
theorem N3(T:Txt K kd mg t)(hkd:Df P w K kd):∀n:Nat,FnOk P w K mg base vI (3+n) t.PU t.PY ["way","row"] (Tf K kd<|xM n)
 |0=>Eh
 |n+1=>by
  have G:=N3 T hkd n;refine YH (N:=Mr) (k:=3+n) (c:=NZ<|xM n) T.Qq LZ λcdv A outer s H E hr=>?_;exact(by
  refine xG ?_ ?_;exact(Qj (tc hkd hr (bi (XD<|hkd _ rfl rfl rfl) T.Me Bt.len<|bc (av 1) zQ) aI) (xg<|vi aZ) vH);refine xG ?_ ?_;exact(Qj (tc hkd hr (bi (XD<|hkd _ rfl rfl rfl) T.Me Bt.len<|bc (av 1) zQ) aI) (xg<|vi<|cq (Ms T hkd) hr<|bc (ax hkd (av 1) aI) zQ) vH);refine sj 2 LZ.nd ?_ ?_;exact(bn (bi (XD<|hkd _ rfl rfl rfl) T.Me Bt.len<|bc (av 1) zQ) aI);exact xg<|vi<|cq (XE T hkd) hr<|bc (av 0)<|bc (ck G hr T.xM T.Qq.kp T.Pg<|bc (av 0)<|bc (Ks (av 1) Em<|GI<|av 2) zQ)<|bc (ck G hr T.xM T.Qq.kp T.Pg<|bc (av 0)<|bc (Ks (av 1) (GI<|av 2) Em) zQ) zQ)
theorem Cv:Co "size_of" P w K mg base kd 1 t.NN t.NL ["tree"] XU:=by
 refine Xi (N:=MC) (k:=0) (c:=Mt) T.C3 L7 λ_ _ _ _ _ _ hr=>?_;have:=L7.nd;conv=>arg 3;whnf
 trivial
theorem Ny:FnOk P w K mg base vI 1 t.Xj t.Xk ["self","one","other"] (Tf K kd Xg):=by
 refine YH (N:=QS) (k:=0) (c:=Q9) T.L9 Qe λ_ _ _ _ _ _ hr=>?_;have:=Qe.nd;conv=>arg 3;whnf
 trivial
theorem JG:MT P w K mg base kd "behind" 1 NR:=(YT T.vd T.Nv (Ny T hkd) (by decide) T.Nq Ys)
theorem US:Co "both_waits" P w K mg base kd 2 t.RA t.UM ["way","one","other"] XZ:=by
 refine Xi (N:=Rm) (k:=1) (c:=Pa) T.Eg Ub λ_ _ _ _ _ _ hr=>?_;have:=Ub.nd;have:=JG (base:=base) T hkd;conv=>arg 3;whnf
 trivial
theorem Bv:FnOk P w K mg base vI 1 t.VS t.VP ["self","wait","value","many"] (Tf K kd VR):=by
 refine YH (N:=TC) (k:=0) (c:=Tw) T.FA U4 λ_ _ _ _ _ _ hr=>?_;have:=U4.nd;conv=>arg 3;whnf
 trivial
theorem JX:MT P w K mg base kd "made" 1 U3:=(YT T.vd T.BJ (Bv T hkd) (by decide) T.BY Ys)
theorem Lo:Co "done_all" P w K mg base kd 4 t.Lr t.KG ["way","tree","wait"] Zg:=by
 refine Xi (N:=G4) (k:=3) (c:=Kp) T.SQ Tg λ_ _ _ _ _ _ hr=>?_;have:=Tg.nd;have:=JX (base:=base) T hkd;have:=Ms (base:=base) T hkd;have:=wU (base:=base) T hkd "Knot";have:=US (base:=base) T hkd;conv=>arg 3;whnf
 trivial
theorem EZ:Co "turned_all" P w K mg base kd 3 t.UV t.UU ["way","tree"] Z2:=by
 refine Xi (N:=UI) (k:=2) (c:=Rk) T.Ea Uc λ_ _ _ _ _ _ hr=>?_;have:=Uc.nd;have:=wU (base:=base) T hkd "Knot";conv=>arg 3;whnf
 trivial
theorem YF:Co "parts_of" P w K mg base kd 5 t.LA t.Kr ["way","knot"] vg:=by
 refine Xi (N:=LI) (k:=4) (c:=Ko) T.SH TR λ_ _ _ _ _ _ hr=>?_;have:=TR.nd;have:=Lo (base:=base) T hkd;have:=EZ (base:=base) T hkd;conv=>arg 3;whnf
 trivial
omit T hkd in
theorem FM(T:Txt K kd mg t)(hkd:Df P w K kd):∀n:Nat,FnOk P w K mg base vI (2+n) t.Kx t.KZ ["way","tree","wait","turn","row"] (Ab K kd<|xU n)
 |0=>J1
 |n+1=>by
  have G:=FM T hkd n;refine qh (N:=FS) (k:=2+n) (c:=KC<|xU n) T.Lc Xx (by decide) λcdv A outer s H E hr=>?_;exact(O3 (tc hkd hr (fd (Wk T)<|av 1) aI) (E6 (Sr Ph Ap PySem.F.slot_list_append PySem.F.type_list_append (pv 4) (bd (FC (tc hkd hr (av 2) aZ) (fd (GK T)<|av 1)<|mt (JX T hkd) hr (av 0) (bc (av 2)<|bc (fd (GK T)<|av 1)<|bc aI zQ) rfl) YM) rfl rfl rfl rfl rfl) rfl)<|by
  refine KQ ?_ ?_;exact(by refine kz true 5 (by decide) Xx.nd ?_;exact(cq (US T hkd) hr<|bc (av 0)<|bc (fd (Sa T)<|av 1)<|bc (av 2) zQ));refine KQ ?_ ?_;exact(by refine kz true 6 (by decide) Xx.nd ?_;exact(ec hkd hr (fd (Hn T)<|av 1)<|av 3));refine KQ ?_ ?_;exact(by refine kz true 7 (by decide) Xx.nd ?_;exact(FC (M0 (av 6) λ_=>rfl) (X5<|bd (fd (GT T)<|av 1)<|bd (fd (HU T)<|av 1) YM)<|X5<|bd (fd (HU T)<|av 1)<|bd (fd (GT T)<|av 1) YM));exact UT<|Aj (by decide) PassesOwn.never rfl (He<|av 7) (an 8 Xx.nd) (UT<|BV (i:=4) G (hr.mono<|by omega) rfl T.xU T.Lc.kp T.BA Xw (bc (av 0)<|bc (av 8)<|bc (av 5)<|bc (av 6)<|bc (av 4) zQ) (by decide) rfl rfl rfl) λ_=>rfl)
theorem Jy:Co "row_of" P w K mg base kd 23 t.BQ t.Bl ["way","tree"] XT:=by
 refine Xi (N:=BH) (k:=22) (c:=By) T.IR Pb λ_ _ _ _ _ _ hr=>?_;have:=Pb.nd;conv=>arg 3;whnf
 exact(by
  refine sj 2 Pb.nd ?_ ?_;trivial;refine xG ?_ ?_;exact(Qj (tc hkd hr (av 1) aZ) (xg<|JO (i:=2) (FM T hkd 20) (hr.mono<|by omega) rfl T.xU T.Lc.kp T.BA Xw (bc (av 0)<|bc (av 1)<|bc aZ<|bc aB<|bc (av 2) zQ) (by decide) rfl rfl rfl) vH);exact xg<|vi<|av 2)
theorem Nn:Co "leaned_left" P w K mg base kd 6 t.Q1 t.Ud ["way","one","other"] Xs:=by
 refine Xi (N:=Uh) (k:=5) (c:=QP) T.ND VD λ_ _ _ _ _ _ hr=>?_;have:=VD.nd;have:=YF (base:=base) T hkd;have:=XE (base:=base) T hkd;conv=>arg 3;whnf
 trivial
theorem L8:Co "leaned_right" P w K mg base kd 6 t.V8 t.Vs ["way","one","other"] YJ:=by
 refine Xi (N:=V1) (k:=5) (c:=Qf) T.K4 Vb λ_ _ _ _ _ _ hr=>?_;have:=Vb.nd;have:=YF (base:=base) T hkd;have:=XE (base:=base) T hkd;conv=>arg 3;whnf
 trivial
theorem FZ:Co "evened" P w K mg base kd 7 t.Fy t.FX ["way","one","other"] RJ:=by
 refine Xi (N:=FD) (k:=6) (c:=BG) T.J8 Mg λ_ _ _ _ _ _ hr=>?_;have:=Mg.nd;have:=Nn (base:=base) T hkd;have:=L8 (base:=base) T hkd;have:=XE (base:=base) T hkd;conv=>arg 3;whnf
 trivial
omit T hkd in
theorem vK(T:Txt K kd mg t)(hkd:Df P w K kd):∀n:Nat,FnOk P w K mg base vI (7+n) t.YI t.Yx ["way","one","other"] (Tf K kd<|zN n)
 |0=>Eh
 |n+1=>by
  have G:=vK T hkd n;refine YH (N:=VM) (k:=7+n) (c:=Vr<|zN n) T.xm ZJ λcdv A outer s H E hr=>?_;exact(by
  refine xG ?_ ?_;exact(Qj (tc hkd hr (av 1) aZ) (xg<|vi<|av 2) vH);refine xG ?_ ?_;exact(Qj (tc hkd hr (av 2) aZ) (xg<|vi<|av 1) vH);refine xG ?_ ?_;exact(Qj (tc hkd hr (fd (Wk T)<|av 1)<|bn (fd (Wk T)<|av 2) aI) (by
  refine sj 3 ZJ.nd ?_ ?_;exact(cq (YF T hkd) hr<|bc (av 0)<|bc (av 1) zQ);exact xg<|vi<|cq (FZ T hkd) hr<|bc (av 0)<|bc (ax hkd (av 3) aI)<|bc (ck G hr T.zN T.xm.kp T.xT<|bc (av 0)<|bc (ax hkd (av 3) aI)<|bc (av 2) zQ) zQ) vH)
  refine xG ?_ ?_;exact(Qj (tc hkd hr (fd (Wk T)<|av 2)<|bn (fd (Wk T)<|av 1) aI) (by
  refine sj 3 ZJ.nd ?_ ?_;exact(cq (YF T hkd) hr<|bc (av 0)<|bc (av 2) zQ);exact xg<|vi<|cq (FZ T hkd) hr<|bc (av 0)<|bc (ck G hr T.zN T.xm.kp T.xT<|bc (av 0)<|bc (av 1)<|bc (ax hkd (av 3) aI) zQ)<|bc (ax hkd (av 3) aI) zQ) vH)
  exact xg<|vi<|cq (XE T hkd) hr<|bc (av 0)<|bc (av 1)<|bc (av 2) zQ)
omit T hkd in
theorem Tq(T:Txt K kd mg t)(hkd:Df P w K kd):∀n:Nat,FnOk P w K mg base vI (27+n) t.Qi t.Vt ["way","tree","place"] (Tf K kd<|yy n)
 |0=>Eh
 |n+1=>by
  have G:=Tq T hkd n;refine YH (N:=Tu) (k:=27+n) (c:=P9<|yy n) T.Y4 vW λcdv A outer s H E hr=>?_;exact(by
  refine xG ?_ ?_;exact(Qj (tc hkd hr (av 2) aI) (xg<|vi<|X5<|bd aZ<|bd (av 1) YM) vH);refine xG ?_ ?_;exact(Qj (tc hkd hr (av 2)<|fd (Ur T)<|av 1) (xg<|vi<|X5<|bd (av 1)<|bd aZ YM) vH);refine sj 3 vW.nd ?_ ?_;exact(cq (YF T hkd) hr<|bc (av 0)<|bc (av 1) zQ);refine sj 4 vW.nd ?_ ?_;exact(fd (Ur T)<|ax hkd (av 3) aI);refine xG ?_ ?_;exact(Qj (tc hkd hr (av 2)<|av 4) (by
  refine sj 5 vW.nd ?_ ?_;exact(ck G hr T.yy T.Y4.kp T.Vv<|bc (av 0)<|bc (ax hkd (av 3) aI)<|bc (av 2) zQ);exact xg<|vi<|X5<|bd (ax hkd (av 5) aI)<|bd (ck (vK T hkd 20) hr T.zN T.xm.kp T.xT<|bc (av 0)<|bc (ax hkd (av 5) aI)<|bc (ax hkd (av 3) aI) zQ) YM) vH)
  refine sj 5 vW.nd ?_ ?_;exact(ck G hr T.yy T.Y4.kp T.Vv<|bc (av 0)<|bc (ax hkd (av 3) aI)<|bc (bn (av 2)<|av 4) zQ);exact xg<|vi<|X5<|bd (ck (vK T hkd 20) hr T.zN T.xm.kp T.xT<|bc (av 0)<|bc (ax hkd (av 3) aI)<|bc (ax hkd (av 5) aI) zQ)<|bd (ax hkd (av 5) aI) YM)
theorem Ng:Co "check_place" P w K mg base kd 3 t.QW t.Ue ["place","least","most"] xJ:=by
 refine Xi (N:=Uo) (k:=2) (c:=Xn) T.Nt V_ λ_ _ _ _ _ _ hr=>?_;have:=V_.nd;have:=VC (base:=base) T hkd;conv=>arg 3;whnf
 trivial
theorem Ft:Co "check_size" P w K mg base kd 1 t.RM t.Rq ["size"] vq:=by
 refine Xi (N:=UG) (k:=0) (c:=Wo) T.EX QR λ_ _ _ _ _ _ hr=>?_;have:=QR.nd;conv=>arg 3;whnf
 trivial
theorem JD:Co "firm" P w K mg base kd 1 t.JS t.Ag ["rows"] MZ:=by
 refine Xi (N:=IJ) (k:=0) (c:=JK) T.pJ Os λ_ _ _ _ _ _ hr=>?_;have:=Os.nd;conv=>arg 3;whnf
 trivial
theorem UA:Co "_law_draw" P w K mg base kd 1 t.K1 t.LG ["_law_script","_law_k"] yj:=by
 refine Xi (N:=Lj) (k:=0) (c:=LP) T.Hq P1 λ_ _ _ _ _ _ hr=>?_;have:=P1.nd;conv=>arg 3;whnf
 trivial
theorem Yj:Co "_law_digits" P w K mg base kd 1 t.Ri t.UO ["_law_x","_law_sizes"] yw:=by
 refine Xi (N:=Rz) (k:=0) (c:=UR) T.Ey Q0 λ_ _ _ _ _ _ hr=>?_;have:=Q0.nd;conv=>arg 3;whnf
 trivial
theorem P4:Co "_law_names" P w K mg base kd 2 t.Tt t.Ts ["_law_x","_law_many"] Xd:=by
 refine Xi (N:=TL) (k:=1) (c:=Tj) T.FT Ry λ_ _ _ _ _ _ hr=>?_;have:=Ry.nd;have:=Yj (base:=base) T hkd;conv=>arg 3;whnf
 trivial
theorem Gf:Co "_law_part_join" P w K mg base kd 1 t.Vl t.Vh ["_law_part","_law_a","_law_b"] wQ:=by
 refine Xi (N:=Vn) (k:=0) (c:=WX) T.GD Xy λ_ _ _ _ _ _ hr=>?_;have:=Xy.nd;conv=>arg 3;whnf
 trivial
theorem Gc:Co "_law_part_done" P w K mg base kd 1 t.W5 t.W_ ["_law_part","_law_x","_law_c","_law_a"] xI:=by
 refine Xi (N:=WZ) (k:=0) (c:=WV) T.Gk XQ λ_ _ _ _ _ _ hr=>?_;have:=XQ.nd;conv=>arg 3;whnf
 trivial
theorem BC:Co "_law_parts" P w K mg base kd 1 t.Tv t.Tc ["_law_x"] Qd:=by
 refine Xi (N:=P6) (k:=0) (c:=P7) T.Bo U_ λ_ _ _ _ _ _ hr=>?_;have:=U_.nd;conv=>arg 3;whnf
 trivial
theorem Bf:Co "_law_split" P w K mg base kd 1 t.Tb t.Tx ["_law_parts_here","_law_value"] VU:=by
 refine Xi (N:=Tz) (k:=0) (c:=TN) T.Bn Rc λ_ _ _ _ _ _ hr=>?_;have:=Rc.nd;conv=>arg 3;whnf
 trivial
theorem S7:Co "_law_laid" P w K mg base kd 1 t.La t.Kd ["_law_parts_here","_law_row_here"] xv:=by
 refine Xi (N:=KM) (k:=0) (c:=Ka) T.Ss TB λ_ _ _ _ _ _ hr=>?_;have:=TB.nd;conv=>arg 3;whnf
 trivial
theorem FV:Co "_law_order" P w K mg base kd 1 t.P3 t.TH ["_law_x","_law_n"] VG:=by
 refine Xi (N:=TV) (k:=0) (c:=Te) T.Bi RC λ_ _ _ _ _ _ hr=>?_;have:=RC.nd;conv=>arg 3;whnf
 trivial
theorem NH:Co "_law_algebra" P w K mg base kd 3 t.Uk t.QV ["_law_script","_law_start"] Zl:=by
 refine Xi (N:=QZ) (k:=2) (c:=Q_) T.Nj Qh λ_ _ _ _ _ _ hr=>?_;have:=Qh.nd;have:=BC (base:=base) T hkd;have:=UA (base:=base) T hkd;have:=S7 (base:=base) T hkd;have:=FV (base:=base) T hkd;have:=Bf (base:=base) T hkd;have:=Gf (base:=base) T hkd;have:=P4 (base:=base) T hkd;have:=Gc (base:=base) T hkd;conv=>arg 3;whnf
 trivial
theorem Gp:Co "_law_by_digits" P w K mg base kd 3 t.WK t.W3 ["_law_script"] wV:=by
 refine Xi (N:=W8) (k:=2) (c:=Vg) T.T_ XS λ_ _ _ _ _ _ hr=>?_;have:=XS.nd;have:=Yj (base:=base) T hkd;have:=P4 (base:=base) T hkd;have:=UA (base:=base) T hkd;conv=>arg 3;whnf
 trivial
theorem SC:Co "_law_does" P w K mg base kd 1 t.K7 t.KI ["_law_m","_law_join","_law_rows","_law_a","_law_b"] Uy:=by
 refine Xi (N:=Kv) (k:=0) (c:=L3) T.Ha TJ λ_ _ _ _ _ _ hr=>?_;have:=TJ.nd;conv=>arg 3;whnf
 trivial
theorem Nl:Co "_law_is_good" P w K mg base kd 2 t.Up t.QX ["_law_algebra_here"] Xv:=by
 refine Xi (N:=Uj) (k:=1) (c:=Q4) T.NA VZ λ_ _ _ _ _ _ hr=>?_;have:=VZ.nd;have:=SC (base:=base) T hkd;conv=>arg 3;whnf
 trivial
theorem C6:Co "_law_any" P w K mg base kd 4 t.NS t.Mb ["_law_script"] Qv:=by
 refine Xi (N:=NJ) (k:=3) (c:=Mo) T.O8 LB λ_ _ _ _ _ _ hr=>?_;have:=LB.nd;have:=Gp (base:=base) T hkd;have:=Nl (base:=base) T hkd;have:=NH (base:=base) T hkd;conv=>arg 3;whnf
 trivial
theorem B_:Co "_law_copy" P w K mg base kd 1 t.Le t.KU ["_law_algebra_here"] YQ:=by
 refine Xi (N:=LN) (k:=0) (c:=LR) T.Sj TX λ_ _ _ _ _ _ hr=>?_;have:=TX.nd;conv=>arg 3;whnf
 trivial
theorem Sm:Co "_law_deed" P w K mg base kd 1 t.Ll t.LS ["_law_algebra_here","_law_name","_law_row_here"] Ze:=by
 refine Xi (N:=LK) (k:=0) (c:=Ke) T.Sq P5 λ_ _ _ _ _ _ hr=>?_;have:=P5.nd;conv=>arg 3;whnf
 trivial
theorem O6:Co "_law_row" P w K mg base kd 2 t.Mj t.NV ["_law_x","_law_n","_law_most"] Pl:=by
 refine Xi (N:=Mn) (k:=1) (c:=Ml) T.Cu KB λ_ _ _ _ _ _ hr=>?_;have:=KB.nd;have:=Yj (base:=base) T hkd;conv=>arg 3;whnf
 trivial
theorem Ni:Co "_law_is_list" P w K mg base kd 1 t.Q8 t.Um ["_law_found","_law_due"] wL:=by
 refine Xi (N:=Ug) (k:=0) (c:=Q5) T.Nm VB λ_ _ _ _ _ _ hr=>?_;have:=VB.nd;conv=>arg 3;whnf
 trivial
theorem T9:Co "_law_is_number" P w K mg base kd 1 t.WM t.Vj ["_law_found","_law_due"] yQ:=by
 refine Xi (N:=Vc) (k:=0) (c:=WU) T.Ge XH λ_ _ _ _ _ _ hr=>?_;have:=XH.nd;conv=>arg 3;whnf
 trivial
theorem EJ:Co "_law_places" P w K mg base kd 2 t.RS t.RX ["_law_x","_law_many"] WI:=by
 refine Xi (N:=Rg) (k:=1) (c:=UQ) T.MN Q7 λ_ _ _ _ _ _ hr=>?_;have:=Q7.nd;have:=Yj (base:=base) T hkd;conv=>arg 3;whnf
 trivial
theorem Pn(c:Str):FnOk P w K mg base vI 1 t.Zi t.Zj ["self","way"] (p4 K kd c<|yt c):=by
 refine Si (N:=XG) (k:=0) (b:=Zb) T.Pv Rw (by decide) λcdv A outer s H E hr=>?_;exact(yU (xu (N_ T) (pv 0) (av 1) rfl)<|Fd<|AU (GW T) (pv 0) (A4 YM) rfl)
theorem T7(c:Str):FnOk P w K mg base vI 5 t.ZL t.ZP ["self","algebra"] (p4 K kd c<|yP c):=by
 refine Si (N:=wX) (k:=4) (b:=ZO) T.GB Pc (by decide) λcdv A outer s H E hr=>?_;exact(yU (Dp (cq (Kj T hkd) hr<|bc (av 1) zQ) rfl)<|yU (xu (Ur T) (pv 0) (ax hkd (av 1) aI) rfl)<|yU (xu (FQ T) (pv 0) (ax hkd (av 1) aI) rfl)<|yU (xu (OA T) (pv 0) (cq (JD T hkd) hr<|bc (ax hkd (av 1) aI) zQ) rfl)<|yU (xu (Cc T) (pv 0) (ax hkd (av 1) aI) rfl)<|yU (xu (HX T) (pv 0) (nh (Ut rfl<|hkd _ rfl rfl rfl) T.Hk Bt.dict<|bc (Ed (N:=["name","rows"]) (cap:=[none,none]) (S:=[0,1]) rfl (SU<|ax hkd (av 1) aI) rfl (by change Ui _ wX _ (zd yS).names _=true;decide +kernel) (by decide) (λcl s H fp=>(EO rfl (XX (an 0 Yy) (XX (an 1 Yy) G0 rfl) rfl) rfl rfl)) (λcl s H fp=>M9) (λcl s H fp=>(X5<|bd (av 0)<|bd (cq (JD T hkd) hr<|bc (av 1) zQ) YM)) λ_=>rfl) zQ) rfl)<|Fd<|xu (CB T) (pv 0) (nh (Ut rfl<|hkd _ rfl rfl rfl) T.Hk Bt.dict<|bc (Ed (N:=["name","values"]) (cap:=[none,none]) (S:=[0,1]) rfl (SU<|ax hkd (av 1) aI) rfl (by change Ui _ wX _ (zd yS).names _=true;decide +kernel) (by decide) (λcl s H fp=>(EO rfl (XX (an 0 Yv) (XX (an 1 Yv) G0 rfl) rfl) rfl rfl)) (λcl s H fp=>M9) (λcl s H fp=>(X5<|bd (av 0)<|bd (nh Ma T.OJ Bt.tuple<|bc (av 1) zQ) YM)) λ_=>rfl) zQ) rfl)
theorem M8:FnOk P w K mg base vI 1 t.X2 t.Wq ["self","tree"] (spS K kd yT):=by
 refine Hv (N:=Ra) (k:=0) (c:=Yg) T.Ep Na (by decide) λcdv A outer s H E hr=>?_;exact(YL (kN (GW T) (pv 0) (pv 1) rfl rfl rfl rfl rfl rfl rfl)<|Ej<|bn (jy (GW T) (pv 0) rfl rfl T.Me rfl rfl) aI)
theorem Gu:FnOk P w K mg base vI 3 t.ZT t.ZI ["self","thing"] (Tf K kd ZQ):=by
 refine YH (N:=Va) (k:=2) (c:=Vi) T.Gi XB λ_ _ _ _ _ _ hr=>?_;have:=XB.nd;have:=VC (base:=base) T hkd;conv=>arg 3;whnf
 trivial
theorem SO:MT P w K mg base kd "is_value" 3 Th:=(YT T.vd T.Gs (Gu T hkd) (by decide) T.Gn Ys)
theorem QL:FnOk P w K mg base vI 4 t.wo t.wG ["self","thing"] (Tf K kd xh):=by
 refine YH (N:=ZX) (k:=3) (c:=wu) T.QI ZD λ_ _ _ _ _ _ hr=>?_;have:=ZD.nd;have:=SO (base:=base) T hkd;conv=>arg 3;whnf
 trivial
theorem Nd:MT P w K mg base kd "check_value" 4 YR:=(YT T.x_ T.QB (QL T hkd) (by decide) T.QF Ys)
theorem OC:MS P w K mg base kd "keep" 1 "Makes" yT:=A2 T.x_ T.Fb (M8 T hkd) T.EC
theorem M4:FnOk P w K mg base vI 24 t.WC t.X8 ["self","row"] (spS K kd yX):=by
 refine Hv (N:=UN) (k:=23) (c:=Yc) T.MV Ua (by decide) λcdv A outer s H E hr=>?_;exact(YL (sH (Sz<|M0 (Kh (hkd _ rfl rfl rfl) rfl rfl T.vS Bt.isinstance rfl T.Sh Bt.list (av 1) (Bt.n _ rfl) (by decide) (Bt.n _ rfl) (by decide) rfl rfl rfl) λ_=>rfl) (UT sy) H9)<|YL (Aj (by decide) PassesOwn.never rfl (He<|av 1) (an 2 Ua.nd) (UT<|E6 (GM (Nd T hkd) (hr.mono<|by omega) Xw (pv 0) (bc (av 2) zQ) rfl rfl rfl) rfl) λ_=>rfl)<|YL (E6 (cq (Ft T hkd) hr<|bc (bi (XD<|hkd _ rfl rfl rfl) T.Me Bt.len<|bc (av 1) zQ) zQ) rfl)<|Ej<|M6 (OC T hkd) (hr.mono<|by omega) Xw (pv 0) (bc (ck (N3 T hkd 20) hr T.xM T.Qq.kp T.Pg<|bc (HS (N_ T) (pv 0) rfl)<|bc (av 1) zQ) zQ) rfl rfl rfl)
theorem T8:FnOk P w K mg base vI 3 t.ZF t.ZU ["self","make"] (Tf K kd ZH):=by
 refine YH (N:=WW) (k:=2) (c:=WS) T.Ga XJ λ_ _ _ _ _ _ hr=>?_;have:=XJ.nd;have:=VC (base:=base) T hkd;conv=>arg 3;whnf
 trivial
theorem N8:MT P w K mg base kd "tree_at" 3 Yr:=(YT T.x_ T.GA (T8 T hkd) (by decide) T.Gh Ys)
theorem QG:FnOk P w K mg base vI 48 t.wj t.we ["self","make","i","j"] (Tf K kd wz):=by
 refine YH (N:=ZW) (k:=47) (c:=ZZ) T.QD ZC λ_ _ _ _ _ _ hr=>?_;have:=ZC.nd;have:=N8 (base:=base) T hkd;have:=Ng (base:=base) T hkd;have:=Cv (base:=base) T hkd;have:=Co.mk (Tq (base:=base) T hkd 20) T.yy T.Y4.kp T.Vv;conv=>arg 3;whnf
 trivial
theorem KP:FnOk P w K mg base vI 1 t.YE t.YA ["self","thing"] (Tf K kd YD):=by
 refine YH (N:=VV) (k:=0) (c:=Vz) T.KY WN λ_ _ _ _ _ _ hr=>?_;have:=WN.nd;conv=>arg 3;whnf
 trivial
theorem Kl:FnOk P w K mg base vI 1 t.Yt t.YO ["self","deed"] (Tf K kd YN):=by
 refine YH (N:=VJ) (k:=0) (c:=VY) T.LC W9 λ_ _ _ _ _ _ hr=>?_;have:=W9.nd;conv=>arg 3;whnf
 trivial
theorem We:FnOk P w K mg base vI 28 t.xy t.xB ["self","ahead","stretch","rest"] (Tf K kd yF):=by
 refine YH (N:=vP) (k:=27) (c:=vt) T.XY vk λ_ _ _ _ _ _ hr=>?_;have:=vk.nd;have:=Co.mk (vK (base:=base) T hkd 20) T.zN T.xm.kp T.xT;conv=>arg 3;whnf
 trivial
theorem Px:MT P w K mg base kd "three_together" 28 Y9:=(YT T.x_ T.Wu (We T hkd) (by decide) T.Wr Ys)
theorem Cn:MT P w K mg base kd "wait_of" 1 Uv:=(YT T.vd T.LV (Kl T hkd) (by decide) T.Kf Ys)
theorem CC:MT P w K mg base kd "is_deed" 1 UB:=(YT T.vd T.KW (KP T hkd) (by decide) T.Lh Ys)
theorem NC:MT P w K mg base kd "three_parts" 48 Yo:=(YT T.x_ T.QC (QG T hkd) (by decide) T.QH Ys)
theorem ER:FnOk P w K mg base vI 49 t.Wy t.X6 ["self","make","i","j","deed"] (spS K kd vv):=by
 refine Hv (N:=UZ) (k:=48) (c:=U0) T.Eu Xp (by decide) λcdv A outer s H E hr=>?_;exact(YL (by refine kz true 5 (by decide) Xp.nd ?_;exact(GM (NC T hkd) (hr.mono<|by omega) Xw (pv 0) (bc (av 1)<|bc (av 2)<|bc (av 3) zQ) rfl rfl rfl))<|YL (sH (Sz<|M0 (mt (CC T hkd) hr (HS (N_ T) (pv 0) rfl) (bc (av 4) zQ) rfl) λ_=>rfl) (UT sy) H9)<|YL (by refine kz true 6 (by decide) Xp.nd ?_;exact(cq (Lo T hkd) hr<|bc (HS (N_ T) (pv 0) rfl)<|bc (ax hkd (av 5) aI)<|bc (mt (Cn T hkd) hr (HS (N_ T) (pv 0) rfl) (bc (av 4) zQ) rfl) zQ))<|Ej<|M6 (OC T hkd) (hr.mono<|by omega) Xw (pv 0) (bc (GM (Px T hkd) (hr.mono<|by omega) Xw (pv 0) (bc (ax hkd (av 5) aI)<|bc (av 6)<|bc (ax hkd (av 5) aI) zQ) rfl rfl rfl) zQ) rfl rfl rfl)
theorem KO:FnOk P w K mg base vI 24 t.YS t.Yp ["self","make"] (Tf K kd YK):=by
 refine YH (N:=VX) (k:=23) (c:=VT) T.K9 WJ λ_ _ _ _ _ _ hr=>?_;have:=WJ.nd;have:=Jy (base:=base) T hkd;have:=N8 (base:=base) T hkd;conv=>arg 3;whnf
 trivial
theorem Jn:MT P w K mg base kd "listed" 24 Yl:=(YT T.x_ T.Kc (KO T hkd) (by decide) T.L6 Ys)
theorem tm:MS P w K mg base kd "done" 49 "Makes" vv:=A2 T.x_ T.E_ (ER T hkd) T.E2
theorem uP:MS P w K mg base kd "made" 24 "Makes" yX:=A2 T.x_ T.ED (M4 T hkd) T.E4
theorem nF:Co "law" P w K mg base kd 50 t.rk t.rM ["_law_script"] Mf:=by
 refine Xi (N:=sF) (k:=49) (c:=sJ) T.ja JQ λ_ _ _ _ _ _ hr=>?_;have:=JQ.nd;have:=C6 (base:=base) T hkd;have:=Pn (base:=base) T hkd "Makes";have:=T7 (base:=base) T hkd "Ways";have:=B_ (base:=base) T hkd;have:=O6 (base:=base) T hkd;have:=UA (base:=base) T hkd;have:=uP (base:=base) T hkd;have:=T9 (base:=base) T hkd;have:=EJ (base:=base) T hkd;have:=tm (base:=base) T hkd;have:=Sm (base:=base) T hkd;have:=Ni (base:=base) T hkd;have:=Jn (base:=base) T hkd;conv=>arg 3;whnf
 trivial
end
abbrev mR(K:zzA)(x:Str)(f:Addr):Prop:=W.nsIn K mainGlobals x=some (some<|.ref f)
abbrev FnAt(K:zzA)(x q:Str)(s:Stmt)(f:Addr):Prop:=∃d,Fun K x q s f d
abbrev Fk(K:zzA)(x:Str)(s:Stmt)(f:Addr):Prop:=mR K x f/\FnAt K x x s f
def oJ{l:PySem.W.OpenLaw}{w:World}{K:zzA}{h:Heap}{mg:Str->Option Value}{fa:Addr}(X:K.In h)(G:h.Ns mainGlobals mg)(hfa:mg "law"=some (.ref fa))
 {f0 f1 f2 f3 f4 f5 f6 f7 f8 f9 f10 f11 f12 f13 f14 f15 f16 f17 f18 f19 f20 f21 f22 f23 f24 f25 f26 f27 f28 f29 f30 f31 f32 f33 f34 f35 f36 f37 f38 f39 f40 f41 f42 f43 f44 f45 f46 f47 f48 f49 f50 f51 f52 f53 f54 f55 f56 f57 f58 f59 f60 f61 f62 f63 C0 C1 C2:Addr}
 {tk0_0:Tok}
 (aC0:W.nsIn K mainGlobals "Knot"=some (some<|.ref C0))
 (aC1:W.nsIn K mainGlobals "Makes"=some (some<|.ref C1))
 (aC2:W.nsIn K mainGlobals "Ways"=some (some<|.ref C2))
 (e0:W.findIn K (.ref C0) "__init__"=some (some<|.ref f8)) (ei0:W.isFn K (.ref f8)=true) (ek0:W.keepIn K (.ref f8)=true)
 (e1:W.findIn K (.ref C1) "__init__"=some (some<|.ref f50)) (ei1:W.isFn K (.ref f50)=true) (ek1:W.keepIn K (.ref f50)=true)
 (e2:W.findIn K (.ref C2) "__init__"=some (some<|.ref f51)) (ei2:W.isFn K (.ref f51)=true) (ek2:W.keepIn K (.ref f51)=true)
 (e3:W.findIn K (.ref C2) "join"=some (some<|.ref f10)) (ei3:W.isFn K (.ref f10)=true) (ek3:W.keepIn K (.ref f10)=true)
 (e4:W.findIn K (.ref C2) "behind"=some (some<|.ref f14)) (ei4:W.isFn K (.ref f14)=true) (ek4:W.keepIn K (.ref f14)=true)
 (e5:W.findIn K (.ref C1) "made"=some (some<|.ref f55)) (ei5:W.isFn K (.ref f55)=true) (ek5:W.keepIn K (.ref f55)=true)
 (e6:W.findIn K (.ref C2) "made"=some (some<|.ref f16)) (ei6:W.isFn K (.ref f16)=true) (ek6:W.keepIn K (.ref f16)=true)
 (e7:W.findIn K (.ref C2) "is_value"=some (some<|.ref f53)) (ei7:W.isFn K (.ref f53)=true) (ek7:W.keepIn K (.ref f53)=true)
 (e8:W.findIn K (.ref C1) "keep"=some (some<|.ref f52)) (ei8:W.isFn K (.ref f52)=true) (ek8:W.keepIn K (.ref f52)=true)
 (e9:W.findIn K (.ref C1) "check_value"=some (some<|.ref f54)) (ei9:W.isFn K (.ref f54)=true) (ek9:W.keepIn K (.ref f54)=true)
 (e10:W.findIn K (.ref C1) "tree_at"=some (some<|.ref f56)) (ei10:W.isFn K (.ref f56)=true) (ek10:W.keepIn K (.ref f56)=true)
 (e11:W.findIn K (.ref C1) "three_together"=some (some<|.ref f60)) (ei11:W.isFn K (.ref f60)=true) (ek11:W.keepIn K (.ref f60)=true)
 (e12:W.findIn K (.ref C2) "wait_of"=some (some<|.ref f59)) (ei12:W.isFn K (.ref f59)=true) (ek12:W.keepIn K (.ref f59)=true)
 (e13:W.findIn K (.ref C2) "is_deed"=some (some<|.ref f58)) (ei13:W.isFn K (.ref f58)=true) (ek13:W.keepIn K (.ref f58)=true)
 (e14:W.findIn K (.ref C1) "three_parts"=some (some<|.ref f57)) (ei14:W.isFn K (.ref f57)=true) (ek14:W.keepIn K (.ref f57)=true)
 (e15:W.findIn K (.ref C1) "done"=some (some<|.ref f61)) (ei15:W.isFn K (.ref f61)=true) (ek15:W.keepIn K (.ref f61)=true)
 (e16:W.findIn K (.ref C1) "listed"=some (some<|.ref f62)) (ei16:W.isFn K (.ref f62)=true) (ek16:W.keepIn K (.ref f62)=true)
 (pg0:W.plainGet K C0 Str.empty=true) (hd0:W.hasDictIn K C0=true) (po0:W.plainOver K C0=true) (sa0:W.findIn K (.ref C0) "__setattr__"=some (some<|.builtin "object.__setattr__")) (mk0:W.makesIn K C0=true) (kc0:W.keepIn K (.ref C0)=true)
 (pg1:W.plainGet K C1 Str.empty=true) (hd1:W.hasDictIn K C1=true) (po1:W.plainOver K C1=true) (sa1:W.findIn K (.ref C1) "__setattr__"=some (some<|.builtin "object.__setattr__")) (mk1:W.makesIn K C1=true) (kc1:W.keepIn K (.ref C1)=true)
 (pg2:W.plainGet K C2 Str.empty=true) (hd2:W.hasDictIn K C2=true) (po2:W.plainOver K C2=true) (sa2:W.findIn K (.ref C2) "__setattr__"=some (some<|.builtin "object.__setattr__")) (mk2:W.makesIn K C2=true) (kc2:W.keepIn K (.ref C2)=true)
 (na0:W.findIn K (.ref C0) "whole"=some none)
 (na1:W.findIn K (.ref C0) "back"=some none)
 (na2:W.findIn K (.ref C0) "wait"=some none)
 (na3:W.findIn K (.ref C0) "turn"=some none)
 (na4:W.findIn K (.ref C0) "one"=some none)
 (na5:W.findIn K (.ref C0) "other"=some none)
 (na6:W.findIn K (.ref C0) "deep"=some none)
 (na7:W.findIn K (.ref C0) "size"=some none)
 (na8:W.findIn K (.ref C2) "size"=some none)
 (na9:W.findIn K (.ref C2) "table"=some none)
 (na10:W.findIn K (.ref C2) "around"=some none)
 (na11:W.findIn K (.ref C1) "way"=some none)
 (na12:W.findIn K (.ref C1) "trees"=some none)
 (na13:W.findIn K (.ref C2) "neutral"=some none)
 (na14:W.findIn K (.ref C2) "waits"=some none)
 (na15:W.findIn K (.ref C2) "holders"=some none)
 (a0:Fk K "is_whole" Wh f0)
 (a1:Fk K "is_within" Y1 f1)
 (a2:Fk K "nothing_fails" wW f2)
 (a3:Fk K "parting_fails" va f3)
 (a4:Fk K "doing_fails" Zs f4)
 (a5:Fk K "deeds_fail" Z_ f5)
 (a6:Fk K "what_fails" Z4 f6)
 (a7:Fk K "check_let_by" vO f7)
 (l8:FnAt K "__init__" "Knot.__init__" wR f8)
 (a9:Fk K "leaf_of" Qu f9)
 (l10:FnAt K "join" "Ways.join" YY f10)
 (a11:Fk K "knot_of" Qn f11)
 (a12:mR K "tree_of" f12) (l12:FnAt K "tree_of" "tree_of" Qo f12)
 (a13:Fk K "size_of" Qr f13)
 (l14:FnAt K "behind" "Ways.behind" Zn f14)
 (a15:Fk K "both_waits" Z9 f15)
 (l16:FnAt K "made" "Ways.made" YZ f16)
 (a17:Fk K "done_all" Wp f17)
 (a18:Fk K "turned_all" Z5 f18)
 (a19:Fk K "parts_of" WH f19)
 (a20:mR K "gather" f20) (l20:FnAt K "gather" "gather" RO f20)
 (a21:Fk K "row_of" UH f21)
 (a22:Fk K "leaned_left" Zt f22)
 (a23:Fk K "leaned_right" vL f23)
 (a24:Fk K "evened" Rh f24)
 (a25:mR K "put_together" f25) (l25:FnAt K "put_together" "put_together" vp f25)
 (a26:mR K "parted_at" f26) (l26:FnAt K "parted_at" "parted_at" Y0 f26)
 (a27:Fk K "check_place" Zm f27)
 (a28:Fk K "check_size" Yd f28)
 (a29:Fk K "firm" MK f29)
 (a30:Fk K "_law_draw" X9 f30)
 (a31:Fk K "_law_digits" Yi f31)
 (a32:Fk K "_law_names" YX f32)
 (a33:Fk K "_law_part_join" w_ f33)
 (a34:Fk K "_law_part_done" vb f34)
 (a35:Fk K "_law_parts" Y6 f35)
 (a36:Fk K "_law_split" Xc f36)
 (a37:Fk K "_law_laid" Wc f37)
 (a38:Fk K "_law_order" Y7 f38)
 (a39:Fk K "_law_algebra" Zk f39)
 (a40:Fk K "_law_by_digits" wO f40)
 (a41:Fk K "_law_does" X7 f41)
 (a42:Fk K "_law_is_good" Zp f42)
 (a43:Fk K "_law_any" Qx f43)
 (a44:Fk K "_law_copy" Wi f44)
 (a45:Fk K "_law_deed" Wj f45)
 (a46:Fk K "_law_row" Qm f46)
 (a47:Fk K "_law_is_list" Zu f47)
 (a48:Fk K "_law_is_number" wM f48)
 (a49:Fk K "_law_places" Yb f49)
 (l50:FnAt K "__init__" "Makes.__init__" x5 f50)
 (l51:FnAt K "__init__" "Ways.__init__" yS f51)
 (l52:FnAt K "keep" "Makes.keep" Yh f52)
 (l53:FnAt K "is_value" "Ways.is_value" vc f53)
 (l54:FnAt K "check_value" "Makes.check_value" y_ f54)
 (l55:FnAt K "made" "Makes.made" Z7 f55)
 (l56:FnAt K "tree_at" "Makes.tree_at" wY f56)
 (l57:FnAt K "three_parts" "Makes.three_parts" xa f57)
 (l58:FnAt K "is_deed" "Ways.is_deed" vF f58)
 (l59:FnAt K "wait_of" "Ways.wait_of" vQ f59)
 (l60:FnAt K "three_together" "Makes.three_together" yD f60)
 (l61:FnAt K "done" "Makes.done" Z8 f61)
 (l62:FnAt K "listed" "Makes.listed" vB f62)
 (a63:Fk K "law" OK f63)
 (cg0:W.nsIn K mainGlobals "MOST_IN_ROW"=some (some<|.int 300 tk0_0))
 (z0:W.nsIn K mainGlobals "bool"=some none) (z1:W.nsIn K mainGlobals "dict"=some none) (z2:W.nsIn K mainGlobals "divmod"=some none) (z3:W.nsIn K mainGlobals "int"=some none) (z4:W.nsIn K mainGlobals "isinstance"=some none) (z5:W.nsIn K mainGlobals "len"=some none) (z6:W.nsIn K mainGlobals "list"=some none) (z7:W.nsIn K mainGlobals "max"=some none) (z8:W.nsIn K mainGlobals "min"=some none) (z9:W.nsIn K mainGlobals "range"=some none) (z10:W.nsIn K mainGlobals "str"=some none) (z11:W.nsIn K mainGlobals "sum"=some none) (z12:W.nsIn K mainGlobals "tuple"=some none) (z13:W.nsIn K mainGlobals "zip"=some none):
 ∃fd:FuncData,(∀(s:Shared) (v:Value),BindsTo s fd ⟨[v],[]⟩ [("_law_script",v)])/\∀base:Heap,K.In base->base.Ns mainGlobals mg->FnOk l.prog w K mg base vI 50 fa fd ["_law_script"] (iY K Mf):=by
 have e:=hfa.symm.trans<|W.mg_of X G a63.1;cases e;obtain⟨a0,_,F0⟩:=a0;obtain⟨a1,_,F1⟩:=a1;obtain⟨a2,_,F2⟩:=a2;obtain⟨a3,_,F3⟩:=a3;obtain⟨a4,_,F4⟩:=a4;obtain⟨a5,_,F5⟩:=a5;obtain⟨a6,_,F6⟩:=a6;obtain⟨a7,_,F7⟩:=a7;obtain⟨_,F8⟩:=l8;have b8:=F8.binds (ps:=["self","whole","back","wait","turn","one","other"]) λ_ _ _ _ _ _ us hl=>match us,hl with | [_,_,_,_,_,_,_],_=>rfl
 obtain⟨a9,_,F9⟩:=a9;obtain⟨_,F10⟩:=l10;obtain⟨a11,_,F11⟩:=a11;obtain⟨_,F12⟩:=l12;obtain⟨a13,_,F13⟩:=a13;obtain⟨_,F14⟩:=l14;obtain⟨a15,_,F15⟩:=a15;obtain⟨_,F16⟩:=l16;obtain⟨a17,_,F17⟩:=a17;obtain⟨a18,_,F18⟩:=a18;obtain⟨a19,_,F19⟩:=a19;obtain⟨_,F20⟩:=l20;obtain⟨a21,_,F21⟩:=a21;obtain⟨a22,_,F22⟩:=a22;obtain⟨a23,_,F23⟩:=a23;obtain⟨a24,_,F24⟩:=a24;obtain⟨_,F25⟩:=l25;obtain⟨_,F26⟩:=l26;obtain⟨a27,_,F27⟩:=a27;obtain⟨a28,_,F28⟩:=a28;obtain⟨a29,_,F29⟩:=a29;obtain⟨a30,_,F30⟩:=a30;obtain⟨a31,_,F31⟩:=a31;obtain⟨a32,_,F32⟩:=a32;obtain⟨a33,_,F33⟩:=a33;obtain⟨a34,_,F34⟩:=a34;obtain⟨a35,_,F35⟩:=a35;obtain⟨a36,_,F36⟩:=a36;obtain⟨a37,_,F37⟩:=a37;obtain⟨a38,_,F38⟩:=a38;obtain⟨a39,_,F39⟩:=a39;obtain⟨a40,_,F40⟩:=a40;obtain⟨a41,_,F41⟩:=a41;obtain⟨a42,_,F42⟩:=a42;obtain⟨a43,_,F43⟩:=a43;obtain⟨a44,_,F44⟩:=a44;obtain⟨a45,_,F45⟩:=a45;obtain⟨a46,_,F46⟩:=a46;obtain⟨a47,_,F47⟩:=a47;obtain⟨a48,_,F48⟩:=a48;obtain⟨a49,_,F49⟩:=a49;obtain⟨_,F50⟩:=l50;obtain⟨_,F51⟩:=l51;obtain⟨_,F52⟩:=l52;obtain⟨_,F53⟩:=l53;obtain⟨_,F54⟩:=l54;obtain⟨_,F55⟩:=l55;obtain⟨_,F56⟩:=l56;obtain⟨_,F57⟩:=l57;obtain⟨_,F58⟩:=l58;obtain⟨_,F59⟩:=l59;obtain⟨_,F60⟩:=l60;obtain⟨_,F61⟩:=l61;obtain⟨_,F62⟩:=l62;obtain⟨a63,_,F63⟩:=a63;obtain⟨_,_,_,_,_,_,_,_,_,rfl,_,_⟩:=F63.ex;let KL:List (Addr×List (Key×V)):=[];have hkd:Df l.prog w K (gJ KL<|tW mg):=qA λp m=>by
  exact absurd (show p ∈ ([]:List (Addr×List (Key×V)))from m) zxB
 have T:Txt K (gJ KL<|tW mg) mg ⟨_,_,_,_,_,_,_,_,_,_,_,_,_,_,_,_,_,_,_,_,_,_,_,_,_,_,_,_,_,_,_,_,_,_,_,_,_,_,_,_,_,_,_,_,_,_,_,_,_,_,_,_,_,_,_,_,_,_,_,_,_,_,_,_,_,_,_,_,_,_,_,_,_,_,_,_,_,_,_,_,_,_,_,_,_,_,_,_,_,_,_,_,_,_,_,_,_,_,_,_,_,_,_,_,_,_,_,_,_,_,_,_,_,_,_,_,_,_,_,_,_,_,_,_,_,_,_,_,_,_,_⟩:=⟨⟨F0,bs F0,W.mg_of X G a0⟩,⟨F1,bs F1,W.mg_of X G a1⟩,⟨F2,bs F2,W.mg_of X G a2⟩,⟨F3,bs F3,W.mg_of X G a3⟩,⟨F4,bs F4,W.mg_of X G a4⟩,⟨F5,bs F5,W.mg_of X G a5⟩,⟨F6,bs F6,W.mg_of X G a6⟩,⟨F7,bs F7,W.mg_of X G a7⟩,F8,b8,⟨F9,bs F9,W.mg_of X G a9⟩,F10,bs F10,⟨F11,bs F11,W.mg_of X G a11⟩,F12,bs F12,W.mg_of X G a12,⟨F13,bs F13,W.mg_of X G a13⟩,F14,bs F14,⟨F15,bs F15,W.mg_of X G a15⟩,F16,bs F16,⟨F17,bs F17,W.mg_of X G a17⟩,⟨F18,bs F18,W.mg_of X G a18⟩,⟨F19,bs F19,W.mg_of X G a19⟩,F20,bs F20,W.mg_of X G a20,⟨F21,bs F21,W.mg_of X G a21⟩,⟨F22,bs F22,W.mg_of X G a22⟩,⟨F23,bs F23,W.mg_of X G a23⟩,⟨F24,bs F24,W.mg_of X G a24⟩,F25,bs F25,W.mg_of X G a25,F26,bs F26,W.mg_of X G a26,⟨F27,bs F27,W.mg_of X G a27⟩,⟨F28,bs F28,W.mg_of X G a28⟩,⟨F29,bs F29,W.mg_of X G a29⟩,⟨F30,bs F30,W.mg_of X G a30⟩,⟨F31,bs F31,W.mg_of X G a31⟩,⟨F32,bs F32,W.mg_of X G a32⟩,⟨F33,bs F33,W.mg_of X G a33⟩,⟨F34,bs F34,W.mg_of X G a34⟩,⟨F35,bs F35,W.mg_of X G a35⟩,⟨F36,bs F36,W.mg_of X G a36⟩,⟨F37,bs F37,W.mg_of X G a37⟩,⟨F38,bs F38,W.mg_of X G a38⟩,⟨F39,bs F39,W.mg_of X G a39⟩,⟨F40,bs F40,W.mg_of X G a40⟩,⟨F41,bs F41,W.mg_of X G a41⟩,⟨F42,bs F42,W.mg_of X G a42⟩,⟨F43,bs F43,W.mg_of X G a43⟩,⟨F44,bs F44,W.mg_of X G a44⟩,⟨F45,bs F45,W.mg_of X G a45⟩,⟨F46,bs F46,W.mg_of X G a46⟩,⟨F47,bs F47,W.mg_of X G a47⟩,⟨F48,bs F48,W.mg_of X G a48⟩,⟨F49,bs F49,W.mg_of X G a49⟩,F50,bs F50,F51,bs F51,F52,bs F52,F53,bs F53,F54,bs F54,F55,bs F55,F56,bs F56,F57,bs F57,F58,bs F58,F59,bs F59,F60,bs F60,F61,bs F61,F62,bs F62,⟨F63,bs F63,W.mg_of X G a63⟩,⟨Ff<|W.mg_of X G aC0,⟨pg0,hd0,po0,sa0⟩,mk0,kc0,W.mg_of X G aC0⟩,⟨Ff<|W.mg_of X G aC1,⟨pg1,hd1,po1,sa1⟩,mk1,kc1,W.mg_of X G aC1⟩,⟨Ff<|W.mg_of X G aC2,⟨pg2,hd2,po2,sa2⟩,mk2,kc2,W.mg_of X G aC2⟩,⟨e0,ei0,ek0⟩,⟨e1,ei1,ek1⟩,⟨e2,ei2,ek2⟩,⟨e3,ei3,ek3⟩,⟨e4,ei4,ek4⟩,⟨e5,ei5,ek5⟩,⟨e6,ei6,ek6⟩,⟨e7,ei7,ek7⟩,⟨e8,ei8,ek8⟩,⟨e9,ei9,ek9⟩,⟨e10,ei10,ek10⟩,⟨e11,ei11,ek11⟩,⟨e12,ei12,ek12⟩,⟨e13,ei13,ek13⟩,⟨e14,ei14,ek14⟩,⟨e15,ei15,ek15⟩,⟨e16,ei16,ek16⟩,na0,na1,na2,na3,na4,na5,na6,na7,na8,na9,na10,na11,na12,na13,na14,na15,GC.int<|W.mg_of X G cg0,W.mg_none_of X G z0,W.mg_none_of X G z1,W.mg_none_of X G z2,W.mg_none_of X G z3,W.mg_none_of X G z4,W.mg_none_of X G z5,W.mg_none_of X G z6,W.mg_none_of X G z7,W.mg_none_of X G z8,W.mg_none_of X G z9,W.mg_none_of X G z10,W.mg_none_of X G z11,W.mg_none_of X G z12,W.mg_none_of X G z13⟩;exact⟨_,λs v=>.of_eq rfl,λbase _ _=>(nF T hkd).F.imp λvs H Q E h=>h _⟩
def walk{l:PySem.W.OpenLaw}{q:Program}{loose:List Str}{XP:(Str->Option Value)->Heap->Prop}{YP:World->Heap->Prop}{d:DefRec}{K:Params->zzA}(hn:l.most=some 63)(hdf:d.params.defaults=[])
 (hY:∀(w:World) (h:Heap),YP w h->(K w.params).In h) (hm:∀ns:List Int,ns.length<=63->Mf [(true,.lst<|ns.map D.int)]=some (.lf true<|.bl true))
 (F:∀(w:World) (mg:Str->Option Value) (fa:Addr) (h:Heap),(K w.params).In h->h.Ns mainGlobals mg->mg d.name=some (.ref fa)->
  ∃fd:FuncData,(∀(s:Shared) (u:Value),BindsTo s fd ⟨[u],[]⟩ [("_law_script",u)])/\∀base:Heap,(K w.params).In base->base.Ns mainGlobals mg->FnOk l.prog w (K w.params) mg base vI 50 fa fd ["_law_script"] (iY (K w.params) Mf)):
 PySem.W.WalkO q loose XP YP l.row.toRowW d [] (λf vs=>PySem.call f vs):=
 L2.walk_of (n:=63) (k:=50) (x:="_law_script") (CX:=λ_=>vI) (sp:=λw=>iY (K w.params) Mf) hn (by decide) hdf ⟨rfl,by decide,by decide,rfl⟩ hY F (λ_ _ a ns hl _ hS kd=>qI (hm ns hl) hS) λ_ _ _ _ _ z=>z
local macro_rules | `(tactic| trivial)=>`(tactic| first|with_reducible first|assumption|exact Int.natCast_nonneg _|exact Nat.le_refl _|exact Int.le_refl _|exact rfl|exact pR (by assumption)|exact pG (by assumption)|exact np2 (by assumption)|exact nq1 (by assumption)|exact nq2 (by assumption)|exact Int.natCast_pos.mpr (by assumption)|exact Nat.le_trans (by assumption) (by decide)|exact bgL _|exact bgU (by assumption)|exact mU (by assumption)|exact zI _|exact bL0 (by assumption)|exact bU0 (by assumption) (by assumption)|exact iL (by assumption)|exact iU (by assumption) (by assumption)|exact iC (by assumption)|exact iT (by assumption)|exact stL (by assumption)|exact stU (by assumption)|exact lnK (by assumption) (by assumption) (by assumption)|exact zi1 _|exact lnE (by assumption)|exact ltL (by assumption)|exact Int.toNat_of_nonneg (by assumption)|exact tS (by assumption) (by assumption)|exact b6 (by assumption)|exact Int.emod_nonneg _ (by decide)|exact Int.emod_lt_of_pos _ (by decide)|decide|omega)
section
variable{n m:Nat}{J T:TZ}{e:Int}{Ds:DD}{S:SS}
def B7(n8:n<=8)(hJ:Tab n n J)(he:zO n e):C9 (ZK [(true,vZ n m J e Ds S)]) (jJ n J e):=by
 refine C9.imp (P:=jJ n J e/\True) (Sf rfl ?_) ⟨λz=>z.1,λz=>⟨z,trivial⟩⟩;have s1:zp true 1 (f2 zm yN zx) [sT<|vZ n m J e Ds S,none,none,none]=some _:=zG (yE (za rfl) zb rfl)<|zg rfl;have s2:zp true 2 (f2 zm Wg zx) [sT _,sT<|xp J,none,none]=some (.nx [sT<|vZ n m J e Ds S,sT<|xp J,sI e,none]):=zG (yE (za rfl) zb rfl)<|zg rfl;have k:=Fj (g:=zw _) (rV (S:=λx y z=>[sT<|vZ n m J e Ds S,sT<|xp J,sI e,x]) (x:=none) (y:=none) (z:=none) (vj:=1) (ve:=2) hJ he (λ_ _ _=>rfl) (λ_ _ _=>rfl) (λ_ _ _=>rfl) λ_ _ _ _=>rfl) λ_ _ _=>MY;have hf:∀f:SF,yJ (yB (aC (f2 zm zV zx) aN) yO) (gN 3) f [sT<|vZ n m J e Ds S,sT<|xp J,sI e,none]=forL (gN 3) f _ [sT _,sT<|xp J,sI e,none]:=λf=>yn (xf (zj (zB (za rfl) zb rfl rfl) zr) (by trivial)<|by trivial) (by rw[zyI]);have fin:∀x,Rt (ze (λas=>forL (gN 3) _ _ as) _ [sT _,sT<|xp J,sI e,none]) x->Rt (ZV _) x:=λx h=>by
  refine zc s1<|zc s2 ?_;obtain⟨o,a,b⟩:=h;refine⟨o, ?_,b⟩;unfold ze at a ⊢;rw[hf];exact a
 rcases k with⟨k,p⟩|⟨⟨es,k⟩,p⟩
 . exact .inl ⟨fin _ k,p⟩
 . exact .inr ⟨⟨es,fin _ k⟩,p⟩
def SV(n8:n<=8)(hJ:Tab n n J):C9 (ZN [(true,vZ n m J e Ds S)]) (As n J):=by
 have s1:zp true 1 (f2 zm zV zx) [sT<|vZ n m J e Ds S,none,none,none,none,none]=some _:=zG (yE (za rfl) zb rfl)<|zg rfl;have s2:zp true 2 (f2 zm yN zx) [sT<|vZ n m J e Ds S,sI n,none,none,none,none]=some _:=zG (yE (za rfl) zb rfl)<|zg rfl;have k:=ua (S:=λx y z=>[sT<|vZ n m J e Ds S,sI n,sT<|xp J,x,y,z]) (x:=none) (y:=none) (z:=none) (vj:=2) (vn:=1) n8 hJ (λ_ _ _=>rfl) (λ_ _ _=>rfl) (λ_ _ _=>rfl) (λ_ _ _=>rfl) (λ_ _ _=>rfl) (λ_ _ _ _=>rfl) (λ_ _ _ _=>rfl) λ_ _ _ _=>rfl;rw[<-Wf (v:=1) rfl (by trivial)]at k;refine C9.imp (P:=As n J/\True) (Sf rfl ?_) ⟨λz=>z.1,λz=>⟨z,trivial⟩⟩
 rcases Fj k λ_ _ _=>MY with⟨k,p⟩|⟨⟨es,k⟩,p⟩
 . exact .inl ⟨zc s1<|zc s2 k,p⟩
 . exact .inr ⟨⟨es,zc s1<|zc s2 k⟩,p⟩
def AY{s:Str}(n8:n<=8)(m1:1<=m)(m6:m<=6)(hJ:Tab n n J)(hT:Tab m n T):C9 (Xf [(true,vZ n m J e Ds S),(true,.str s),(true,xp T)]) (Dn n m J T):=by
 have k:T4 (forL (gN 6) (yJ (yB (aC yh aN) yO) (gN 7)<|yJ (yB v8 yO) (gN 8)<|yJ (yB (aC yh aN) yO) (gN 9) gZ) (y4 0 n)<|Fi n m J T e Ds S s none none none none) (λas=>∃x y z w,as=Fi n m J T e Ds S s x y z w) (Dn n m J T):=by
  refine Qb (fr:=yM) (λas=>∃x y z w,as=Fi n m J T e Ds S s x y z w) _ (λa ha as hI=>?_) ⟨_,_,_,_,rfl⟩;obtain⟨x,y,z,w,rfl⟩:=hI;refine⟨Fi n m J T e Ds S s (sI a) y z w,rfl, ?_⟩;rw[Wf rfl<|by trivial];have k:=Qb (v:=7) (fr:=yM) (f:=yJ (yB v8 yO) (gN 8) _) (as:=Fi n m J T e Ds S s (sI a) y z w) (λas=>∃y z w,as=Fi n m J T e Ds S s (sI a) y z w) (λi=>∀b,zO n b->∀k,zO m k->ym T ((i+k)%m) (ym J a b)=ym J (ym T i a) (ym T k b)) (λi hi as hI=>by
   obtain⟨y,z,w,rfl⟩:=hI;refine⟨Fi n m J T e Ds S s (sI a) (sI i) z w,rfl, ?_⟩;rw[Wf rfl<|by trivial];have k:=Qb (v:=8) (fr:=yM) (f:=yJ (yB (aC yh aN) yO) (gN 9) gZ) (as:=Fi n m J T e Ds S s (sI a) (sI i) z w) (λas=>∃z w,as=Fi n m J T e Ds S s (sI a) (sI i) z w) (λb=>∀k,zO m k->ym T ((i+k)%m) (ym J a b)=ym J (ym T i a) (ym T k b)) (λb hb as hI=>by
    obtain⟨z,w,rfl⟩:=hI;refine⟨Fi n m J T e Ds S s (sI a) (sI i) (sI b) w,rfl, ?_⟩;rw[Wf rfl<|by trivial]
    rcases cA hJ hT m1 ha hi hb with⟨as',k1,⟨w',rfl⟩,k3⟩|k
    . exact .inl ⟨_,k1,⟨_,_,rfl⟩,k3⟩
    . exact .inr k) ⟨_,_,rfl⟩
   rcases k with⟨as',k1,⟨z',w',rfl⟩,k3⟩|k
   . exact .inl ⟨_,k1,⟨_,_,_,rfl⟩,k3⟩
   . exact .inr k) ⟨_,_,_,rfl⟩
  rcases k with⟨as',k1,⟨y',z',w',rfl⟩,k3⟩|k
  . exact .inl ⟨_,k1,⟨_,_,_,_,rfl⟩,k3⟩
  . exact .inr k
 rw[<-Wf (v:=3) rfl (by trivial)]at k;have s3:zp true 3 (f2 zm zV zx) [sT<|vZ n m J e Ds S,sT<|.str s,sT<|xp T,none,none,none,none,none,none,none]=some _:=zG (yE (za rfl) zb rfl)<|zg rfl;have s4:zp true 4 (f2 zm zJ zx) [sT<|vZ n m J e Ds S,sT<|.str s,sT<|xp T,sI n,none,none,none,none,none,none]=some _:=zG (yE (za rfl) zb rfl)<|zg rfl;have s5:zp true 5 (f2 zm yN zx) [sT<|vZ n m J e Ds S,sT<|.str s,sT<|xp T,sI n,sI m,none,none,none,none,none]=some _:=zG (yE (za rfl) zb rfl)<|zg rfl;refine C9.imp (P:=Dn n m J T/\True) (Sf rfl ?_) ⟨λz=>z.1,λz=>⟨z,trivial⟩⟩
 rcases Fj k λ_ _ _=>MY with⟨k,p⟩|⟨⟨es,k⟩,p⟩
 . exact .inl ⟨zc s3<|zc s4<|zc s5 k,p⟩
 . exact .inr ⟨⟨es,zc s3<|zc s4<|zc s5 k⟩,p⟩
def SI(A:Alg n m J e Ds)(L:LawA n m J e Ds):RE (Wt [(true,vZ n m J e Ds S)]) .non:=by
 have n8:=A.n8;have m1:=A.m1;have s1:zp true 1 (f2 zm Wg zx) [sT<|vZ n m J e Ds S,none,none,none,none]=some _:=zG (yE (za rfl) zb rfl)<|zg rfl;obtain⟨as',hf,x,y,z,rfl⟩:=yW (g:=gT 2<|yG (gN 2)<|yG (gN 3) XM) (f:=(ze (yR _ (zw _) yM)
  (ze _
  (yR (fT<|f2 yh (fC .non)<|zy .IsNot) (zw yh) yM))))
  (λi as=>∃(x y z:Option O),as=[sT _,sI e,x,y,z])
  ((Ds.map wb).map λd=>(true,d)) 0 [sT _,sI e,none,none,none] (λi x as hx' hI=>by
    obtain⟨x,y,z,rfl⟩:=hI;rw[zyB,zzI]at hx';obtain⟨p,hp,rfl⟩:=zzX.mp hx';have mp:=zyA hp;have hT:=A.ds p mp;obtain⟨q1,_⟩:=Qg (as:=[sT _,sI e,sT<|.str p.1,sT<|xp p.2,z]) hT ⟨by trivial,by trivial⟩ ⟨A.e0,A.en⟩ (za (i:=3) rfl) (zb)<|za (i:=1) rfl;have t1:=IC q1<|za (i:=1) rfl;rw[(L.ld p mp).em,show(!(e==e))=false by simp]at t1;have d:=(AY (s:=p.1) (e:=e) (Ds:=Ds) (S:=S) n8 m1 A.m6 A.j hT).none<|L.dn mp;exact⟨_,rfl,_,zo (zq t1 rfl)<|zo (yL (p:=4) (z_ (WD.e<|za (i:=0) rfl) (WD.e<|za (i:=2) rfl) (WD.e<|za (i:=3) rfl) d)<|zg rfl)<|zq (yf (zB (za rfl) zb rfl rfl) rfl) rfl,_,_,_,rfl⟩)
  ⟨_,_,_,rfl⟩
 exact zL rfl<|zc s1<|zc (yn (Oz<|yE (za rfl) zb rfl) hf)<|zA<|WD.e zb
def Cs(A:Alg n m J e Ds)(L:LawA n m J e Ds):RE (WG [(true,vZ n m J e Ds S)]) .non:=by
 have r1:=(B7 (m:=m) (Ds:=Ds) (S:=S) A.n8 A.j ⟨A.e0,A.en⟩).none L.un;have r2:=(SV (m:=m) (e:=e) (Ds:=Ds) (S:=S) A.n8 A.j).none L.as;have r3:=SI (S:=S) A L;have tt:WT (fT<|f2 zi (fC .non)<|zy .Is) [sT<|vZ n m J e Ds S,sT .non] true:=yf (zB (za rfl) zb rfl rfl) rfl;exact zL rfl<|zc (yL (wF (WD.e<|za rfl) r1)<|zg rfl)<|zc (y6 tt<|yL (wF (WD.e<|za rfl) r2)<|zg rfl)<|zc (y6 tt<|yL (wF (WD.e<|za rfl) r3)<|zg rfl)<|zA<|WD.e<|za rfl
end
open L2 (Pe)
abbrev iv(p:Str×TZ):L2.Key×D:=(Sum.inr p.1,vY p.2)
abbrev ie(p:Str×List Int):L2.Key×D:=(Sum.inr p.1,Gr p.2)
abbrev kq:List Str:=["size","around","table","neutral","waits","holders"]
abbrev Nb(n m:Nat)(J:TZ)(e:Int)(Ds:DD)(S:SS):D:=.ob "Ways" kq [.int n,.int m,vY J,.int e,.dct<|Ds.map iv,.dct<|S.map ie]
def Y3{α:Type}{f:EF}{as:AS}{g:α->D}{l:List α}(h:WE f as (.lst<|l.map g)):xC f as=some (l.map λa=>(true,g a),as):=by
 have:=mC h;rw[zyB]at this;exact this
def HV{T:TZ}(hl:T.length<=1000):RE (MZ [(true,xp T)]) (vY T):=
 zL rfl (zA<|UK (Ws T (Y3<|WD.e<|za rfl) (q0t hl) λr _=>⟨_,rfl,UK (WD.e<|za rfl) rfl⟩) rfl)
section
variable{n m:Nat}{J:TZ}{e:Int}{Ds:DD}{S:SS}
def AB(A:Alg n m J e Ds)(L:LawA n m J e Ds):RE (vE [(true,vZ n m J e Ds S)]) .non:=by
 have h:Yu (Zh 2 [(true,vZ n m J e Ds S)])=some _:=zo (yL (wF (WD.e<|za rfl)<|Cs A L)<|zg rfl)<|zq (yf (zB (za rfl) zb rfl rfl) rfl) rfl;refine⟨.lf true .non, ?_,rfl,rfl⟩;unfold vE xY;rw[if_pos (by rfl),h];rfl
def uR(A:Alg n m J e Ds)(L:LawA n m J e Ds)(sl:S.length<=4)(sn:(S.map (·.1)).Nodup):RE (yP "Ways" [(true,vZ n m J e Ds S)]) (Nb n m J e Ds S):=by
 have dl:=A.dl;have n8:=A.n8;have m6:=A.m6;have w1:∀o,WD zi [o,sT<|vZ n m J e Ds S] true (vZ n m J e Ds S):=λo=>za rfl;have h4:∀o,WE jd [o,sT<|vZ n m J e Ds S] (.dct<|Ds.map iv):=λo=>
  rZ A.nd (Ws Ds (Y3<|QQ (WD.e<|w1 o) (WD.e zb) rfl) (q0R dl) λp mp=>⟨_,rfl,yp (WD.e<|za rfl)<|wF (WD.e<|za rfl)<|HV<|by rw[(A.ds p mp).1];exact q0M m6⟩)
 have h5:∀o,WE mN [o,sT<|vZ n m J e Ds S] (.dct<|S.map ie):=λo=>
  rZ sn (Ws S (Y3<|QQ (WD.e<|w1 o) (WD.e zb) rfl) (by omega) λp mp=>⟨_,rfl,yp (WD.e<|za rfl)<|UK (WD.e<|za rfl) rfl⟩)
 have h:ZO (Yw 2 (m3 "Ways"::[(true,vZ n m J e Ds S)].map Dg))=some [some _,sT<|vZ n m J e Ds S]:=
  yA (Jv<|wF (WD.e<|w1 _)<|AB A L) (yA (yH (QQ (WD.e<|w1 _) (WD.e zb) rfl) rfl (by decide +kernel) (by decide +kernel)<|by decide)<|yA (yH (QQ (WD.e<|w1 _) (WD.e zb) rfl) rfl (by decide +kernel) (by decide +kernel)<|by decide)<|yA (yH (wF (QQ (WD.e<|w1 _) (WD.e zb) rfl)<|HV<|by rw[A.j.1];exact q0k n8) rfl (by decide +kernel) (by decide +kernel)<|by decide)<|yA (yH (QQ (WD.e<|w1 _) (WD.e zb) rfl) rfl (by decide +kernel) (by decide +kernel)<|by decide)<|yA (yH (h4 _) rfl (by decide +kernel) (by decide +kernel)<|by decide)<|yH (h5 _) rfl (by decide +kernel) (by decide +kernel)<|by decide)
 refine⟨.nd (.ob "Ways" kq) [.lf true<|.int n,.lf true<|.int m,.lf true<|vY J,.lf true<|.int e,.lf true<|.dct<|Ds.map iv,.lf true<|.dct<|S.map ie], ?_,rfl,rfl⟩;unfold yP oB;rw[if_pos (by rfl),h];rfl
def Ah{a b:Int}(hJ:Tab n n J)(ha:zO n a)(hb:zO n b):RE (Vy [(true,Nb n m J e Ds S),(true,.int a),(true,.int b)]) (.int<|ym J a b):=
 zL rfl (zA<|WD.e<|JF hJ ha hb (tw rfl (by decide +kernel) rfl) (za rfl)<|za rfl)
end
structure Cx where
 n:Nat
 m:Nat
 J:TZ
 e:Int
 Ds:DD
 S:SS
abbrev Cx.w(c:Cx):D:=Nb c.n c.m c.J c.e c.Ds c.S
abbrev Cx.g(c:Cx):D:=vZ c.n c.m c.J c.e c.Ds c.S
abbrev Cx.h(c:Cx):List Int->Int:=HK c.J c.e
abbrev Cx.In(c:Cx)(r:List Int):Prop:=∀x ∈ r,zO c.n x
structure Cx.Ok(c:Cx):Prop where
 A:Alg c.n c.m c.J c.e c.Ds
 L:LawA c.n c.m c.J c.e c.Ds
structure Cx.W(c:Cx)(T:TZ):Prop where
 t:Tab c.m c.n T
 l:LD c.n c.m (ym c.J) c.e (ym T)
def Kn:Option TZ->D
 |none=>.non
 |some T=>vY T
def Cx.wok(c:Cx):Option TZ->Prop
 |none=>True
 |some T=>c.W T
def Cx.ap(c:Cx):Option TZ->List Int->List Int
 |none,r=>r
 |some T,r=>r.map<|ym T<|1%(c.m:Int)
def tn:Bool->List Int->List Int
 |false,r=>r
 |true,r=>r.reverse
noncomputable abbrev lL:List Str:=["whole","back","wait","turn","one","other","deep","size"]
abbrev kn(w b:Int)(q:D)(t:Bool)(x y:D)(p s:Int):D:=.ob "Knot" lL [.int w,.int b,q,.bl t,x,y,.int p,.int s]
inductive TK(c:Cx):D->List Int->Nat->Prop
 |lf (v:Int) (t:Bool):zO c.n v->TK c (kn v v .non t .non .non 0 1) [v] 0
 |nd (w:Option TZ) (t:Bool) {x y:D}{r s:List Int}{p q:Nat}{R:List Int}:TK c x r p->TK c y s q->p<=q+1->q<=p+1->c.wok w->R=tn t (c.ap w (r++s))->TK c (kn (c.h R) (c.h R.reverse) (Kn w) t x y ((1+max p q:Nat):Int) (R.length:Int)) R (1+max p q)
section
variable{c:Cx}{d:D}{R:List Int}{p:Nat}
def Wl(w:Option TZ)(r:List Int):(c.ap w r).length=r.length:=by cases w with
 |none=>rfl
 |some T=>exact zzB ..
def M5(t:Bool)(r:List Int):(tn t r).length=r.length:=by cases t with
 |false=>rfl
 |true=>exact List.length_reverse ..
def Sk(w:Option TZ)(r s:List Int):c.ap w (r++s)=c.ap w r++c.ap w s:=by cases w with
 |none=>rfl
 |some T=>exact zyM ..
def rJ(w:Option TZ)(t:Bool)(r:List Int):c.ap w (tn t r)=tn t (c.ap w r):=by cases w with
 |none=>rfl
 |some T=>cases t with
  |false=>rfl
  |true=>exact List.map_reverse ..
def lC(t u:Bool)(r:List Int):tn t (tn u r)=tn (u != t) r:=by cases t<;>cases u<;>first|rfl|exact List.reverse_reverse r
theorem Cx.Ok.m1(h:c.Ok):zO c.m (1%(c.m:Int)):=QJ h.A.m1
def m5(h:c.Ok){w:Option TZ}(hw:c.wok w){r:List Int}(k:c.In r):c.In (c.ap w r):=by cases w with
 |none=>exact k
 |some T=>
  intro x mx;obtain⟨z,mz,rfl⟩:=zxD.mp mx;exact hw.l.cl _ _ h.m1<|k z mz
def sM{t:Bool}{r:List Int}(k:c.In r):c.In (tn t r):=by cases t with
 |false=>exact k
 |true=>exact λx mx=>k x<|List.mem_reverse.mp mx
def S_{r s:List Int}(k:c.In r)(l:c.In s):c.In (r++s):=λx mx=>(zzM.mp mx).elim (k x)<|l x
def TK.in(h:c.Ok):TK c d R p->c.In R:=λk=>by
 induction k with
 |lf v t hv=>exact λx mx=>by rcases zzC.mp mx with rfl|mx;exact hv;exact nomatch mx
 |nd w t a b _ _ hw e i j=>subst e;exact sM<|m5 h hw<|S_ i j
def TK.rev(h:c.Ok)(k:TK c d R p):c.In R.reverse:=sM (t:=true)<|k.in h
noncomputable def fb:Nat->Nat
 |0=>1
 |1=>2
 |k+2=>fb (k+1)+fb k
def lg:∀k,fb k<=fb (k+1)
 |0=>by decide
 |k+1=>by show _<=fb (k+1)+fb k;exact q0v
def ri{a b:Nat}(h:a<=b):fb a<=fb b:=by
 induction h with
 |refl=>exact zzN _
 |step _ i=>exact zzO i (lg _)
theorem TK.fb(k:TK c d R p):fb p<=R.length:=by
 induction k with
 |lf=>exact zzN _
 | @nd w t x y r s p q R a b h1 h2 hw e i j=>
  subst e;rw[M5,Wl,zzJ]
  by_cases h:q<=p
  . rw[Nat.max_eq_left h,Nat.add_comm 1 p];cases p with
    |zero=>rw[show q=0 by omega]at j;exact Nat.add_le_add i j
    |succ p=>
     have:G41.fb p<=G41.fb q:=ri (by omega);show G41.fb _+G41.fb p<=_;omega
  . rw[Nat.max_eq_right (by omega),Nat.add_comm 1 q,show q=p+1 from q1P h2 h1 h];rw[show q=p+1 from q1P h2 h1 h]at j;show G41.fb _+G41.fb p<=_;omega
def TK.lt(k:TK c d R p)(hl:R.length<=1000):p<20:=by
 refine Nat.lt_of_not_le λh=>?_;have h1:=k.fb;have h2:=ri h;have:G41.fb 20=17711:=by decide
 omega
def TK.gt(k:TK c d R p):∃q t x y,d=kn (c.h R) (c.h R.reverse) q t x y p R.length:=by
 cases k with
 |lf v t _=>exact⟨_,_,_,_,rfl⟩
 |nd w t=>exact⟨_,_,_,_,rfl⟩
def Wn{a:EF}{as:AS}{w b:Int}{q x y:D}{t:Bool}{p s:Int}{cs:List Str}{f:Str}{v:D}(h:WD a as true (kn w b q t x y p s))(hc:("Knot":Str) ∈ cs)(hl:B6 lL [.int w,.int b,q,.bl t,x,y,.int p,.int s] f=some v):WD (f1 a<|zT cs f) as true v:=by
 have:=RZ h hc hl;rw[zyD]at this;exact this
variable{a:EF}{as:AS}
theorem TK.whole(k:TK c d R p)(ha:WD a as true d):WD (f1 a<|zT vC "whole") as true (.int<|c.h R):=by
 obtain⟨q,t,x,y,rfl⟩:=k.gt;exact Wn ha (by decide +kernel) rfl
theorem TK.back(k:TK c d R p)(ha:WD a as true d):WD (f1 a<|zT Wz "back") as true (.int<|c.h R.reverse):=by
 obtain⟨q,t,x,y,rfl⟩:=k.gt;exact Wn ha (by decide +kernel) rfl
theorem TK.deep(k:TK c d R p)(ha:WD a as true d):WD (f1 a<|zT yz "deep") as true (.int p):=by
 obtain⟨q,t,x,y,rfl⟩:=k.gt;exact Wn ha (by decide +kernel) rfl
theorem TK.size(k:TK c d R p)(ha:WD a as true d):WD (f1 a<|zT xO "size") as true (.int R.length):=by
 obtain⟨q,t,x,y,rfl⟩:=k.gt;exact Wn ha (by decide +kernel) rfl
def TK.isN(k:TK c d R p)(ha:WD a as true d):WT (fT<|f2 a (fC .non)<|zy .Is) as false:=by
 obtain⟨q,t,x,y,rfl⟩:=k.gt;exact yf (zB ha zb rfl rfl) rfl
def TK.isS(k:TK c d R p)(ha:WD a as true d):WT (fT<|f2 a (fC .non)<|zy .IsNot) as true:=by
 obtain⟨q,t,x,y,rfl⟩:=k.gt;exact yf (zB ha zb rfl rfl) rfl
def TK.zero(k:TK c d R p)(ha:WD a as true d):WT (fT<|f2 (f1 a<|zT yz "deep") zV<|zy .Eq) as (decide (p=0)):=yf (Re (k.deep ha) zb (by
 show some _=_
 by_cases h:p=0
 . subst h;rfl
 . rw[zyG h,beq_eq_false_iff_ne.mpr<|by omega])) rfl
end
section
variable{n m:Nat}{J:TZ}{e:Int}{Ds:DD}{S:SS}
def Ci{W1 W2:TZ}{x:D}(h1:Tab m n W1)(h2:Tab m n W2)(m6:m<=6)(n8:n<=8):RE (Xg [(true,x),(true,vY W1),(true,vY W2)]) (vY<|bh W1 W2):=by
 have hz:Yz (aC zi ZA) [sT x,sT<|vY W1,sT<|vY W2]=some ((W1.zip W2).map λq=>(true,.tup [Gr q.1,Gr q.2]),[sT x,sT<|vY W1,sT<|vY W2]):=by
  have:=JC (as:=[sT x,sT<|vY W1,sT<|vY W2]) (WD.e<|za (i:=1) rfl) (WD.e<|za (i:=2) rfl) (.t _)<|.t _;rw[this,List.zip_map,zyB];rfl
 have:=Ws (cap:=[none,none]) (gg:=gT 2<|yG y8<|yG (gN 1) XM) (fe:=fP (aC ny aN) tupP) _ hz (by rw[List.length_zip,h1.1];omega) (λq mq=>by
  obtain⟨q1,q2⟩:=List.of_mem_zip mq;have r1:=h1.2 _ q1;have r2:=h2.2 _ q2;refine⟨_,rfl,UK (Ws (it:=λa=>(true,D.int a)) q.1 ?_ (by rw[r1.1];exact q1Q n8) λa ma=>⟨_,rfl,WD.e<|zB (za rfl) (za rfl) (nO r2<|r1.2 a ma) rfl⟩) ?_⟩
  . have:=qQ (as:=[sT<|Gr q.1,sT<|Gr q.2])<|WD.e<|za (i:=0) rfl;rw[zyB]at this;exact this
  . show _=some (R0.im<|.tup<|(q.1.map<|Zd q.2).map D.int);rw[zyB];rfl)
 refine zL rfl<|zA<|UK this ?_;show _=some (R0.im<|.tup<|((W1.zip W2).map λp=>p.1.map<|Zd p.2).map Gr);rw[zyB];rfl
def HE{W:TZ}{v k:Int}(m1:1<=m)(h1:Tab m n W)(hv:zO n v):VR [(true,Nb n m J e Ds S),(true,vY W),(true,.int v),(true,.int k)]=sI (ym W (k%m) v):=by
 have wa:WD (f1 zm<|zT Ql "around") [sT<|Nb n m J e Ds S,sT<|vY W,sI v,sI k] true (.int m):=tw rfl (by decide +kernel) rfl;exact xV rfl<|xS<|JF h1 (QJ m1) hv (za rfl) (zU (za rfl) wa<|q0p m1)<|za rfl
end
def LW{a b c d e f:EF}{as:AS}{x y z u v w o:D}{g:List (Bool×D)->Option O}(ha:WE a as x)(hb:WE b as y)(hc:WE c as z)(hd:WE d as u)(he:WE e as v)(hf:WE f as w)(hg:RE (g [(true,x),(true,y),(true,z),(true,u),(true,v),(true,w)]) o):WE (zh (aC a<|aC b<|aC c<|aC d<|aC e<|aC f aN) g) as o:=by
 obtain⟨o,h1,h2⟩:=hg;exact⟨o,vN (yZ ha<|yZ hb<|yZ hc<|yZ hd<|yZ he<|yZ hf zr) (by show g [(zC x||true,x),_,_,_,_,_]=_;simp only[zyD];exact h1),h2⟩
abbrev k7(ns:List Str)(os:List O)(w b:Int)(a:D)(t:Bool)(x y:D):AS:=[some<|.nd (.ob "Knot" ns) os,sI w,sI b,sT a,sT<|.bl t,sT x,sT y]
def rR{w b:Int}{a x y:D}{t:Bool}{p s:Int}(hd:∀ns os,WE kB (k7 ns os w b a t x y)<|.int p)
 (hz:∀ns os,WE ll (k7 ns os w b a t x y)<|.int s):
 RE (yg "Knot" [(true,.int w),(true,.int b),(true,a),(true,.bl t),(true,x),(true,y)]) (kn w b a t x y p s):=by
 have v:∀i d ns os,_[i]? = some (sT d)->WE (fV i) (k7 ns os w b a t x y) d:=λi d ns os h=>WD.e<|za h;have h:ZM (Yw 7 (m3 "Knot"::[(true,.int w),(true,.int b),(true,a),(true,.bl t),(true,x),(true,y)].map Dg))=some _:=
  yA (yH (v 1 _ _ _ rfl) rfl (by decide +kernel) (by decide +kernel)<|by decide)
  (yA (yH (v 2 _ _ _ rfl) rfl (by decide +kernel) (by decide +kernel)<|by decide)
  (yA (yH (v 3 _ _ _ rfl) rfl (by decide +kernel) (by decide +kernel)<|by decide)
  (yA (yH (v 4 _ _ _ rfl) rfl (by decide +kernel) (by decide +kernel)<|by decide)
  (yA (yH (v 5 _ _ _ rfl) rfl (by decide +kernel) (by decide +kernel)<|by decide)
  (yA (yH (v 6 _ _ _ rfl) rfl (by decide +kernel) (by decide +kernel)<|by decide)
  (yA (yH (hd _ _) rfl (by decide +kernel) (by decide +kernel)<|by decide)
  (yH (hz _ _) rfl (by decide +kernel) (by decide +kernel)<|by decide)))))))
 refine⟨.nd (.ob "Knot" lL) [.lf true<|.int w,.lf true<|.int b,.lf true a,.lf true<|.bl t,.lf true x,.lf true y,.lf true<|.int p,.lf true<|.int s], ?_,rfl,rfl⟩;unfold yg oB;rw[if_pos (by rfl),h];rfl
def BP{w b:Int}{a:D}{t:Bool}:RE (yg "Knot" [(true,.int w),(true,.int b),(true,a),(true,.bl t),(true,.non),(true,.non)]) (kn w b a t .non .non 0 1):=
 rR (λ_ _=>Ef (yf (zB (za rfl) zb rfl rfl) rfl)<|WD.e zb) λ_ _=>Ef (yf (zB (za rfl) zb rfl rfl) rfl)<|WD.e zb
section
variable{c:Cx}{x y d:D}{r s R:List Int}{p q:Nat}
def KF{w b:Int}{a:D}{t:Bool}(k:TK c x r p)(l:TK c y s q):RE (yg "Knot" [(true,.int w),(true,.int b),(true,a),(true,.bl t),(true,x),(true,y)]) (kn w b a t x y ((1+max p q:Nat):Int) ((r.length+s.length:Nat):Int)):=by
 have v5:∀ns os,WD xr (k7 ns os w b a t x y) true x:=λ_ _=>za rfl;have v6:∀ns os,WD ZE (k7 ns os w b a t x y) true y:=λ_ _=>za rfl;refine rR (λns os=>En (k.isN<|v5 _ _) ?_) λns os=>En (k.isN<|v5 _ _) ?_
 . have h:=zK (zb (x:=.int 1))<|yr (g:=Nw) (zj (k.deep<|v5 ns os)<|zj (l.deep<|v6 ns os) zr) rfl rfl;rw[show((1+max p q:Nat):Int)=1+(if(q:Int) > p then(q:Int)else p) by split<;>omega];exact WD.e h
 . have h:=zK (k.size<|v5 ns os)<|l.size<|v6 ns os;rw[show((r.length+s.length:Nat):Int)=r.length+s.length by omega];exact WD.e h
def HN{v:Int}:RE (Qs [(true,.int v)]) (kn v v .non false .non .non 0 1):=
 zL rfl (zA<|LW (WD.e<|za rfl) (WD.e<|za rfl) (WD.e zb) (WD.e zb) (WD.e zb) (WD.e zb) BP)
def TK.mk(h:c.Ok)(w:Option TZ)(t:Bool)(hw:c.wok w)(k:TK c x r p)(l:TK c y s q)(h1:p<=q+1)(h2:q<=p+1){u v:Int}(hu:u=c.h (tn t<|c.ap w<|r++s))(hv:v=c.h (tn t<|c.ap w<|r++s).reverse):TK c (kn u v (Kn w) t x y ((1+max p q:Nat):Int) ((r.length+s.length:Nat):Int)) (tn t<|c.ap w<|r++s) (1+max p q):=by
 have:=TK.nd w t k l h1 h2 hw rfl;rw[M5,Wl,zzJ]at this;rw[hu,hv];exact this
def xX(h:c.Ok)(k:TK c x r p)(l:TK c y s q)(h1:p<=q+1)(h2:q<=p+1):∃d,RE (yu [(true,c.w),(true,x),(true,y)]) d/\TK c d (r++s) (1+max p q):=by
 have v1:WD zi [sT c.w,sT x,sT y] true x:=za rfl;have v2:WD zF [sT c.w,sT x,sT y] true y:=za rfl;have wy:WD zm [sT c.w,sT x,sT y] true c.w:=za rfl;have w1:=Ac (tbl:=RD) (m:="join") wy (by decide +kernel) rfl (WD.e<|k.whole v1) (WD.e<|l.whole v2)<|Ah h.A.j (Xh h.L.lj<|k.in h)<|Xh h.L.lj<|l.in h;have w2:=Ac (tbl:=RD) (m:="join") wy (by decide +kernel) rfl (WD.e<|l.back v2) (WD.e<|k.back v1)<|Ah h.A.j (Xh h.L.lj<|l.rev h)<|Xh h.L.lj<|k.rev h;refine⟨_,zL rfl<|zA<|LW w1 w2 (WD.e zb) (WD.e zb) (WD.e v1) (WD.e v2)<|KF k l,TK.mk h none false trivial k l h1 h2 ?_ ?_⟩
 . exact(J_ h.L.lj (k.in h)<|l.in h).symm
 . show _=c.h (r++s).reverse;rw[List.reverse_append];exact(J_ h.L.lj (l.rev h)<|k.rev h).symm
def Og(h:c.Ok){w u:Option TZ}(hw:c.wok w)(hu:c.wok u):∃v,RE (XZ [(true,c.w),(true,Kn w),(true,Kn u)]) (Kn v)/\c.wok v/\∀r,c.In r->c.ap v r=c.ap u (c.ap w r):=by
 cases w with
 |none=>exact⟨u,zL rfl<|yk<|yK (yf (zB (za rfl) zb rfl rfl) rfl)<|zA<|WD.e<|za rfl,hu,λ_ _=>rfl⟩
 |some A=>
  have t1:∀z,WT (fT<|f2 zi (fC .non)<|zy .Is) [sT c.w,sT<|vY A,z] false:=λz=>yf (zB (za rfl) zb rfl rfl) rfl;cases u with
  |none=>exact⟨some A,zL rfl<|zc (zq (t1 _) rfl)<|yk<|yK (yf (zB (za rfl) zb rfl rfl) rfl)<|zA<|WD.e<|za rfl,hw,λ_ _=>rfl⟩
  |some B=>
   have m1:=h.m1;have at':∀{i a:Int},zO c.m i->zO c.n a->ym (bh A B) i a=ym B i _:=λhi ha=>kG hw.t hu.t hi ha;refine⟨some<|bh A B,zL rfl<|zc (zq (t1 _) rfl)<|zc (zq (yf (zB (za rfl) zb rfl rfl) rfl) rfl)<|zA<|Ac (za rfl) (by decide +kernel) rfl (WD.e<|za rfl) (WD.e<|za rfl)<|Ci hw.t hu.t h.A.m6 h.A.n8,⟨oZ hw.t hu.t, ?_⟩,λr hr=>?_⟩
   . have he:=h.L.lj.ce;have h0:zO c.m 0:=⟨Int.le_refl _,Int.natCast_pos.mpr h.A.m1⟩;refine⟨λi a hi ha=>?_, ?_,λa i b k ha hi hb hk=>?_⟩
     . rw[at' hi ha];exact hu.l.cl _ _ hi<|hw.l.cl _ _ hi ha
     . rw[at' h0 he,hw.l.em,hu.l.em]
     . rw[at' (QJ h.A.m1)<|h.L.lj.cl _ _ ha hb,at' hi ha,at' hk hb,hw.l.dn a i b k ha hi hb hk,hu.l.dn _ i _ k (hw.l.cl _ _ hi ha) hi (hw.l.cl _ _ hk hb) hk]
   . show _=(r.map _).map _;rw[zyB];exact List.map_congr_left λa ma=>at' m1<|hr a ma
def M3(h:c.Ok){T:TZ}(hT:c.W T)(k:TK c d R p):∃d',RE (Zg [(true,c.w),(true,d),(true,vY T)]) d'/\TK c d' (c.ap (some T) R) p:=by
 have v1:∀a b,WD zi [sT c.w,sT d,sT<|vY T,a,b] true d:=λ_ _=>za rfl;have mk:∀{v:Int}{j:EF}{a b:Option O},zO c.n v->WE j [sT c.w,sT d,sT<|vY T,a,b] (.int v)->WE (Ye U3 "made" zm _) [sT c.w,sT d,sT<|vY T,a,b] _:=λhv hj=>
  rD (za rfl) (by decide +kernel) rfl (WD.e<|za (i:=2) rfl) hj (WD.e<|k.size<|v1 _ _) (RE.lf<|HE h.A.m1 hT.t hv)
 have e1:=EA h.A.m1 h.L.lj hT.l R<|k.in h;have e2:=EA h.A.m1 h.L.lj hT.l R.reverse<|k.rev h;rw[List.length_reverse]at e2;have s3:=yL (p:=3) (mk (a:=none) (b:=none) (Xh h.L.lj<|k.in h)<|WD.e<|k.whole<|v1 _ _)<|zg rfl;rw[<-e1]at s3;have s4:=yL (p:=4) (mk (a:=sI<|HK c.J c.e<|R.map<|ym T<|1%c.m) (b:=none) (Xh h.L.lj<|k.rev h)<|WD.e<|k.back<|v1 _ _)<|zg rfl;rw[<-e2]at s4;have t0:=k.zero<|v1 (sI<|HK c.J c.e<|R.map<|ym T<|1%(c.m:Int)) none;cases k with
 |lf v t hv=>
  exact⟨_,zL rfl<|zc (zq ((TK.lf v t hv).isN<|za rfl) rfl)<|zc s3<|yk<|yK t0<|zA<|wF (WD.e<|za rfl) HN,TK.lf _ false<|hT.l.cl _ _ h.m1 hv⟩
 | @nd w t x y r s p q R k l h1 h2 hw e=>
  obtain⟨v,b1,b2,b3⟩:=Og h hw (show c.wok (some T)from hT);have kk:=TK.nd w t k l h1 h2 hw e;rw[zyG<|q1e h1 h2]at t0;have f:∀{cs:List Str}{n:Str}{z:D}(a b:Option O),("Knot":Str) ∈ cs->B6 lL [.int<|c.h R,.int<|c.h R.reverse,Kn w,.bl t,x,y,.int ((1+max p q:Nat):Int),.int R.length] n=some z->WE (f1 zi<|zT cs n) [sT c.w,sT _,sT<|vY T,a,b] z:=λa b hc hl=>WD.e<|Wn (v1 a b) hc hl;have eR:c.ap (some T) R=tn t (c.ap v<|r++s):=by rw[e,rJ,b3 _<|S_ (k.in h)<|l.in h]
  refine⟨_,zL rfl<|zc (zq (kk.isN<|za rfl) rfl)<|zc s3<|zc (zq t0 rfl)<|zc s4<|zA<|LW (WD.e<|za rfl) (WD.e<|za rfl) (z_ (WD.e<|za rfl) (f _ _ (by decide +kernel) rfl) (WD.e<|za rfl) b1) (f _ _ (by decide +kernel) rfl) (f _ _ (by decide +kernel) rfl) (f _ _ (by decide +kernel) rfl)<|KF k l, ?_⟩;have:=TK.mk h v t b2 k l h1 h2 (u:=HK c.J c.e<|R.map<|ym T<|1%c.m) (v:=HK c.J c.e<|R.reverse.map<|ym T<|1%c.m) (by rw[<-eR];rfl) (by rw[<-eR,List.map_reverse];rfl);rw[<-eR]at this;exact this
def Mx(h:c.Ok)(k:TK c d R p):∃d',RE (Z2 [(true,c.w),(true,d)]) d'/\TK c d' R.reverse p:=by
 have v1:WD zi [sT c.w,sT d] true d:=za rfl;have w1:=WD.e<|k.back v1;have w2:=WD.e<|k.whole v1;have n0:=k.isN v1;cases k with
 |lf v t hv=>
  exact⟨_,zL rfl<|zc (zq n0 rfl)<|zA<|LW w1 w2 (WD.e<|Wn v1 (by decide +kernel) rfl) (WD.e<|AK<|Wn v1 (by decide +kernel) rfl) (WD.e<|Wn v1 (by decide +kernel) rfl) (WD.e<|Wn v1 (by decide +kernel) rfl) BP,TK.lf _ _ hv⟩
 | @nd w t x y r s p q R k l h1 h2 hw e=>
  refine⟨_,zL rfl<|zc (zq n0 rfl)<|zA<|LW w1 w2 (WD.e<|Wn v1 (by decide +kernel) rfl) (WD.e<|AK<|Wn v1 (by decide +kernel) rfl) (WD.e<|Wn v1 (by decide +kernel) rfl) (WD.e<|Wn v1 (by decide +kernel) rfl)<|KF k l, ?_⟩;have eR:R.reverse=tn (!t) (c.ap w<|r++s):=by
   rw[e];cases t with
   |false=>rfl
   |true=>exact List.reverse_reverse _
  have:=TK.mk h w (!t) hw k l h1 h2 (by rw[<-eR]) (by rw[<-eR,List.reverse_reverse]);rw[<-eR]at this;exact this
def YB(h:c.Ok)(k:TK c d R p)(hp:p≠0):∃x y r s u v,RE (vg [(true,c.w),(true,d)]) (.tup [x,y])/\TK c x r u/\TK c y s v/\u<=v+1/\v<=u+1/\p=1+max u v/\R=r++s:=by
 cases k with
 |lf=>exact absurd rfl hp
 | @nd w t x y r s p q R k l h1 h2 hw e=>
  have v1:∀a b,WD zi [sT c.w,sT _,a,b] true (kn (c.h R) (c.h R.reverse) (Kn w) t x y ((1+max p q:Nat):Int) R.length):=λ_ _=>za (i:=1) rfl;have s2:=zG (i:=2) (st:=true) (Wn (cs:=VQ) (f:="one") (v1 none none) (by decide +kernel) rfl)<|zg rfl;have s3:=zG (i:=3) (st:=true) (Wn (cs:=Zv) (f:="other") (v1 (sT x) none) (by decide +kernel) rfl)<|zg rfl;obtain⟨x',y',q1,q2,q3⟩:∃x' y',yR (fT<|f2 (f1 zi<|zT Zr "wait") (fC .non)<|zy .IsNot) _ yM [sT c.w,sT<|kn (c.h R) (c.h R.reverse) (Kn w) t x y ((1+max p q:Nat):Int) R.length,sT x,sT y]=some (.nx [sT c.w,sT<|kn (c.h R) (c.h R.reverse) (Kn w) t x y ((1+max p q:Nat):Int) R.length,sT x',sT y'])/\TK c x' (c.ap w r) p/\TK c y' (c.ap w s) q:=by
   cases w with
   |none=>exact⟨x,y,zq (yf (zB (Wn (v1 _ _) (by decide +kernel) rfl) zb rfl rfl) rfl) rfl,k,l⟩
   |some T=>
    obtain⟨x',a1,a2⟩:=M3 h hw k;obtain⟨y',b1,b2⟩:=M3 h hw l;have wt:∀a b,WE (f1 zi<|zT Zr "wait") [sT c.w,sT _,a,b] (vY T):=λa b=>WD.e<|Wn (v1 a b) (by decide +kernel) rfl;exact⟨x',y',y6 (yf (OU (wt _ _) (WD.e zb) rfl) rfl)<|zo (yL (p:=2) (z_ (WD.e<|za (i:=0) rfl) (WD.e<|za (i:=2) rfl) (wt _ _) a1)<|zg rfl)<|yL (p:=3) (z_ (WD.e<|za (i:=0) rfl) (WD.e<|za (i:=3) rfl) (wt _ _) b1)<|zg rfl,a2,b2⟩
  have tt:WT (fT<|f1 zi<|zT Xa "turn") [sT c.w,sT _,sT x',sT y'] t:=yf (Wn (v1 _ _) (by decide +kernel) rfl) rfl;cases t with
  |false=>exact⟨x',y',_,_,p,q,zL rfl<|zc s2<|zc s3<|zc q1<|zc (zq tt rfl)<|zA<|yp (WD.e<|za rfl)<|WD.e<|za rfl,q2,q3,h1,h2,rfl,by rw[e,Sk];rfl⟩
  |true=>
   obtain⟨x'',a1,a2⟩:=Mx h q2;obtain⟨y'',b1,b2⟩:=Mx h q3;exact⟨y'',x'',_,_,q,p,zL rfl<|zc s2<|zc s3<|zc q1<|yk<|yK tt<|zA<|yp (xx (WD.e<|za rfl) (WD.e<|za rfl) b1)<|xx (WD.e<|za rfl) (WD.e<|za rfl) a1,b2,a2,h2,h1,by rw[Nat.max_comm],by rw[e,Sk];exact List.reverse_append⟩
end
def rL{f:EF}{as:AS}{ds:List D}(h:WD f as true (.tup ds)):YU f as=some (ds.map λd=>(true,d),as):=by
 unfold YU;unfold WD at h;rw[h];show some (kids true ds,as)=_;rw[X0]
def N7{as:AS}{i:Nat}{fr:AF}{g:List wK->O->Option O}{rs:List RV}{xs:List wK}{o r:O}(h1:fr as=some (rs,as))(h2:Bk i rs=some xs)(h3:as[i]? = some (some o))(h4:g xs o=some r):Wx i fr g as=some (.nx<|as.set i<|some r):=by
 unfold Wx;rw[h1];show(Bk i rs).bind _=_;rw[h2];show _=_;rw[h3];show(g xs o).bind _=_;rw[h4];rfl
def ip{f:EF}{as:AS}{d:D}(hd:zC d=true)(h:WE f as d):WD f as true d:=by
 obtain⟨o,h,h1,h2⟩:=h;cases o with
 |lf s x=>subst h2;rw[show s=true from h1]at h;exact h
 |nd k os=>subst h2;cases k<;>cases hd
def pC{f:EF}{as:AS}{k:Bool}(h:WE f as (.bl k)):WT (fT f) as k:=yf (ip rfl h) rfl
section
variable{c:Cx}{x y d:D}{r s R:List Int}{p q:Nat}
abbrev g9(c:Cx)(d:D)(w:Option TZ)(t:Bool)(acc:List Int)(a b e f:Option O):AS:=[sT c.w,sT d,sT<|Kn w,sT<|.bl t,some<|xN acc,a,b,e,f]
def jw(acc:List Int)(v:Int):acc.map Fm++[Fm v]=(acc++[v]).map Fm:=by rw[zyM];rfl
theorem N1(h:c.Ok):∀(k:Nat) {d:D}{R:List Int}{p:Nat}(w:Option TZ) (t:Bool) (acc:List Int),TK c d R p->c.wok w->p<k->acc.length+R.length<=1000->xU k [(true,c.w),(true,d),(true,Kn w),(true,.bl t)] (xN acc)=some (xN<|acc++tn t (c.ap w R))
 |0,_,_,_,_,_,_,_,_,h,_=>absurd h (Nat.not_lt_zero _)
 |n+1,d,R,p,w,t,acc,k,hw,hp,hl=>by
  obtain⟨a',b',e',f',run⟩:∃a b e f,KC (xU n) (g9 c d w t acc none none none none)=some (.nx<|g9 c d w t (acc++tn t (c.ap w R)) a b e f):=by
   have v1:∀a b e f,WD zi (g9 c d w t acc a b e f) true d:=λ_ _ _ _=>za (i:=1) rfl;have t0:=k.zero<|v1 none none none none;have wh:=k.whole<|v1 none none none none;have al:acc.length<1001:=by omega
   cases k with
   |lf v b hv=>
    have wv:∃u,[u]=tn t (c.ap w [v])/\WD lu (g9 c (kn v v .non b .non .non 0 1) w t acc none none none none) true (.int u):=by
     cases w with
     |none=>exact⟨v,by cases t<;>rfl,q5 (yf (zB (a:=fV 2) (za (i:=2) rfl) zb rfl rfl) rfl) wh⟩
     |some T=>exact⟨ym T (1%(c.m:Int)) v,by cases t<;>rfl,oU (yf (zB (a:=fV 2) (za (i:=2) rfl) zb rfl rfl) rfl)<|ip rfl<|rD (za (i:=0) rfl) (by decide +kernel) rfl (WD.e<|za (i:=2) rfl) (WD.e wh) (WD.e zb)<|RE.lf<|HE (k:=1) h.A.m1 hw.t hv⟩
    obtain⟨u,e,wv⟩:=wv;refine⟨none,none,none,none,y6 t0 ?_⟩;rw[AZ (i:=4) rfl (by rw[zzB];exact zzK al<|OP<|by decide) wv,<-e];show some (Out.nx [_,_,_,_,some _,_,_,_,_])=_;rw[jw]
   | @nd u b x y r s p q R k l h1 h2 hu e=>
    rw[zyG<|q1e h1 h2]at t0;obtain⟨v,b1,b2,b3⟩:=Og h hu hw;have hR:R.length=r.length+s.length:=by rw[e,M5,Wl,zzJ]
    have eR:tn t (c.ap w R)=tn (b != t) (c.ap v r++c.ap v s):=by rw[e,rJ,lC,<-b3 _ (S_ (k.in h)<|l.in h),Sk]
    rw[eR];have f:∀{cs:List Str}{n:Str}{z:D}(a b' e f:Option O),("Knot":Str) ∈ cs->B6 lL [.int<|c.h R,.int<|c.h R.reverse,Kn u,.bl b,x,y,.int ((1+max p q:Nat):Int),.int (R.length:Int)] n=some z->WD (f1 zi<|zT cs n) _ true z:=λa b e f hc hl=>Wn (v1 a b e f) hc hl;have s5:=yL (p:=5) (z_ (WD.e<|za (i:=0) rfl) (WD.e<|f (cs:=Zr) (n:="wait") none none none none (by decide +kernel) rfl) (WD.e<|za (i:=2) rfl) b1)<|zg rfl;have s6:=zG (i:=6) (st:=true) (Ov (c:=b==t) (f (cs:=Xa) (n:="turn") (sT<|Kn v) none none none (by decide +kernel) rfl) (za (i:=3) rfl)<|by cases b<;>cases t<;>rfl)<|zg rfl;rw[show(!(b==t))=(b != t)from rfl]at s6;have fx:=WD.e<|f (cs:=VQ) (n:="one") (sT<|Kn v) (sT<|.bl<|b != t) none none (by decide +kernel) rfl;have fy:=WD.e<|f (cs:=Zv) (n:="other") (sT<|Kn v) (sT<|.bl<|b != t) none none (by decide +kernel) rfl;have w6:WT (fT ZE) (g9 c (kn (c.h R) (c.h R.reverse) (Kn u) b x y ((1+max p q:Nat):Int) (R.length:Int)) w t acc (sT<|Kn v) (sT<|.bl<|b != t) none none) (b != t):=yf (za (i:=6) rfl) rfl;have cl:∀{z:D}{r':List Int}{p':Nat}(a:List Int) (o f:Option O),TK c z r' p'->p'<n->a.length+r'.length<=1000->Wx 4 qm (xU n) [sT c.w,f,sT<|Kn w,sT<|.bl t,some<|xN a,sT<|Kn v,sT<|.bl<|b != t,o,sT z]=some _:=λ{z r' p'} a o f k' hp' ha=>N7 rfl rfl rfl<|N1 h n v (b != t) a k' b2 hp' ha;have lp:∀{z z':D}{r1 r2:List Int}{p1 p2:Nat}(o:Option O),TK c z r1 p1->TK c z' r2 p2->p1<n->p2<n->acc.length+r1.length+r2.length<=1000->forL (gN 8) (Wx 4 qm<|xU n) [(true,z),(true,z')] (g9 c (kn (c.h R) (c.h R.reverse) (Kn u) b x y ((1+max p q:Nat):Int) (R.length:Int)) w t acc (sT<|Kn v) (sT<|.bl<|b != t) o none)=some _:=λ{z z' r1 r2 p1 p2} o k1 k2 l1 l2 hl=>xZ rfl (cl acc o _ k1 l1<|by omega)<|xZ rfl (cl (acc++tn (b != t) (c.ap v r1)) o _ k2 l2<|by rw[zzJ,M5,Wl];exact hl) rfl;cases hc:(b != t)with
    |false=>
     rw[hc]at w6 s6 lp fx fy;have:=lp (sT<|.tup [x,y]) k l (q1p hp h1 h2) (q1k hp h1 h2) (by omega);rw[zxC]at this;exact⟨_,_,_,_,zq t0<|zo s5<|zo s6<|zo (yL (p:=7) (En w6<|yp fx fy)<|zg rfl)<|yn (rL<|za (i:=7) rfl) this⟩
    |true=>
     rw[hc]at w6 s6 lp fx fy;have:=lp (sT<|.tup [y,x]) l k (q1k hp h1 h2) (q1p hp h1 h2) (by omega);rw[zxC,show tn true (c.ap v s)++tn true (c.ap v r)=tn true (c.ap v r++c.ap v s)from List.reverse_append.symm]at this;exact⟨_,_,_,_,zq t0<|zo s5<|zo s6<|zo (yL (p:=7) (Ef w6<|yp fy fx)<|zg rfl)<|yn (rL<|za (i:=7) rfl) this⟩
  show gL 9 5 _ _ (xN acc)=_;unfold gL;rw[if_pos (by rfl),show Uz 9 [(true,c.w),(true,d),(true,Kn w),(true,.bl t)] (xN acc)=g9 c d w t acc none none none none from rfl,run];rfl
def qL(h:c.Ok)(k:TK c d R p)(hl:R.length<=1000):XT [(true,c.w),(true,d)]=some (xN R):=by
 have g:=N1 h 20 none false [] k trivial (k.lt hl) (by show 0+_<=_;omega);have cl:Wx 2 (aC zm<|aC zi<|aC (fC .non)<|aC (fC _) ZA) _ [sT c.w,sT d,some _]=some _:=N7 rfl rfl rfl g;exact xV rfl<|zo (yV (wq yi<|VI rfl)<|zg rfl)<|zo (y6 (k.isS<|za rfl) cl)<|Qy rfl (XO R).1
def u6:XT [(true,c.w),(true,.non)]=some (xN []):=
 xV rfl (zo (yV (wq yi<|VI rfl)<|zg rfl)<|zo (zq (yf (zB (za rfl) zb rfl rfl) rfl) rfl)<|Qy rfl (XO []).1)
def OT(c:Cx)(d:D)(R:List Int):Prop:=(d = .non/\R=[])\/∃p,TK c d R p
def TK.o(k:TK c d R p):OT c d R:=.inr ⟨p,k⟩
def OT.n:OT c .non []:=.inl ⟨rfl,rfl⟩
theorem OT.in(h:c.Ok)(k:OT c d R):c.In R:=by
 rcases k with⟨_,rfl⟩|⟨p,k⟩
 . exact λ_ m=>nomatch m
 . exact k.in h
def DH(k:OT c d R):RE (XU [(true,d)]) (.int R.length):=by
 rcases k with⟨rfl,rfl⟩|⟨p,k⟩
 . exact zL rfl<|zA<|Ef (yf (zB (za rfl) zb rfl rfl) rfl)<|WD.e zb
 . exact zL rfl<|zA<|En (k.isN<|za rfl)<|WD.e<|k.size<|za rfl
def nP(h:c.Ok)(k:OT c d R)(hl:R.length<=1000):XT [(true,c.w),(true,d)]=some (xN R):=by
 rcases k with⟨rfl,rfl⟩|⟨p,k⟩
 . exact u6
 . exact qL h k hl
def v9{as:AS}{j:Nat}{i:Int}{ds:List D}{z:D}(h:as[j]? = some (sT<|.tup ds))(hz:zx (.tup ds) (.int i)=some (.im z)):WD (f2 (fV j) (fC<|.int i) zx) as true z:=yE (za h) zb hz
end
def PR{f:EF}{as:AS}{s:Bool}{y:D}{fl fh:OF}{lo hi:Option Int}{r:List Int}(ha:WD f as s y)(hl:fl as=some (lo,as))(hh:fh as=some (hi,as))(hg:QE y lo hi=some (.fl<|r.map D.int)):WE (WR f fl fh QE) as (zk r):=by
 refine⟨xN r, ?_,XO r⟩;unfold WD at ha;unfold WR;rw[ha];show((fl as).bind _)=_;rw[hl];show((fh as).bind _)=_;rw[hh];show((QE y lo hi).bind _)=_;rw[hg];show(if _=true then some _ else none:Option RV).bind _=_;rw[if_pos (by simp),zyB];rfl
def slt{n:Nat}(h:n<1000):n<sizeLine:=zzK h (OP<|by decide)
def Pu{f:EF}{as:AS}{r:List Int}(h:f as=some (.ow<|xN r,as)):WE f as (zk r):=⟨_,h,XO r⟩
noncomputable def dg:Int->List Int->List Int
 |_,[]=>[]
 |x,z::r=>x%z::dg (x/z) r
theorem Kb:∀(l:List Int) (x:Int),(dg x l).length=l.length
 | [],_=>rfl
 |_::r,x=>congrArg (· + 1)<|Kb r _
theorem Oa{n:Nat}(hn:1<=n):∀(k:Nat) (x:Int),∀v ∈ dg x (List.replicate k (n:Int)),zO n v
 |0,_,v,m=>nomatch m
 |k+1,x,v,m=>by
  have m:=m
  rcases zzC.mp m with rfl|m
  . exact QJ hn
  . exact Oa hn k _ v m
abbrev dy:SF:=(ze (yq<|vX 2 (dC (f2 zm zE zM) dN) vM)
 (zp true 0<|f2 zm zE zD))
theorem Ii{B:Option O}:∀(sz:List Int) (x:Int) (acc:List Int) (e3:Option O),(∀z ∈ sz,0<z/\z<1000000)->acc.length+sz.length<=900->∃x' e3',forL (gN 3) dy (sz.map λz=>(true,D.int z)) [sI x,B,some<|xN acc,e3]=some (.nx [sI x',B,some<|xN<|acc++dg x sz,e3'])
 | [],x,acc,e3,_,_=>⟨x,e3,by rw[show acc++dg x []=acc from zyE _];rfl⟩
 |z::sz,x,acc,e3,h,hl=>by
  have hz:=h z<|zzF ..;rw[zzT]at hl;obtain⟨x',f3,hf⟩:=Ii sz (x/z) (acc++[x%z]) (sI z) (λy m=>h y<|zzD _ m) (by rw[zzJ];show acc.length+1+sz.length<=900;exact q1A hl);rw[zxC]at hf;refine⟨x',f3,xZ rfl (zo (as1:=[sI x,B,some _,sI z]) ?_<|zG (xi (za rfl) (za rfl) hz.1<|zz (by omega)<|by omega)<|zg rfl) hf⟩;have ap:=UL (i:=2) (as:=[sI x,B,some<|xN acc,sI z]) rfl (zU (za (i:=0) rfl) (za (i:=3) rfl) hz.1) rfl (by rw[zzB];exact slt<|q1y hl);rw[<-F_]at ap;exact ap
def Cj{x:Int}{sz:List Int}(h:∀z ∈ sz,0<z/\z<1000000)(hl:sz.length<=900):yw [(true,.int x),(true,zk sz)]=some (xN<|dg x sz):=by
 obtain⟨x',e3,hf⟩:=Ii sz x [] none h (by show 0+_<=_;omega);have it:YU zi [sI x,sT<|zk sz,some<|xN [],none]=some (sz.map λz=>(true,D.int z),[sI x,sT<|zk sz,some<|xN [],none]):=by
  have:=Ic<|WD.e<|za (as:=[sI x,sT<|zk sz,some<|xN [],none]) (i:=1) rfl;rw[zyB]at this;exact this
 exact xV rfl<|zo (yV (wq yi<|VI rfl)<|zg rfl)<|zo (yn it hf)<|Qy rfl (Zz _).2.1
def Hl{a b:EF}{as:AS}{x:Int}{sz:List Int}(h:∀z ∈ sz,0<z/\z<1000000)(hl:sz.length<=900)(ha:WE a as (.int x))(hb:WE b as (zk sz)):WE (zh (aC a<|aC b aN) yw) as (zk<|dg x sz):=xx ha hb ⟨_,Cj h hl,XO _⟩
def Lg(p n:Nat):Prop:=n<=2 ^ p/\(p=0\/2 ^ (p-1)<n)
def oW{p q a b:Nat}(ha:1<=a)(h1:a<=b)(h2:b<=a+1)(hp:Lg p a)(hq:Lg q b):p<=q/\q<=p+1/\Lg (1+max p q) (a+b):=by
 obtain⟨p1,p2⟩:=hp;obtain⟨q1,q2⟩:=hq;have e1:p<=q:=by
  rcases p2 with p2|p2
  . omega
  . refine Nat.le_of_not_lt λh=>?_;have:=Nat.pow_le_pow_right (n:=2) (by decide) (show q<=p-1 by omega);omega
 have e2:q<=p+1:=by
  rcases q2 with q2|q2
  . omega
  . refine Nat.le_of_not_lt λh=>?_;have:=Nat.pow_le_pow_right (n:=2) (by decide) (show p+1<=q-1 by omega);rw[Nat.pow_succ]at this;omega
 refine⟨e1,e2, ?_⟩;rw[Nat.max_eq_right e1];refine⟨?_,.inr ?_⟩
 . rw[Nat.add_comm 1 q,Nat.pow_succ];omega
 . rw[show 1+q-1=q by omega]
   rcases q2 with q2|q2
   . subst q2;omega
   . obtain⟨r,rfl⟩:∃r,q=r+1:=⟨q-1,by
      have:q≠0:=λz=>by subst z;have:2 ^ (0-1)=1:=rfl;have z1:=q1;omega
      omega⟩
     rw[Nat.add_sub_cancel]at q2;rw[Nat.pow_succ];omega
section
variable{c:Cx}{x y d:D}{r s R:List Int}{p q:Nat}
theorem EB(h:c.Ok):∀(k:Nat) (r:List Int),1<=r.length->r.length<=2 ^ k->r.length<=1000->c.In r->∀s:Bool,∃d p,RE (xM (k+1) [(true,c.w),(s,zk r)]) d/\TK c d r p/\Lg p r.length
 |k,r,h1,h2,hk,hv,s=>by
  have wl:=λz=>by
   have:=yr (as:=[sT c.w,some<|.lf s<|zk r,z]) (g:=xq) (zj (za (i:=1) rfl) zr) rfl rfl;rw[zzB]at this;exact this
  have t0:WT (fT<|f2 (fP wA xq) zV<|zy .Eq) [sT c.w,some<|.lf s<|zk r,none] false:=yf (Re (wl _) zb (by show some ((r.length:Int)==0)=_;rw[beq_eq_false_iff_ne.mpr<|by omega])) rfl;have t1:WT (fT<|f2 (fP wA xq) zJ<|zy .Eq) [sT c.w,some<|.lf s<|zk r,none] (decide (r.length=1)):=yf (Re (wl _) zb (by
   show some _=_
   by_cases h:r.length=1
   . rw[h];rfl
   . rw[beq_eq_false_iff_ne.mpr (by omega),zyG h])) rfl
  by_cases hr:r.length=1
  . rw[zyO hr]at t1
    match r,hr with
    | [v],_=>
     exact⟨_,0,zL rfl<|zc (zq t0 rfl)<|yk<|yK t1<|zA<|wF (WD.e<|zB (za rfl) zb rfl rfl) HN,.lf v false<|hv v zzF,⟨zzN _,.inl rfl⟩⟩
  . rw[zyG hr]at t1;cases k with
    |zero=>exact absurd (h2) (by omega)
    |succ k=>
     rw[Nat.pow_succ]at h2;have s3:zp true 2 (f2 (fP wA xq) yN zD) [sT c.w,some<|.lf s<|zk r,none]=some _:=zG (xi (wl none) (zb) (by decide)<|zz (by decide)<|by decide)<|zg rfl;have l1:(r.take<|r.length/2).length=r.length/2:=by rw[zzS];omega
     have l2:(r.drop<|r.length/2).length=r.length-r.length/2:=List.length_drop;obtain⟨x,p,a1,a2,a3⟩:=EB h k (r.take<|r.length/2) (by omega) (by omega) (by omega) (λv mv=>hv v<|List.mem_of_mem_take mv) true;obtain⟨y,q,b1,b2,b3⟩:=EB h k (r.drop<|r.length/2) (by omega) (by omega) (by omega) (λv mv=>hv v<|List.mem_of_mem_drop mv) true;rw[l1]at a3;rw[l2]at b3;obtain⟨q1,q2,q3⟩:=oW (by omega) (by omega) (by omega) a3 b3;obtain⟨d,d1,d2⟩:=xX h a2 b2 (by omega) (by omega);have sp:(r.map D.int)=(r.take<|r.length/2).map D.int++(r.drop<|r.length/2).map D.int:=by rw[<-zyM,List.take_append_drop]
     have c1:=Dc (xs:=(r.take<|r.length/2).map D.int) (ys:=(r.drop<|r.length/2).map D.int);have c2:=Bq (xs:=(r.take<|r.length/2).map D.int) (ys:=(r.drop<|r.length/2).map D.int);rw[<-sp,zzB,l1]at c1 c2;have w1:WE (WR zi oN (oS zF) QE) [sT c.w,some<|.lf s<|zk r,sI _] _:=PR (za rfl) rfl rfl c1;have w2:WE (WR zi (oS zF) oN QE) [sT c.w,some<|.lf s<|zk r,sI _] _:=PR (za rfl) rfl rfl c2;have wy:WE zm [sT c.w,some<|.lf s<|zk r,sI ((r.length/2:Nat):Int)] c.w:=WD.e<|za rfl;rw[List.take_append_drop]at d2;exact⟨d,_,zL rfl<|zc (zq t0 rfl)<|zc (zq t1 rfl)<|zc s3<|zA<|z_ wy (xx wy w1 a1) (xx wy w2 b1) d1,d2,by rw[show r.length/2+(r.length-r.length/2)=r.length by omega]at q3;exact q3⟩
def p3(h:c.Ok)(hl:r.length<=1000)(hv:c.In r)(s:Bool):∃d,RE (xM 20 [(true,c.w),(s,zk r)]) d/\OT c d r:=by
 by_cases e:r=[]
 . subst e;exact⟨.non,zL rfl<|yk<|yK (yf (Re (yr (zj (za rfl) zr) rfl rfl) zb rfl) rfl)<|zA<|WD.e zb,.n⟩
 . obtain⟨d,p,a,b,_⟩:=EB h 19 r (List.length_pos_iff.mpr e) (zzO hl<|by decide) hl hv s;exact⟨d,a,b.o⟩
def j0{a b:EF}{as:AS}(k:TK c x r p)(l:TK c y s q)(ha:WD a as true x)(hb:WD b as true y):WT (fT<|f2 (f1 a<|zT yz "deep") (f2 (f1 b<|zT yz "deep") zJ zt)<|zy .Gt) as (decide (q+1<p)):=by
 have:=yf (jD (k.deep ha)<|zK (l.deep hb)<|zb (x:=.int 1)) rfl;rw[show decide _=decide (q+1<p)from decide_eq_decide.mpr<|by omega]at this;exact this
def fG{a b:EF}{as:AS}(k:TK c x r p)(l:TK c y s q)(ha:WD a as true x)(hb:WD b as true y):WT (fT<|f2 (f1 a<|zT yz "deep") (f1 b<|zT yz "deep")<|zy .GtE) as (decide (q<=p)):=by
 have:=yf (mI (k.deep ha)<|l.deep hb) rfl;rw[show decide _=decide (q<=p)from decide_eq_decide.mpr<|by omega]at this;exact this
def ux(h:c.Ok)(k:TK c x r p)(l:TK c y s q)(e:p=q+2):∃d u,RE (Xs [(true,c.w),(true,x),(true,y)]) d/\TK c d (r++s) u/\p<=u/\u<=p+1:=by
 obtain⟨x1,x2,r1,r2,p1,p2,k0,k1,k2,k3,k4,k5,rfl⟩:=YB h k<|q1H e;have wy:∀a b,WE zm [sT c.w,sT x,sT y,a,b] c.w:=λ_ _=>WD.e<|za rfl;have v2:∀a b,WE zF [sT c.w,sT x,sT y,a,b] y:=λ_ _=>WD.e<|za rfl;have s3:=yL (p:=3) (xx (wy none none) (WD.e<|za (i:=1) rfl) k0)<|zg rfl;have u0:∀b,WD (f2 zE zV zx) [sT c.w,sT x,sT y,sT<|.tup [x1,x2],b] true x1:=λ_=>v9 rfl rfl;have u1:∀b,WD (f2 zE zJ zx) [sT c.w,sT x,sT y,sT<|.tup [x1,x2],b] true x2:=λ_=>v9 rfl rfl;have t:=fG k1 k2 (u0 none)<|u1 none
 by_cases g:p2<=p1
 . rw[zyO g]at t;obtain⟨d1,a1,a2⟩:=xX h k2 l (by omega) (by omega);obtain⟨d2,b1,b2⟩:=xX h k1 a2 (by omega) (by omega);rw[<-zxC]at b2;exact⟨d2,_,zL rfl<|zc s3<|yk<|yK t<|zA<|z_ (wy _ _) (WD.e<|u0 _) (z_ (wy _ _) (WD.e<|u1 _) (v2 _ _) a1) b1,b2,by omega,by omega⟩
 . rw[zyG g]at t;obtain⟨z1,z2,s1,s2,q1,q2,l0,l1,l2,l3,l4,l5,rfl⟩:=YB h k2<|q2d k4 k3 g;obtain⟨d1,a1,a2⟩:=xX h k1 l1 (by omega) (by omega);obtain⟨d2,b1,b2⟩:=xX h l2 l (by omega) (by omega);obtain⟨d3,c1,c2⟩:=xX h a2 b2 (by omega) (by omega);have s4:=yL (p:=4) (xx (wy _ _) (WD.e<|u1 none) l0)<|zg rfl;rw[show r1++s1++_=r1++(s1++s2)++s by simp only[zxC]]at c2;exact⟨d3,_,zL rfl<|zc s3<|zc (zq t rfl)<|zc s4<|zA<|z_ (wy _ _) (z_ (wy _ _) (WD.e<|u0 _) (WD.e<|v9 rfl rfl) a1) (z_ (wy _ _) (WD.e<|v9 rfl rfl) (v2 _ _) b1) c1,c2,by omega,by omega⟩
def Jz(h:c.Ok)(k:TK c x r p)(l:TK c y s q)(e:q=p+2):∃d u,RE (YJ [(true,c.w),(true,x),(true,y)]) d/\TK c d (r++s) u/\q<=u/\u<=q+1:=by
 obtain⟨x1,x2,r1,r2,p1,p2,k0,k1,k2,k3,k4,k5,rfl⟩:=YB h l<|q1H e;have wy:∀a b,WE zm [sT c.w,sT x,sT y,a,b] c.w:=λ_ _=>WD.e<|za rfl;have v1:∀a b,WE zi [sT c.w,sT x,sT y,a,b] x:=λ_ _=>WD.e<|za rfl;have s3:=yL (p:=3) (xx (wy none none) (WD.e<|za (i:=2) rfl) k0)<|zg rfl;have u0:∀b,WD (f2 zE zV zx) [sT c.w,sT x,sT y,sT<|.tup [x1,x2],b] true x1:=λ_=>v9 rfl rfl;have u1:∀b,WD (f2 zE zJ zx) [sT c.w,sT x,sT y,sT<|.tup [x1,x2],b] true x2:=λ_=>v9 rfl rfl;have t:=fG k2 k1 (u1 none)<|u0 none
 by_cases g:p1<=p2
 . rw[zyO g]at t;obtain⟨d1,a1,a2⟩:=xX h k k1 (by omega) (by omega);obtain⟨d2,b1,b2⟩:=xX h a2 k2 (by omega) (by omega);rw[zxC]at b2;exact⟨d2,_,zL rfl<|zc s3<|yk<|yK t<|zA<|z_ (wy _ _) (z_ (wy _ _) (v1 _ _) (WD.e<|u0 _) a1) (WD.e<|u1 _) b1,b2,by omega,by omega⟩
 . rw[zyG g]at t;obtain⟨z1,z2,s1,s2,q1,q2,l0,l1,l2,l3,l4,l5,rfl⟩:=YB h k1<|q2d k3 k4 g;obtain⟨d1,a1,a2⟩:=xX h k l1 (by omega) (by omega);obtain⟨d2,b1,b2⟩:=xX h l2 k2 (by omega) (by omega);obtain⟨d3,c1,c2⟩:=xX h a2 b2 (by omega) (by omega);have s4:=yL (p:=4) (xx (wy _ _) (WD.e<|u0 none) l0)<|zg rfl;rw[show r++s1++_=r++(s1++s2++r2) by simp only[zxC]]at c2;exact⟨d3,_,zL rfl<|zc s3<|zc (zq t rfl)<|zc s4<|zA<|z_ (wy _ _) (z_ (wy _ _) (v1 _ _) (WD.e<|v9 rfl rfl) a1) (z_ (wy _ _) (WD.e<|v9 rfl rfl) (WD.e<|u1 _) b1) c1,c2,by omega,by omega⟩
def OR(h:c.Ok)(k:TK c x r p)(l:TK c y s q)(h1:p<=q+2)(h2:q<=p+2):∃d u,RE (RJ [(true,c.w),(true,x),(true,y)]) d/\TK c d (r++s) u/\max p q<=u/\u<=1+max p q/\(p<=q+1->q<=p+1->u=1+max p q):=by
 have v1:WD zi [sT c.w,sT x,sT y] true x:=za rfl;have v2:WD zF [sT c.w,sT x,sT y] true y:=za rfl;have wy:WE zm [sT c.w,sT x,sT y] c.w:=WD.e<|za rfl;have t1:=j0 k l v1 v2;have t2:=j0 l k v2 v1
 by_cases g:q+1<p
 . rw[zyO g]at t1;obtain⟨d,u,a,b,b1,b2⟩:=ux h k l (by omega);exact⟨d,u,zL rfl<|yk<|yK t1<|zA<|z_ wy (WD.e v1) (WD.e v2) a,b,by omega,by omega,by omega⟩
 . rw[zyG g]at t1
   by_cases g2:p+1<q
   . rw[zyO g2]at t2;obtain⟨d,u,a,b,b1,b2⟩:=Jz h k l (by omega);exact⟨d,u,zL rfl<|zc (zq t1 rfl)<|yk<|yK t2<|zA<|z_ wy (WD.e v1) (WD.e v2) a,b,by omega,by omega,by omega⟩
   . rw[zyG g2]at t2;obtain⟨d,a,b⟩:=xX h k l (q2i h1 h2 g2 g)<|q2i h2 h1 g g2;exact⟨d,_,zL rfl<|zc (zq t1 rfl)<|zc (zq t2 rfl)<|zA<|z_ wy (WD.e v1) (WD.e v2) a,b,q1E,q1L,λ_ _=>rfl⟩
theorem Hj(h:c.Ok):∀(n:Nat) {x y:D}{r s:List Int}{p q:Nat},TK c x r p->TK c y s q->p<n->q<n->∃d u,RE (zN n [(true,c.w),(true,x),(true,y)]) d/\TK c d (r++s) u/\max p q<=u/\u<=1+max p q
 |0,_,_,_,_,_,_,_,_,h,_=>absurd h (Nat.not_lt_zero _)
 |n+1,x,y,r,s,p,q,k,l,hp,hq=>by
  have v1:∀a,WD zi [sT c.w,sT x,sT y,a] true x:=λ_=>za rfl;have v2:∀a,WD zF [sT c.w,sT x,sT y,a] true y:=λ_=>za rfl;have wy:∀a,WE zm [sT c.w,sT x,sT y,a] c.w:=λ_=>WD.e<|za rfl;have t1:=j0 k l (v1 none)<|v2 none;have t2:=j0 l k (v2 none)<|v1 none;have n1:=k.isN<|v1 none;have n2:=l.isN<|v2 none
  by_cases g:q+1<p
  . rw[zyO g]at t1;obtain⟨x1,x2,r1,r2,p1,p2,k0,k1,k2,k3,k4,k5,rfl⟩:=YB h k<|q1t g;obtain⟨d,u,a1,a2,a3,a4⟩:=Hj h n k2 l (by omega)<|q2c g hq hp k5;obtain⟨d',u',b1,b2,b3,b4,b5⟩:=OR h k1 a2 (by omega) (by omega);have s3:=yL (p:=3) (xx (wy none) (WD.e<|v1 _) k0)<|zg rfl;rw[<-zxC]at b2;exact⟨d',u',zL rfl<|zc (zq n1 rfl)<|zc (zq n2 rfl)<|yk<|yK t1<|zc s3<|zA<|z_ (wy _) (WD.e<|v9 rfl rfl) (z_ (wy _) (WD.e<|v9 rfl rfl) (WD.e<|v2 _) a1) b1,b2,by omega,by omega⟩
  . rw[zyG g]at t1
    by_cases g2:p+1<q
    . rw[zyO g2]at t2;obtain⟨x1,x2,r1,r2,p1,p2,k0,k1,k2,k3,k4,k5,rfl⟩:=YB h l<|q1t g2;obtain⟨d,u,a1,a2,a3,a4⟩:=Hj h n k k1 (q2c g2 hp hq k5) (by omega);obtain⟨d',u',b1,b2,b3,b4,b5⟩:=OR h a2 k2 (by omega) (by omega);have s3:=yL (p:=3) (xx (wy none) (WD.e<|v2 _) k0)<|zg rfl;rw[zxC]at b2;exact⟨d',u',zL rfl<|zc (zq n1 rfl)<|zc (zq n2 rfl)<|zc (zq t1 rfl)<|yk<|yK t2<|zc s3<|zA<|z_ (wy _) (z_ (wy _) (WD.e<|v1 _) (WD.e<|v9 rfl rfl) a1) (WD.e<|v9 rfl rfl) b1,b2,by omega,by omega⟩
    . rw[zyG g2]at t2;obtain⟨d,a,b⟩:=xX h k l (q1X g2 g)<|q1X g g2;exact⟨d,_,zL rfl<|zc (zq n1 rfl)<|zc (zq n2 rfl)<|zc (zq t1 rfl)<|zc (zq t2 rfl)<|zA<|z_ (wy _) (WD.e<|v1 _) (WD.e<|v2 _) a,b,q1E,q1L⟩
def HC(h:c.Ok)(k:OT c x r)(l:OT c y s)(h1:r.length<=1000)(h2:s.length<=1000):∃d,RE (zN 20 [(true,c.w),(true,x),(true,y)]) d/\OT c d (r++s):=by
 have wN:WT (fT<|f2 zi (fC .non)<|zy .Is) [sT c.w,sT .non,sT y,none] true:=yf (zB (za rfl) zb rfl rfl) rfl
 rcases k with⟨rfl,rfl⟩|⟨p,k⟩
 . exact⟨y,zL rfl<|yk<|yK wN<|zA<|WD.e<|za rfl,l⟩
 rcases l with⟨rfl,rfl⟩|⟨q,l⟩
 . refine⟨x,zL rfl<|zc (zq (k.isN<|za rfl) rfl)<|yk<|yK (yf (zB (za rfl) zb rfl rfl) rfl)<|zA<|WD.e<|za rfl, ?_⟩;rw[zyE];exact k.o
 . obtain⟨d,u,a,b,_⟩:=Hj h 20 k l (k.lt h1)<|l.lt h2;exact⟨d,a,b.o⟩
end
abbrev C8:Int:=1000*10 ^ (64:Int).toNat
def SZ:(0:Int)<C8:=by decide
def eqT{a b:EF}{as:AS}{x y:Int}{s t q:Bool}(ha:WD a as s (.int x))(hb:WD b as t (.int y))(e:(x==y)=q):WT (fT<|f2 a b<|zy .Eq) as q:=yf (Re ha hb<|congrArg some e) rfl
def lb{x y:Int}(h0:0<=x)(h1:x<y)(hy:y<=10 ^ 200:=by decide):x.natAbs<big:=zz (Int.lt_of_lt_of_le (by decide) h0)<|Int.lt_of_lt_of_le h1 hy
def Zy{as:AS}{a b:EF}{ns:List Int}{k:Int}(ha:WD a as true (zk ns))(hb:WD b as true (.int k))(h0:0<=k)(h1:k<ns.length):∃v,WD (f2 a b zx) as true (.int v):=by
 obtain⟨v,e,_⟩:=A3 h0 h1 λ_ _=>trivial;exact⟨v,zB ha hb e rfl⟩
abbrev eV:SF:=(ze n6
 lQ)
def D4{ns:List Int}{k:Nat}(hk:k<=100):∃x:Int,0<=x/\yj [(true,.lst<|ns.map .int),(true,.int k)]=sI x:=by
 have s2:zp true 2 _ [sT<|zk ns,sI k,none,none,none,none]=some (.nx [sT<|zk ns,sI k,sI C8,none,none,none]):=zG (i:=2) (y7 zb (A8 zb zb ⟨by decide,by decide,by decide⟩) (zz (by decide)<|by decide)<|zz (by decide)<|by decide)<|zg rfl;have wl:∀as:AS,as[0]? = some (sT<|zk ns)->WD (fP v7 xq) as true (.int (ns.length:Nat)):=λas h=>by
  have:=yr (g:=xq) (zj (za h) zr) rfl rfl
  rwa [zzB]at this
 by_cases h:(k:Int)<(ns.length:Int)
 . obtain⟨v,w⟩:=Zy (as:=[sT<|zk ns,sI k,sI C8,none,none,none]) (a:=fV 0) (b:=fV 1) (ns:=ns) (k:=k) (za rfl) (za rfl) (q0H hk) h;refine⟨_,zyN _<|Int.ne_of_gt SZ,xV rfl<|zo s2<|vV<|y6 (yf (JW (za (i:=1) rfl)<|wl _ rfl)<|congrArg some<|zyO h)<|xS<|zU (y7 (zU w (za (i:=2) rfl) SZ) (A8 zb zb ⟨by decide,by decide,by decide⟩) (lb (zyN _<|Int.ne_of_gt SZ)<|zyH _ SZ)<|zz (by decide)<|by decide) (za (i:=2) rfl) SZ⟩
 . have t0:=zq (f:=zw k_) (g:=yM) (yf (JW (as:=[sT<|zk ns,sI k,sI C8,none,none,none]) (za (i:=1) (s:=true) rfl)<|wl _ rfl)<|congrArg some<|zyG h) rfl;have kb:((k:Int)).natAbs<big:=zz (by omega) (by omega);have s3:zp true 3 _ [sT<|zk ns,sI k,sI C8,none,none,none]=some (.nx [sT<|zk ns,sI k,sI C8,sI<|(k:Int)*k+7*k+11,none,none]):=zG (i:=3) (zK (zK (y7 (za (i:=1) rfl) (za (i:=1) rfl) kb kb)<|y7 zb (za (i:=1) rfl) (zz (by decide)<|by decide) kb) zb)<|zg rfl;have kk:(k:Int)*k<=10000:=by
    have:=Int.mul_le_mul (show(k:Int)<=100 from q2j hk) (show(k:Int)<=100 from q2j hk) (q0H hk) (by omega);omega
   have k0:0<=(k:Int)*k:=Int.mul_nonneg (q0H hk)<|q0H hk;obtain⟨x0,p0,p1,s4⟩:∃x0:Int,0<=x0/\x0<10 ^ 12/\yR (fT<|f2 zm (zZ dN)<|zy .NotEq) lI yM [sT<|zk ns,sI k,sI C8,sI<|(k:Int)*k+7*k+11,none,none]=some (.nx [sT<|zk ns,sI k,sI C8,sI x0,none,none]):=by
    have nn:WT (fT<|f2 zm (zZ dN)<|zy .NotEq) [sT<|zk ns,sI k,sI C8,sI<|(k:Int)*k+7*k+11,none,none] (!ns.isEmpty):=yf (OU (z:=.bl<|!ns.isEmpty) (WD.e<|za (i:=0) rfl) (Zq (os:=[]) yi (VI rfl) rfl rfl)<|by cases ns<;>rfl) rfl
    by_cases hn:ns=[]
    . subst hn;exact⟨_,by omega,by omega,zq nn rfl⟩
    . have lp:=List.length_pos_iff.mpr hn;obtain⟨v,w⟩:=Zy (as:=[sT<|zk ns,sI k,sI C8,sI<|(k:Int)*k+7*k+11,none,none]) (a:=fV 0) (ns:=ns) (za rfl) (zU (za (i:=1) rfl) (wl _ rfl)<|q0c lp) (zyN _<|q1n lp)<|zyH _<|q0c lp;have q0:=zyN v (show(1000003:Int)≠0 by decide);have q1:=zyH v (show(0:Int)<1000003 by decide);have q2:0<=v%1000003*(2*k+1):=Int.mul_nonneg q0<|q1R hk;have q3:v%1000003*(2*k+1)<=1000003*201:=Int.mul_le_mul (by omega) (by omega) (q1R hk) (by omega);have ne:(!ns.isEmpty)=true:=by
       cases ns with
       |nil=>exact absurd rfl hn
       |cons _ _=>rfl
      rw[ne]at nn;exact⟨_,by omega,by omega,y6 nn<|zG (i:=3) (zK (za (i:=3) rfl)<|y7 (zU w zb<|by decide) (zK (y7 zb (za (i:=1) rfl) (zz (by decide)<|by decide) kb) zb) (zz (by omega)<|by omega)<|zz (by omega)<|by omega)<|zg rfl⟩
   obtain⟨as',hf,x,y,e5,rfl,_⟩:=yW (g:=gN 5) (f:=eV) (λi as=>∃(x y:Int) (e5:Option O),as=[sT<|zk ns,sI k,sI C8,sI x,sI y,e5]/\0<=x/\x<10 ^ 12) (y4 0 8) 0 [sT<|zk ns,sI k,sI C8,sI x0,sI 0,none] (λi z as hz hI=>by
    obtain⟨x,y,e5,rfl,b0,b1⟩:=hI;obtain⟨rfl,hi⟩:=xk hz;have xb:x.natAbs<big:=zz (by omega) (by omega);have c0:=zyN (x*x+48271*x+69621*(0+(i:Int))+k) (show(2147483629:Int)≠0 by decide);have c1:=zyH (x*x+48271*x+69621*(0+(i:Int))+k) (show(0:Int)<2147483629 by decide);exact⟨_,rfl,_,zo (zG (i:=3) (zU (zK (zK (zK (y7 (za (i:=3) rfl) (za (i:=3) rfl) xb xb)<|y7 zb (za (i:=3) rfl) (zz (by decide)<|by decide) xb)<|y7 zb (za (i:=5) rfl) (zz (by decide)<|by decide)<|zz (by omega)<|by omega)<|za (i:=1) rfl) zb<|by decide)<|zg rfl)<|zG (i:=4) (zK (MX (za (i:=4) rfl) zb<|by decide)<|zU (MX (za (i:=3) rfl) zb<|by decide) zb<|by decide)<|zg rfl,_,_,_,rfl,c0,by omega⟩)
    ⟨x0,0,none,rfl,p0,p1⟩
   refine⟨_,zyN _<|Int.ne_of_gt SZ,xV rfl<|zo s2<|zo t0<|zo s3<|zo s4<|zo (zG (i:=4) zb<|zg rfl)<|zo (yn (xf (zj (zb) zr) (by decide)<|by decide) hf)<|xS<|zU (za (i:=4) rfl) (za (i:=2) rfl) SZ⟩
def QM(ns:List Int){k:Nat}(hk:k<=100):∃x:Int,0<=x/\∀(as:AS) (b:EF),as[0]? = some (sT<|zk ns)->WD b as true (.int k)->WD (zh (aC zm<|aC b aN) yj) as true (.int x):=by
 obtain⟨x,h0,h⟩:=D4 hk;exact⟨x,h0,λas b h1 h2=>Qt (zj (za h1)<|zj h2 zr) h⟩
noncomputable def mF(x at_ st:Int)(k j:Nat):Nat:=97+((x/(53761+26*(j:Int)*j)+(if(j:Int)=at_ then(k:Int)*(st+1)else 0))%26).toNat
def BZ(x at_ st:Int)(sz k:Nat):Str:=⟨((List.range sz).map<|mF x at_ st k).toArray⟩
abbrev gM(st:Int):Prop:=st=0\/st=2\/st=4\/st=6\/st=8\/st=10\/st=14\/st=16
def DK{x at_ st:Int}{sz k l:Nat}(hs:gM st)(h0:0<=at_)(h1:at_<sz)(hk:k<10)(hl:l<10)(h:BZ x at_ st sz k=BZ x at_ st sz l):k=l:=by
 unfold BZ at h;injection h with h
 have h:=congrArg Array.toList h;rw[List.toList_toArray,List.toList_toArray]at h;have e:=congrArg (λt:List Nat=>t[at_.toNat]?) h;have hr:(List.range sz)[at_.toNat]? = some at_.toNat:=List.getElem?_range (by omega)
 simp only[zzI,hr,Option.map_some]at e;have e:=zzZ e;unfold mF at e;rw[show(at_.toNat:Int)=at_ from q1i h0,if_pos rfl,if_pos rfl]at e;have a0:=zyN (x/(53761+26*at_*at_)+k*(st+1)) (show 26≠0 by decide);have b0:=zyN (x/(53761+26*at_*at_)+l*(st+1)) (show 26≠0 by decide);generalize x/_=q at e a0 b0
 rcases hs with rfl|rfl|rfl|rfl|rfl|rfl|rfl|rfl<;>omega
def oi{x y:Str}(h:x.length+y.length<=sizeLine):Yq .Add (.str x) (.str y)=some (.im<|.str<|x++y):=if_pos h
abbrev B4(x:Int)(mn sz:Nat)(at_ st:Int)(os:List O)(a b c d:Option O):AS:=[sI x,sI mn,sT<|.str Dh,sI<|(sz:Int)-1,sI at_,sI st,sN os,a,b,c,d]
abbrev eh:SF:=(ze (zp true 10 pF)
 (ze (yR (fT<|f2 (fV 9) yh<|zy .Eq) pE yM)
 lV))
def lA{x:Int}{mn sz:Nat}{at_ st:Int}{os:List O}{k:Nat}{c d:Option O}(hz:sz<=8)(hk:k<10)(hs:gM st):∃c' d',forL (gN 9) eh (y4 0 sz) (B4 x mn sz at_ st os (sI k) (sT<|.str ⟨#[]⟩) c d)=some (.nx<|B4 x mn sz at_ st os (sI k) (sT<|.str<|BZ x at_ st sz k) c' d'):=by
 have st16:0<=st/\st<=16:=by rcases hs with rfl|rfl|rfl|rfl|rfl|rfl|rfl|rfl<;>decide
 obtain⟨as',hf,c',d',rfl⟩:=yW (g:=gN 9) (f:=eh) (λi as=>∃c' d',as=B4 x mn sz at_ st os (sI k) (sT<|.str<|BZ x at_ st i k) c' d') (y4 0 sz) 0 (B4 x mn sz at_ st os (sI k) (sT<|.str ⟨#[]⟩) c d) (λi z as hz' hI=>by
  obtain⟨c',d',rfl⟩:=hI;obtain⟨rfl,hi⟩:=xk hz';rw[zyX,Int.zero_add];have i2:0<=(i:Int)*i:=Int.mul_nonneg (q0a)<|q0a;have i3:(i:Int)*i<=64:=Int.mul_le_mul (c:=8) (d:=8) (q1Y hi hz) (q1Y hi hz) (q0a) (by omega);have i4:26*(i:Int)*i=26*((i:Int)*i):=Int.mul_assoc ..;have s10:∀d',zp true 10 pF (B4 x mn sz at_ st os (sI k) (sT<|.str<|BZ x at_ st i k) (sI i) d')=some _:=λd'=>zG (i:=10) (xi (za (i:=0) rfl) (zK zb<|y7 (y7 zb (za (i:=9) rfl) (zz (by decide)<|by decide)<|zz (q1w)<|q1N hi hz) (za (i:=9) rfl) (zz (by omega)<|by omega)<|zz (q1w)<|q1N hi hz) (by omega)<|zz (by omega)<|by omega)<|zg rfl;have s11:yR (fT<|f2 (fV 9) yh<|zy .Eq) pE yM (B4 x mn sz at_ st os (sI k) (sT<|.str<|BZ x at_ st i k) (sI i)<|sI<|x/(53761+26*(i:Int)*i))=some (.nx<|B4 x mn sz at_ st os (sI k) (sT<|.str<|BZ x at_ st i k) (sI i)<|sI<|x/(53761+26*(i:Int)*i)+(if(i:Int)=at_ then(k:Int)*(st+1)else 0)):=by
   by_cases e:(i:Int)=at_
   . rw[if_pos e];exact y6 (eqT (za (i:=9) rfl) (za (i:=4) rfl)<|by simp[e])<|zG (i:=10) (zK (za (i:=10) rfl)<|y7 (za (i:=7) rfl) (zK (za (i:=5) rfl) zb) (zz (by omega)<|by omega)<|zz (by omega)<|by omega)<|zg rfl
   . rw[if_neg e,Int.add_zero];exact zq (eqT (za (i:=9) rfl) (za (i:=4) rfl)<|by simp[e]) rfl
  have q0:=zyN (x/(53761+26*(i:Int)*i)+(if(i:Int)=at_ then(k:Int)*(st+1)else 0)) (show(26:Int)≠0 by decide);have q1:=zyH (x/(53761+26*(i:Int)*i)+(if(i:Int)=at_ then(k:Int)*(st+1)else 0)) (show(0:Int)<26 by decide);have ln:(BZ x at_ st i k).length=i:=by
   show(((List.range i).map _).toArray).size=i;rw[zzH,zzB,zyU]
  have ea:BZ x at_ st i k++(⟨#[mF x at_ st k i]⟩:Str)=BZ x at_ st (i+1) k:=by
   show(⟨((List.range i).map _).toArray ++ #[mF x at_ st k i]⟩:Str)=_;unfold BZ;rw[List.range_succ,zyM];simp
  have s8:=zG (st:=true) (i:=8) (as:=B4 x mn sz at_ st os (sI k) (sT<|.str<|BZ x at_ st i k) (sI i)<|sI _) (zB (za (i:=8) rfl) (zB (za (i:=2) rfl) (zU (za (i:=10) rfl) zb<|by decide) (qp q0 q1) rfl) (oi<|OP (by rw[ln];show i+1<=_;omega)) rfl)<|zg rfl;rw[show(⟨#[97+((x/(53761+26*(i:Int)*i)+(if(i:Int)=at_ then(k:Int)*(st+1)else 0))%26).toNat]⟩:Str)=⟨#[mF x at_ st k i]⟩from rfl,ea]at s8;exact⟨B4 x mn sz at_ st os (sI k) (sT<|.str<|BZ x at_ st i k) (sI i) d',rfl,_,zo (s10 d')<|zo s11 s8,_,_,rfl⟩)
  ⟨c,d,rfl⟩
 rw[yY,zyX]at hf;exact⟨c',d',hf⟩
def Ba(x:Int){mn:Nat}(hm:mn<=10):∃ss:List Str,ss.length=mn/\ss.Nodup/\RE (Xd [(true,.int x),(true,.int mn)]) (.lst<|ss.map D.str):=by
 have s2:zp true 2 (fC<|.str "abcdefghijklmnopqrstuvwxyz") [sI x,sI mn,none,none,none,none,none,none,none,none,none]=some _:=zG (i:=2) zb<|zg rfl;have e0:=zyN x (show(8:Int)≠0 by decide);have e1:=zyH x (show(0:Int)<8 by decide);obtain⟨sz,hz1,hz8,hz⟩:∃sz:Nat,1<=sz/\sz<=8/\x%8=(sz:Int)-1:=⟨(x%8+1).toNat,by omega,by omega,by omega⟩;have s3:Vu nE (gT 3<|yG (gN 3)<|yG RG<|yG (gN 5) XM) [sI x,sI mn,sT<|.str Dh,none,none,none,none,none,none,none,none]=some (.nx [sI x,sI mn,sT<|.str Dh,sI<|(sz:Int)-1,sI<|x/8%840,sI<|x/8/840%8,none,none,none,none,none]):=by
  rw[<-hz];exact SD (Hl (sz:=[8,840,8]) (by decide) (by decide) (WD.e<|za (i:=0) rfl)<|Zq (zu zb<|zu zb<|zu zb yi) (VI rfl) rfl rfl) rfl
 have f0:=zyN (x/8/840) (show(8:Int)≠0 by decide);have f1:=zyH (x/8/840) (show(0:Int)<8 by decide);obtain⟨st,hst,hs⟩:=A3 (r:=[0,2,4,6,8,10,14,16]) (P:=gM) f0 f1 (by decide);have s5:zp true 5 _ [sI x,sI mn,sT<|.str Dh,sI<|(sz:Int)-1,sI<|x/8%840,sI<|x/8/840%8,none,none,none,none,none]=some _:=zG (i:=5) (OU (Zq (zu zb<|zu zb<|zu zb<|zu zb<|zu zb<|zu zb<|zu zb<|zu zb yi) (VI rfl) rfl rfl) (WD.e<|za (i:=5) rfl) hst)<|zg rfl;have h0:=zyN (x/8%840) (show(sz:Int)-1+1≠0 by omega);have h1:=zyH (x/8%840)<|show(0:Int)<(sz:Int)-1+1 from q2n e0 hz;have s4:zp true 4 (f2 yh (f2 zE zJ zt) zM) [sI x,sI mn,sT<|.str Dh,sI<|(sz:Int)-1,sI<|x/8%840,sI st,none,none,none,none,none]=some _:=zG (i:=4) (zU (za (i:=4) rfl) (zK (za (i:=3) rfl) zb)<|q2n e0 hz)<|zg rfl;generalize x/8%840%((sz:Int)-1+1)=at_ at s4 h0 h1
 obtain⟨as',hf,os,a,b,c,d,rfl,ho⟩:=yW (g:=gN 7) (f:=(ze (zp true 8<|fC<|.str "")
  _))
  (λi as=>∃os a b c d,as=B4 x mn sz at_ st os a b c d/\Ows D.str (λ_=>True) os ((List.range i).map<|BZ x at_ st sz))
  (y4 0 mn) 0 (B4 x mn sz at_ st [] none none none none) (λi z as hz' hI=>by
   obtain⟨os,a,b,c,d,rfl,ho⟩:=hI;obtain⟨rfl,hi⟩:=xk hz';rw[zyX]at ho ⊢;rw[Int.zero_add];obtain⟨c',d',hin⟩:=lA (x:=x) (mn:=mn) (os:=os) (k:=i) (c:=c) (d:=d) hz8 (q0S hi hm) hs;have wr:WA (aC (f2 zE zJ zt) aN) (B4 x mn sz at_ st os (sI i) (sT<|.str ⟨#[]⟩) c d) [(true,.int (sz:Int))]:=by
    have:=zj (zK (as:=B4 x mn sz at_ st os (sI i) (sT<|.str ⟨#[]⟩) c d) (za (i:=3) rfl)<|zb (x:=.int 1)) zr
    rwa [Int.sub_add_cancel]at this
   have hrun:=xf wr (by omega) (by omega);rw[zyI]at hrun;obtain⟨os',o1,o2⟩:=IH (as:=B4 x mn sz at_ st os (sI i) (sT<|.str<|BZ x at_ st sz i) c' d') (i:=6) rfl ho (by rw[zzB,zyU];omega) (WD.e<|za (i:=8) rfl) True.intro;exact⟨B4 x mn sz at_ st os (sI i) b c d,rfl,_,zo (zG (i:=8) zb<|zg rfl)<|zo (yn hrun hin) o2,os',_,_,_,_,rfl,by rw[List.range_succ,zyM];exact o1⟩)
  ⟨[],none,none,none,none,rfl,Ows.nil⟩
 rw[yY,zyX]at ho;have hrun:=xf (as:=B4 x mn sz at_ st [] none none none none) (zj (za (i:=1) rfl) zr) (by omega) (by omega);rw[zyI]at hrun;refine⟨(List.range mn).map<|BZ x at_ st sz,by rw[zzB,zyU], ?_,zL rfl<|zc s2<|zc s3<|zc s5<|zc s4<|zc (yV (i:=6) (wq yi<|VI rfl)<|zg rfl)<|zc (yn hrun hf)<|Ows.retB (i:=6) rfl ho⟩;exact List.pairwise_map.mpr<|(List.nodup_range (n:=mn)).imp_of_mem λha hb hne he=>hne<|DK hs h0 (by omega) (by have:=List.mem_range.mp ha;exact q0S this hm) (by have:=List.mem_range.mp hb;exact q0S this hm) he
abbrev PZ:Type:=List<|Int×Nat
noncomputable abbrev pD(p:Int×Nat):D:=.tup [.int p.1,.int p.2]
abbrev Qa(P:PZ):D:=.lst<|P.map pD
noncomputable def PN:PZ->Nat
 | []=>1
 |p::r=>PN r*p.2
noncomputable def sp:PZ->Int->List Int
 | [],_=>[]
 |p::r,v=>v%p.2::sp r (v/p.2)
noncomputable def ld:PZ->List Int->Int
 |p::r,d::t=>ld r t*p.2+d
 |_,_=>0
def jX:PZ->Int->Int->Int
 | [],_,_=>0
 |p::r,v,w=>jB p.2 (jX r) (jK p.1 p.2) v w
def eX:PZ->Int
 | []=>0
 |p::r=>eX r*p.2+eK p.1
noncomputable def dS(x:Int):Nat->Int
 |0=>0
 |k+1=>dS x k+x/3 ^ k%3
def dK(k:Int)(n:Nat)(x c a:Int):Int:=
 if k=0 then(x%n*a+x/n%n*c)%n
 else if k=1 then(if dS x a.toNat<(n:Int)-1 then dS x a.toNat else(n:Int)-1)
 else if k=2 then(if 0<a then 1+x/6 ^ a.toNat%((n:Int)-1)else 0)
 else if x%2=0 then a else sP a
def dX:PZ->Int->Int->Int->Int
 | [],_,_,_=>0
 |p::r,x,c,v=>dB p.2 (dX r x) (dK p.1 p.2 x) c v
abbrev PK(P:PZ):Prop:=∀p ∈ P,KN p.1 p.2/\2<=p.2/\p.2<=7
theorem S3:∀{P:PZ},PK P->1<=PN P
 | [],_=>zzN _
 |p::r,h=>Nat.mul_pos (S3 λq m=>h q<|zzD _ m) (by have:=(h p<|zzF ..).2.1;exact q0d this)
theorem nB:∀{P:PZ},PK P->LJ (PN P) (jX P) (eX P)
 | [],_=>⟨λ_ _ _ _=>⟨Int.le_refl _,Int.one_pos⟩,⟨Int.le_refl _,Int.one_pos⟩,λa ha=>(by have h0:=ha.1;have h1:a<1:=ha.2;show(0:Int)=a;omega),λa ha=>(by have h0:=ha.1;have h1:a<1:=ha.2;show(0:Int)=a;omega),λ_ _ _ _ _ _=>rfl⟩
 |p::r,h=>cx (nB λq m=>h q<|zzD _ m) (fg (h p<|zzF ..).1) (by have:=(h p<|zzF ..).2.1;exact q0d this)
def HP(x:Int):∀{a b:Nat},a<=b->dS x a<=dS x b:=λ{a b} h=>by
 induction h with
 |refl=>exact Int.le_refl _
 | @step k _ ih=>
  refine Int.le_trans ih ?_;have:=zyN (x/3 ^ k) (show 3≠0 by decide);exact Int.le_add_of_nonneg_right this
def n5(x:Int)(a:Nat):0<=dS x a:=HP x<|Nat.zero_le a
def ldK{k x:Int}{n m:Nat}(h:KN k n)(n2:2<=n)(m1:1<=m)(hm:k=0->m=n):LD n m (jK k n) (eK k) (dK k n x):=by
 rcases h with⟨rfl,_⟩|⟨rfl,_⟩|⟨rfl,_⟩|⟨rfl,rfl⟩
 . have e:=hm rfl;subst e;exact LD.congr (q0d n2) (fw<|q0d n2) (d6 (x0:=x%m) (x1:=x/m%m) (q0d n2) (q0d n2) (by omega) (Int.dvd_refl _)<|Int.dvd_refl _) (λ_ _ _ _=>rfl) λc a _ _=>by
    show(x%m*a+x/m%m*c)%m=_;rw[Int.ediv_self (by omega),Int.mul_one,Int.mul_comm<|x%m,Int.mul_comm<|x/m%m]
 . refine dh (r:=λa=>if dS x a.toNat<n-1 then dS x a.toNat else n-1) m1 ?_ (λa _=>?_) λa b ha hb hab=>?_
   . show(if(0:Int)<_-1 then(0:Int)else _-1)=0;rw[if_pos<|q2m n2]
   . have:=n5 x a.toNat
     split<;>exact⟨by omega,by omega⟩
   . have:=HP x (show a.toNat<=b.toNat by omega)
     split<;>split<;>omega
 . have g0:∀a:Int,0<=x/6 ^ a.toNat%(n-1)/\x/6 ^ a.toNat%_<n-1:=λa=>⟨zyN _ (by omega),zyH _<|q2m n2⟩;refine dY (r:=λa=>if 0<a then 1+x/6 ^ a.toNat%_ else 0) rfl (λa _=>?_) λa ha hn=>?_
   . have:=g0 a
     split<;>exact⟨by omega,by omega⟩
   . have:=g0 a;have:=ha.1;rw[if_pos<|by omega];omega
 . refine dR ?_
   by_cases e:x%2=0
   . exact .inl λa _=>if_pos e
   . exact .inr λa _=>if_neg e
theorem iE{x:Int}{m:Nat}(m1:1<=m):∀{P:PZ},PK P->(∀p ∈ P,p.1=0->m=p.2)->LD (PN P) m (jX P) (eX P) (dX P x)
 | [],_,_=>⟨λ_ _ _ _=>⟨Int.le_refl _,Int.one_pos⟩,rfl,λ_ _ _ _ _ _ _ _=>rfl⟩
 |p::r,h,hm=>di (nB λq m=>h q<|zzD _ m) (fg (h p<|zzF ..).1) (by have:=(h p<|zzF ..).2.1;exact q0d this) (iE m1 (λq m=>h q<|zzD _ m) λq m=>hm q<|zzD _ m)<|ldK (h p<|zzF ..).1 (h p<|zzF ..).2.1 m1<|hm p<|zzF ..
noncomputable def z3(f:Int->Nat->Int->Int->Int):PZ->List Int->List Int->List Int
 |p::P,a::s,b::t=>f p.1 p.2 a b::z3 f P s t
 |_,_,_=>[]
noncomputable def z2(f:Int->Nat->Int->Int):PZ->List Int->List Int
 |p::P,a::s=>f p.1 p.2 a::z2 f P s
 |_,_=>[]
theorem rE:∀(P:PZ) (v w:Int),ld P (z3 jK P (sp P v)<|sp P w)=jX P v w
 | [],_,_=>rfl
 |p::r,v,w=>by
  show ld r _*p.2+jK p.1 p.2 _ _=_;rw[rE r];rfl
theorem rC(x c:Int):∀(P:PZ) (v:Int),ld P (z2 (λk n a=>dK k n x c a) P<|sp P v)=dX P x c v
 | [],_=>rfl
 |p::r,v=>by
  show ld r _*p.2+dK p.1 p.2 x c _=_;rw[rC x c r];rfl
theorem Et:∀(P:PZ) (v:Int),(sp P v).length=P.length
 | [],_=>rfl
 |_::r,v=>congrArg (· + 1)<|Et r _
theorem eI:∀P:PZ,ld P (P.map λp=>eK p.1)=eX P
 | []=>rfl
 |p::r=>by
  show ld r _*p.2+eK p.1=_;rw[eI r];rfl
theorem fL:∀P:PZ,ld P (P.map λp=>(p.2:Int)-1)+1=(PN P:Int)
 | []=>rfl
 |p::r=>by
  show ld r _*p.2+(_-1)+1=((PN r*p.2:Nat):Int);rw[zzV,<-fL r,Int.add_mul];omega
end G41
end
section
set_option exponentiation.threshold 5000
namespace G41
open PySem PySem.Spec PyProof.Rows PF
def MM{p:Int×Nat}{a b:Int}(h:KN p.1 p.2)(ha:zO p.2 a)(hb:zO p.2 b):wQ [(true,pD p),(true,.int a),(true,.int b)]=sI (jK p.1 p.2 a b):=by
 obtain⟨k,n⟩:=p;have s0:∀{k:Int}{n:Nat},Vu zm (gT 2<|yG (gN 3)<|yG RG XM) [sT<|pD (k,n),sI a,sI b,none,none]=some (.nx [sT<|pD (k,n),sI a,sI b,sI k,sI n]):=SD (WD.e<|za rfl) rfl
 rcases h with⟨rfl,hn⟩|⟨rfl,hn⟩|⟨rfl,hn⟩|⟨rfl,rfl⟩
 . exact xV rfl<|zo s0<|vV<|y6 (eqT (za rfl) zb rfl)<|xS<|zU (zK (za rfl)<|za rfl) (za rfl)<|q0p hn
 . exact xV rfl<|zo s0<|zo (zq (eqT (za rfl) zb rfl) rfl)<|vV<|y6 (eqT (za rfl) zb rfl)<|xS<|yr (zj (za rfl)<|zj (za rfl) zr) rfl rfl
 . exact xV rfl<|zo s0<|zo (zq (eqT (za rfl) zb rfl) rfl)<|zo (zq (eqT (za rfl) zb rfl) rfl)<|vV<|y6 (eqT (za rfl) zb rfl)<|xS<|OU (Zq (zu (za rfl)<|zu (za rfl) yi) (VI rfl) rfl rfl) (WD.e<|yr (zj (Re (za (i:=2) rfl) zb rfl) zr) rfl rfl)<|mQ.trans (by show _=some (R0.im<|.int<|jL a b);unfold jL;by_cases h:b=0<;>simp[h])
 . obtain⟨a0,a1⟩:=ha;obtain⟨b0,b1⟩:=hb;have a1:=a1;have b1:=b1;have LL:WE _ [sT<|pD (3,4),sI a,sI b,sI 3,sI (4:Nat)] (.lst [.int<|b/2,.int<|b%2]):=Zq (zu (xi (za (i:=2) rfl) zb (by decide)<|zz (by decide)<|by decide)<|zu (zU (za (i:=2) rfl) zb<|by decide) yi) (VI rfl) rfl rfl;have pk:∀{i:Int},i=0\/i=1->zx (.lst [.int<|b/2,.int<|b%2]) (.int i)=some (.im<|.int<|iP b i):=λh=>by
    rcases h with rfl|rfl<;>rfl
   have ib:∀i,0<=iP b i/\iP b i<4:=λi=>by unfold iP;split<;>constructor<;>omega
   have:=ib<|a/2;exact xV rfl (zo s0<|zo (zq (eqT (za (i:=3) rfl) zb rfl) rfl)<|zo (zq (eqT (za (i:=3) rfl) zb rfl) rfl)<|zo (zq (eqT (za (i:=3) rfl) zb rfl) rfl)<|xS<|zK (y7 zb (OU LL (WD.e<|xi (za (i:=1) rfl) zb (by decide)<|zz (by decide)<|by decide)<|pk<|by omega) (zz (by decide)<|by decide)<|zz (by omega)<|by omega)<|OU LL (WD.e<|zU (za (i:=1) rfl) zb<|by decide)<|pk<|by omega)
theorem J9(x:Int):∀k:Nat,((List.range k).map λi=>x/3 ^ i%3).sum=dS x k
 |0=>rfl
 |k+1=>by
  rw[List.range_succ,zyM,List.sum_append_int,J9 x k];show dS x k+(x/3 ^ k%3+0)=dS x k+x/3 ^ k%3;rw[Int.add_zero]
def eT:∀i:Nat,i<7->zx (zk [1,3,9,27,81,243,729]) (.int (i:Int))=some (.im<|.int<|3 ^ i)
 |0,_=>rfl|1,_=>rfl|2,_=>rfl|3,_=>rfl|4,_=>rfl|5,_=>rfl|6,_=>rfl
 |n+7,h=>by omega
def cj:∀i:Nat,i<7->zx (zk [1,6,36,216,1296,7776,46656]) (.int (i:Int))=some (.im<|.int<|6 ^ i)
 |0,_=>rfl|1,_=>rfl|2,_=>rfl|3,_=>rfl|4,_=>rfl|5,_=>rfl|6,_=>rfl
 |n+7,h=>by omega
def pb(b:Int)(h1:1<=b)(h2:b<=6):∀i:Nat,i<7->(0:Int)<b ^ i/\b ^ i<=1000000:=λi hi=>by
 refine⟨Int.pow_pos (by omega), ?_⟩;have e:i=0\/i=1\/i=2\/i=3\/i=4\/i=5\/i=6:=by omega
 have f:b=1\/b=2\/b=3\/b=4\/b=5\/b=6:=by omega
 rcases e with rfl|rfl|rfl|rfl|rfl|rfl|rfl<;>rcases f with rfl|rfl|rfl|rfl|rfl|rfl<;>decide
def l7{as:AS}{a b c d e f g:Int}:WE (zZ<|dC (fC<|.int a)<|dC (fC<|.int b)<|dC (fC<|.int c)<|dC (fC<|.int d)<|dC (fC<|.int e)<|dC (fC<|.int f)<|dC (fC<|.int g) dN) as (zk [a,b,c,d,e,f,g]):=Zq (zu zb<|zu zb<|zu zb<|zu zb<|zu zb<|zu zb<|zu zb yi) (VI rfl) rfl rfl
theorem Md:∀l:List Int,V2 (l.map D.int)=some l
 | []=>rfl
 |x::l=>by show(V2 _).bind _=_;rw[Md l];rfl
def Bg{k:Int}{n:Nat}{x c a:Int}{m:Nat}(h:KN k n)(n2:2<=n)(n7:n<=7)(hc:zO m c)(m6:m<=6)(ha:zO n a):xI [(true,pD (k,n)),(true,.int x),(true,.int c),(true,.int a)]=sI (dK k n x c a):=by
 obtain⟨a0,a1⟩:=ha;obtain⟨c0,c1⟩:=hc;have s0:∀{k:Int}{n:Nat},Vu zm (gT 2<|yG RG<|yG (gN 5) XM) [sT<|pD (k,n),sI x,sI c,sI a,none,none]=some (.nx [sT<|pD (k,n),sI x,sI c,sI a,sI k,sI n]):=SD (WD.e<|za (i:=0) rfl) rfl;have x0:=zyN x<|show(n:Int)≠0 from q2v n2 n7;have x1:=zyH x<|show(0:Int)<n from q0w n2 n7;have y0:=zyN (x/n)<|show(n:Int)≠0 from q2v n2 n7;have y1:=zyH (x/n)<|show(0:Int)<n from q0w n2 n7;have nb:((n:Int)).natAbs<big:=zz (by omega) (by omega)
 rcases h with⟨rfl,hn⟩|⟨rfl,hn⟩|⟨rfl,hn⟩|⟨rfl,rfl⟩
 . exact xV rfl<|zo s0<|vV<|y6 (eqT (za (i:=4) rfl) zb rfl)<|xS<|zU (zK (y7 (zU (za (i:=1) rfl) (za (i:=5) rfl)<|q0w n2 n7) (za (i:=3) rfl) (zz (by omega)<|by omega)<|zz (q1W a0)<|by omega)<|y7 (zU (xi (za (i:=1) rfl) (za (i:=5) rfl) (q0w n2 n7) nb) (za (i:=5) rfl)<|q0w n2 n7) (za (i:=2) rfl) (zz (by omega)<|by omega)<|zz (q1W c0)<|by omega) (za (i:=5) rfl)<|q0w n2 n7
 . obtain⟨b,rfl⟩:∃b:Nat,a=(b:Int):=⟨a.toNat,q1j a0⟩;have wc:=Ws (h:=λi:Nat=>D.int<|x/3 ^ i%3) (fi:=yB v8 yO) (cap:=[none,some 1]) (gg:=gN 0) (List.range b) (by
    have:=xf (as:=[sT<|pD (1,n),sI x,sI c,sI (b:Int),sI 1,sI n]) (zj (za (i:=3) (x:=.int (b:Int)) (s:=true) rfl) zr) (by omega) (by omega)
    rwa [zyI]at this) (by rw[zyU];omega) λi mi=>by
    have hi:=List.mem_range.mp mi;rw[Int.zero_add];have:=pb 3 (by decide) (by decide) i<|q2e a1 n2 n7 hi;exact⟨[sI i,sI x],rfl,WD.e<|zU (xi (za (i:=1) rfl) (OU l7 (WD.e<|za (i:=0) (x:=.int i) rfl)<|eT i<|q2e a1 n2 n7 hi) this.1<|zz (q1S this)<|q1Z this) zb<|by decide⟩
   have e1:((List.range b).map λi:Nat=>D.int<|x/3 ^ i%3)=((List.range b).map λi=>x/3 ^ i%3).map D.int:=by rw[zyB];rfl
   rw[e1]at wc;have ws:=yr (g:=r9) (x:=.int<|dS x b) (yZ wc zr) (by
    show(V2 _).bind _=_;rw[Md,<-J9 x b];rfl) rfl
   have wm:=yr (g:=L_) (zj (ZS (za (i:=5) (x:=.int n) (s:=true) rfl)<|zb (x:=.int 1))<|zj ws zr) rfl rfl;exact xV rfl<|zo s0<|zo (zq (eqT (za (i:=4) rfl) zb rfl) rfl)<|vV<|y6 (eqT (za (i:=4) rfl) zb rfl)<|xS wm
 . obtain⟨b,rfl⟩:∃b:Nat,a=(b:Int):=⟨a.toNat,q1j a0⟩;have q:=pb 6 (by decide) (by decide) b<|q2f a1 n2 n7;have wm:=yr (g:=Nw) (zj (zb (as:=[sT<|pD (2,n),sI x,sI c,sI (b:Int),sI 2,sI n]) (x:=.int 1))<|zj (ZS (za (i:=5) (x:=.int n) (s:=true) rfl)<|zb (x:=.int 1)) zr) (by
    show some _=_
    split
    . rfl
    . rw[show(n:Int)-1=1 by omega]) rfl
   have r0:=zyN (x/6 ^ b) (show(n:Int)-1≠0 by omega);have r1:=zyH (x/6 ^ b)<|show(0:Int)<(n:Int)-1 from q2g n2 n7;have wi:=yr (g:=My) (x:=.int<|if(0:Int)<b then 1 else 0) (zj (zB (g:=zy .Gt) (z:=.bl<|decide ((0:Int)<b)) (za (as:=[sT<|pD (2,n),sI x,sI c,sI (b:Int),sI 2,sI n]) (i:=3) (x:=.int (b:Int)) (s:=true) rfl) (zb (x:=.int 0)) rfl rfl) zr) (by
    by_cases h:(0:Int)<b
    . rw[zyO h,if_pos h];rfl
    . rw[zyG h,if_neg h];rfl) rfl
   have wv:=y7 wi (zK (zb (x:=.int 1))<|zU (xi (za (i:=1) (x:=.int x) (s:=true) rfl) (OU l7 (WD.e<|za (i:=3) (x:=.int (b:Int)) rfl)<|cj b<|q2f a1 n2 n7) q.1<|zz (q1S q)<|q1Z q) wm<|q2g n2 n7) (zz (by split<;>decide)<|by split<;>decide) (zz (by omega)<|by omega);have e2:(if(0:Int)<b then(1:Int)else 0)*(1+x/6 ^ b%((n:Int)-1))=dK 2 n x c (b:Int):=by
    show _=if(0:Int)<b then 1+x/6 ^ (((b:Nat):Int)).toNat%((n:Int)-1)else 0
    rw[zyI]
    split
    . rw[Int.one_mul]
    . rw[Int.zero_mul]
   rw[e2]at wv;exact xV rfl<|zo s0<|zo (zq (eqT (za (i:=4) rfl) zb rfl) rfl)<|zo (zq (eqT (za (i:=4) rfl) zb rfl) rfl)<|vV<|y6 (eqT (za (i:=4) rfl) zb rfl)<|xS wv
 . have tt:WT (fT<|f2 (f2 zi yN zM) zV<|zy .Eq) [sT<|pD (3,4),sI x,sI c,sI a,sI 3,sI (4:Nat)] (x%2==0):=eqT (zU (za (i:=1) rfl) zb<|by decide) zb rfl;have pre:∀{o:Option Out}{f g:SF},ze f g [sT<|pD (3,4),sI x,sI c,sI a,sI 3,sI (4:Nat)]=o->ze f g [sT<|pD (3,4),sI x,sI c,sI a,sI 3,sI (4:Nat)]=o:=λh=>h
   by_cases e:x%2=0
   . rw[show(x%2==0)=true by simp[e]]at tt;have d:dK 3 4 x c a=a:=if_pos e;rw[d];exact xV rfl<|zo s0<|zo (zq (eqT (za (i:=4) rfl) zb rfl) rfl)<|zo (zq (eqT (za (i:=4) rfl) zb rfl) rfl)<|zo (zq (eqT (za (i:=4) rfl) zb rfl) rfl)<|vV<|y6 tt<|xS<|za (i:=3) rfl
   . rw[show(x%2==0)=false by simp[e]]at tt;have d:dK 3 4 x c a=sP a:=if_neg e;rw[d];exact xV rfl (zo s0<|zo (zq (eqT (za (i:=4) rfl) zb rfl) rfl)<|zo (zq (eqT (za (i:=4) rfl) zb rfl) rfl)<|zo (zq (eqT (za (i:=4) rfl) zb rfl) rfl)<|zo (zq tt rfl)<|xS<|ZS (zK (y7 zb (ZS zb<|zU (za (i:=3) rfl) zb<|by decide) (zz (by decide)<|by decide)<|zz (by omega)<|by omega) zb)<|xi (za (i:=3) rfl) zb (by decide)<|zz (by decide)<|by decide)
def Fg{p:Int×Nat}{x c a:Int}{m:Nat}(h:KN p.1 p.2/\2<=p.2/\p.2<=7)(hc:zO m c)(m6:m<=6)(ha:zO p.2 a):xI [(true,pD p),(true,.int x),(true,.int c),(true,.int a)]=sI (dK p.1 p.2 x c a):=Bg h.1 h.2.1 h.2.2 hc m6 ha
def PK.tail{p:Int×Nat}{P:PZ}(h:PK (p::P)):PK P:=λq m=>h q<|zzD _ m
abbrev dI:SF:=(ze (yq<|vX 2 (dC (f2 zi yh zM) dN) vM)
 (zp true 1<|f2 zi yh zD))
theorem Ih{B:Option O}:∀(P:PZ) (v:Int) (acc:List Int) (e3 e4:Option O),PK P->acc.length+P.length<=900->∃v' e3' e4',forL (gT 2<|yG (gN 3)<|yG RG XM) dI (P.map λp=>(true,pD p)) [B,sI v,some<|xN acc,e3,e4]=some (.nx [B,sI v',some<|xN<|acc++sp P v,e3',e4'])
 | [],v,acc,e3,e4,_,_=>⟨v,e3,e4,by rw[show acc++sp [] v=acc from zyE _];rfl⟩
 |p::P,v,acc,e3,e4,h,hl=>by
  have hp:=(h p<|zzF ..).2;rw[zzT]at hl;obtain⟨v',f3,f4,hf⟩:=Ih P _ (acc++[v%p.2]) (sI p.1) (sI p.2) h.tail (by rw[zzJ];show acc.length+1+P.length<=900;exact q1A hl);rw[zxC]at hf;refine⟨v',f3,f4,xZ rfl (zo (as1:=[B,sI v,some _,sI p.1,sI p.2]) ?_<|zG (xi (za rfl) (za rfl) (q2a hp)<|zz (by omega)<|by omega)<|zg rfl) hf⟩;have ap:=UL (i:=2) (as:=[B,sI v,some<|xN acc,sI p.1,sI p.2]) rfl (zU (za (i:=1) rfl) (za (i:=4) rfl)<|q2a hp) rfl (by rw[zzB];exact slt<|q1y hl);rw[<-F_]at ap;exact ap
def A_{P:PZ}{v:Int}(h:PK P)(hl:P.length<=10):VU [(true,Qa P),(true,.int v)]=some (xN<|sp P v):=by
 obtain⟨v',e3,e4,hf⟩:=Ih P v [] none none h (by show 0+_<=_;omega);have it:YU zm [sT<|Qa P,sI v,some<|xN [],none,none]=some (P.map λp=>(true,pD p),[sT<|Qa P,sI v,some<|xN [],none,none]):=by
  have:=Ic<|WD.e<|za (as:=[sT<|Qa P,sI v,some<|xN [],none,none]) (i:=0) rfl;rw[zyB]at this;exact this
 exact xV rfl<|zo (yV (wq yi<|VI rfl)<|zg rfl)<|zo (yn it hf)<|Qy rfl (Zz _).2.1
def qj{f:EF}{as:AS}{ds:List D}(h:WD f as true (.lst ds)):WE (WR f oN (oS<|f1 zJ EN) mh) as (.lst ds.reverse):=by
 refine⟨.nd .ls _, ?_,U8 _,congrArg D.lst<|TQ _⟩;unfold WD at h;unfold WR;rw[h];show(if _=true then some (RV.ow<|.nd .ls<|ds.reverse.map<|OI true)else none:Option RV).bind _=_;rw[if_pos<|by simp];show some _=_;rw[show(OI true)=O.lf true from funext λd=>by show O.lf _ d=_;rw[zyD]]
theorem Vq:∀(P:PZ) (ds:List Int),Qc true (P.map pD) (ds.map D.int)=(P.zip ds).map λq=>(true,D.tup [pD q.1,.int q.2])
 | [],_=>rfl
 |_::_,[]=>rfl
 |p::P,d::ds=>congrArg (_ :: ·)<|Vq P ds
theorem HB:∀(P:PZ) (ds:List Int),P.length=ds.length->(P.zip ds).foldr (λq v=>v*(q.1.2:Int)+q.2) 0=ld P ds
 | [],[],_=>rfl
 | [],_::_,h=>by simp at h
 |_::_,[],h=>by simp at h
 |p::P,d::ds,h=>by
  show(P.zip ds).foldr _ 0*_+d=ld P ds*p.2+d;rw[HB P ds<|by simpa using h]
abbrev d8:SF:=n3
theorem Jo{B C:Option O}:∀(l:List ((Int×Nat)×Int)) (v:Int) (e3 e4:Option O),(∀q ∈ l,q.1.2<=7)->∃e3' e4',forL (gT 2<|yG (gN 3)<|yG RG XM) d8 (l.map λq=>(true,D.tup [pD q.1,.int q.2])) [B,C,sI v,e3,e4]=some (.nx [B,C,sI<|l.foldl (λv q=>v*(q.1.2:Int)+q.2) v,e3',e4'])
 | [],v,e3,e4,_=>⟨e3,e4,rfl⟩
 |q::l,v,e3,e4,h=>by
  have hq:=h q<|zzF ..;obtain⟨f3,f4,hf⟩:=Jo l _ _ (sI q.2) λx m=>h x<|zzD _ m;exact⟨f3,f4,xZ rfl (zG (zK (MX (za rfl) (zB (za rfl) (zb) rfl rfl)<|Nat.lt_of_le_of_lt (show((q.1.2:Int)).natAbs<=7 by omega)<|by decide)<|za rfl)<|zg rfl) hf⟩
def MR{P:PZ}{ds:List Int}(h:PK P)(hl:P.length=ds.length):xv [(true,Qa P),(true,zk ds)]=sI (ld P ds):=by
 obtain⟨e3,e4,hf⟩:=Jo (P.zip ds).reverse 0 none none λq m=>by
  have:=List.of_mem_zip<|List.mem_reverse.mp<|m;exact(h _ this.1).2.2
 rw[List.foldl_reverse,HB P ds hl]at hf;have ez:(P.zip ds).reverse=P.reverse.zip ds.reverse:=List.reverse_zipWith hl;have w1:=qj (as:=[sT<|Qa P,sT<|zk ds,sI 0,none,none])<|za (i:=0) rfl;have w2:=qj (as:=[sT<|Qa P,sT<|zk ds,sI 0,none,none])<|za (i:=1) rfl;rw[<-List.map_reverse]at w1 w2;have it:Yz oe [sT<|Qa P,sT<|zk ds,sI 0,none,none]=some ((P.zip ds).reverse.map λq=>(true,D.tup [pD q.1,.int q.2]),[sT<|Qa P,sT<|zk ds,sI 0,none,none]):=by
  rw[ez,<-Vq];have hw:=yZ w1<|yZ w2<|zr;unfold WA at hw;unfold Yz oe;rw[hw];rfl
 exact xV rfl<|zo (zG zb<|zg rfl)<|zo (yn it hf)<|xS<|za rfl
def DX{as:AS}{a b:EF}{i:Nat}{l:List Int}{k v:Int}(h:as[i]? = some (some<|xN l))(hl:l.length<900)(ha:WD a as true (.int k))(hb:WD b as true (.int v))(k0:0<=k)(k1:k<1000):∃l':List Int,l'.Perm (v::l)/\yq (vX i (dC a<|dC b dN) Sv) as=some (.nx<|as.set i<|some<|xN l'):=by
 refine⟨l.take _++v::l.drop (QN k l.length),List.perm_middle.trans (by rw[List.take_append_drop]), ?_⟩;unfold yq vX;rw[h];have e:=zu ha<|zu hb yi;rw[e];show(Option.bind (match as[i]? with|some (some<|.nd .ls os)=>_|_=>none) _)=_;rw[h];show((Sv _ _).bind _).bind _=_;have e2:Sv (l.map Fm) [.lf true<|.int k,Fm v]=some ((l.take (QN k l.length)++v::l.drop (QN k l.length)).map Fm,.lf true .non):=by
  unfold Sv;show(if _/\(l.map Fm).length<sizeLine then _ else _)=_;rw[if_pos ⟨⟨by omega,by omega⟩,by rw[zzB];exact slt<|q0i hl⟩,zzB,zyM,zyS,List.map_take,List.map_drop]
 rw[e2];rfl
def Iw{x:Int}{n:Nat}(n8:n<=8):∃F:List Int,F.Perm (Gz n)/\RE (VG [(true,.int x),(true,.int n)]) (zk F):=by
 obtain⟨as',hf,x',F,e3,rfl,hp⟩:=yW (g:=gN 3) (f:=(ze _
  (zp true 0<|f2 zm (f2 zE zJ zt) zD)))
  (λi as=>∃(x':Int) (F:List Int) (e3:Option O),as=[sI x',sI n,some<|xN F,e3]/\F.Perm (Gz i)) (y4 0 n) 0 [sI x,sI n,some<|xN [],none] (λi z as hz hI=>by
   obtain⟨x',F,e3,rfl,hp⟩:=hI;obtain⟨rfl,hi⟩:=xk hz;rw[zyX]at hp ⊢;rw[Int.zero_add];have fl:F.length=i:=by rw[hp.length_eq,zzB,zyU]
   have q0:=zyN x' (show(i:Int)+1≠0 by omega);have q1:=zyH x' (show 0<(i:Int)+1 from q0V fl);obtain⟨F',p',hs⟩:=DX (as:=[sI x',sI n,some<|xN F,sI i]) (i:=2) rfl (by omega) (zU (za (i:=0) rfl) (zK (za (i:=3) rfl)<|zb)<|q0V fl) (za (i:=3) rfl) q0 (by omega);refine⟨_,rfl,_,zo hs<|zG (xi (za rfl) (zK (za rfl)<|zb) (q0V fl)<|zz (by omega)<|by omega)<|zg rfl,_,F',_,rfl, ?_⟩;show F'.Perm ((List.range _).map λ(i:Nat)=>_);rw[List.range_succ,zyM];exact p'.trans<|(hp.cons _).trans (List.perm_append_singleton _ _).symm)
  ⟨x,[],none,rfl,List.Perm.refl _⟩
 rw[yY,zyX]at hp;have hrun:=xf (as:=[sI x,sI n,some<|xN [],none]) (zj (za (i:=1) rfl) zr) (by omega) (by omega);rw[zyI]at hrun;exact⟨F,hp,zL rfl<|zc (yV (wq yi<|VI rfl)<|zg rfl)<|zc (yn hrun hf) ⟨_,Qy rfl (Zz F).2.1,(XO F).1,(XO F).2⟩⟩
def WL(fr:DF)(as:AS)(xs:List D):Prop:=∃os,fr as=some (os,as)/\O.strs os=true/\O.toDs os=xs
def Xo{as:AS}:WL dN as []:=⟨[],rfl,rfl,rfl⟩
def zW{a:EF}{fr:DF}{as:AS}{x:D}{xs:List D}(h:WE a as x)(t:WL fr as xs):WL (dC a fr) as (x::xs):=by
 obtain⟨o,h1,h2,h3⟩:=h;obtain⟨os,t1,t2,t3⟩:=t;refine⟨o::os,Jw h1 t1, ?_, ?_⟩
 . show(o.str&&O.strs os)=_;rw[h2,t2];rfl
 . show o.toD::O.toDs os=_;rw[h3,t3]
def X4{fr:DF}{as:AS}{xs:List D}(h:WL fr as xs)(hl:Nat.ble xs.length 1000=true):WE (zZ fr) as (.lst xs):=by
 obtain⟨os,h1,h2,h3⟩:=h;have e:os.length=xs.length:=by rw[<-h3,Y_]
 exact Zq h1 (by rw[e];exact VI hl) h2<|congrArg D.lst h3
noncomputable def fD:List PZ:=[[(0,3)],[(2,3)],[(1,4)],[(0,2),(2,2)],[(3,4)],[(2,4)],[(0,2),(1,3)],[(0,5)],[(2,2),(3,4)],[(1,2),(2,3)],[(0,4)],[(3,4)],[(1,6)],[(0,2),(3,4)],[(2,7)],[(0,6)]]
def gB(P:PZ):Bool:=P.all (λp=>((p.1==0&&p.2<=6)||p.1==1||p.1==2||(p.1==3&&p.2==4))&&2<=p.2&&p.2<=7)&&PN P<=8&&P.tail.all (λp=>p.1 != 0)&&P.length<=2&&P != []
def ui:∀P ∈ fD,gB P=true:=by decide
structure Pt(P:PZ):Prop where
 k:PK P
 n8:PN P<=8
 tl:∀p ∈ P.tail,p.1≠0
 l2:P.length<=2
 ne:P≠[]
 z6:∀p ∈ P,p.1=0->p.2<=6
def lB{P:PZ}(h:gB P=true):Pt P:=by
 unfold gB at h;simp only[zyC,List.all_eq_true,Bool.or_eq_true,beq_iff_eq,decide_eq_true_eq,bne_iff_ne,ne_eq]at h;obtain⟨⟨⟨⟨h1,h2⟩,h3⟩,h4⟩,h5⟩:=h;refine⟨λp mp=>?_,h2,h3,h4,h5,λp mp e=>?_⟩
 . obtain⟨⟨h,a⟩,b⟩:=h1 p mp;refine⟨?_,a,b⟩
   rcases h with((h|h)|h)|h
   . exact .inl ⟨h.1,by omega⟩
   . exact .inr<|.inl ⟨h,q1B a b⟩
   . exact .inr<|.inr<|.inl ⟨h,q1B a b⟩
   . exact .inr<|.inr<|.inr ⟨h.1,h.2⟩
 . obtain⟨⟨h,a⟩,b⟩:=h1 p mp
   rcases h with((h|h)|h)|h
   . exact h.2
   . omega
   . omega
   . omega
def gP{as:AS}{k:Int}{n:Nat}:WE (yd<|dC (fC<|.int k)<|dC (fC<|.int (n:Int)) dN) as (pD (k,n)):=yp (WD.e zb)<|WD.e zb
def Dd{as:AS}{k:Int}{n:Nat}:WE (zZ<|dC (yd<|dC (fC<|.int k)<|dC (fC<|.int (n:Int)) dN) dN) as (Qa [(k,n)]):=X4 (zW gP Xo) rfl
def ji{as:AS}{k l:Int}{n m:Nat}:WE (zZ<|dC (yd<|dC (fC<|.int k)<|dC (fC<|.int (n:Int)) dN)<|dC (yd<|dC (fC<|.int l)<|dC (fC<|.int (m:Int)) dN) dN) as (Qa [(k,n),(l,m)]):=X4 (zW gP<|zW gP Xo) rfl
def OW(x:Int):∃P:PZ,Pt P/\RE (Qd [(true,.int x)]) (Qa P):=by
 have q0:=zyN x (show(16:Int)≠0 by decide);have q1:=zyH x (show(0:Int)<16 by decide);obtain⟨P,hP,mP⟩:=qB Qa (T:=fD) q0 q1 ui;have s1:=yL (p:=1) (as:=[sI x,none]) (X4 (zW (Dd (k:=0) (n:=3))<|zW (Dd (k:=2) (n:=3))<|zW (Dd (k:=1) (n:=4))<|zW (ji (k:=0) (n:=2) (l:=2) (m:=2))<|zW (Dd (k:=3) (n:=4))<|zW (Dd (k:=2) (n:=4))<|zW (ji (k:=0) (n:=2) (l:=1) (m:=3))<|zW (Dd (k:=0) (n:=5)) Xo) rfl)<|zg rfl;have s2:=yL (p:=1) (as:=[sI x,sT<|.lst<|([[(0,3)],[(2,3)],[(1,4)],[(0,2),(2,2)],[(3,4)],[(2,4)],[(0,2),(1,3)],[(0,5)]]:List PZ).map Qa]) (JJ (WD.e<|za (i:=1) rfl) (X4 (zW (ji (k:=2) (n:=2) (l:=3) (m:=4))<|zW (ji (k:=1) (n:=2) (l:=2) (m:=3))<|zW (Dd (k:=0) (n:=4))<|zW (Dd (k:=3) (n:=4))<|zW (Dd (k:=1) (n:=6))<|zW (ji (k:=0) (n:=2) (l:=3) (m:=4)) Xo) rfl)<|add_lists<|VI rfl)<|zg rfl;have s3:=yL (p:=1) (as:=[sI x,sT<|.lst<|([[(0,3)],[(2,3)],[(1,4)],[(0,2),(2,2)],[(3,4)],[(2,4)],[(0,2),(1,3)],[(0,5)],[(2,2),(3,4)],[(1,2),(2,3)],[(0,4)],[(3,4)],[(1,6)],[(0,2),(3,4)]]:List PZ).map Qa]) (JJ (WD.e<|za (i:=1) rfl) (X4 (zW (Dd (k:=2) (n:=7))<|zW (Dd (k:=0) (n:=6)) Xo) rfl)<|add_lists<|VI rfl)<|zg rfl;exact⟨P,lB mP,zL rfl<|zc s1<|zc s2<|zc s3<|zA<|WD.e<|yE (za (i:=1) rfl) (zU (za (i:=0) rfl) zb<|by decide) hP⟩
section
variable{α:Type}{fi:IF}{cap:List (Option Nat)}{gg:GF}{fe:EF}{as:AS}{it:α->wK}
def Mw{h:α->Int}(l:List α)(h1:fi as=some (l.map it,as))(hl:l.length<=1000)(H:∀q ∈ l,∃as1,gg (it q) (Z6 cap as)=some as1/\WD fe as1 true (.int<|h q)):zS fi cap gg yx fe as=some (.ow<|xN<|l.map h,as):=by
 have c:∀l:List α,(∀q ∈ l,∃as1,gg (it q) (Z6 cap as)=some as1/\WD fe as1 true (.int<|h q))->xF gg yx fe (Z6 cap as) (l.map it)=some ((l.map h).map Fm):=by
  intro l
  induction l with
  |nil=>exact λ_=>rfl
  |cons q l ih=>
   intro H;obtain⟨as1,a,b⟩:=H q<|zzF ..;exact Pm a b<|ih λz m=>H z<|zzD _ m
 exact Rn h1 (by rw[zzB];exact OP<|q0t hl)<|c l H
def Il{h:α->D}(l:List α)(h1:fi as=some (l.map it,as))(hl:l.length<=1000)(H:∀q ∈ l,∃as1,gg (it q) (Z6 cap as)=some as1/\WE fe as1 (h q)):∃os,zS fi cap gg yx fe as=some (.ow<|.nd .ls os,as)/\O.strs os=true/\O.toDs os=l.map h:=by
 have c:∀l:List α,(∀q ∈ l,∃as1,gg (it q) (Z6 cap as)=some as1/\WE fe as1 (h q))->∃os,xF gg yx fe (Z6 cap as) (l.map it)=some os/\O.strs os=true/\O.toDs os=l.map h:=by
  intro l
  induction l with
  |nil=>exact λ_=>⟨[],rfl,rfl,rfl⟩
  |cons q l ih=>
   intro H;obtain⟨as1,a,o,b1,b2,b3⟩:=H q<|zzF ..;obtain⟨os,c1,c2,c3⟩:=ih λz m=>H z<|zzD _ m;refine⟨o::os,FN a b1 b2 c1, ?_, ?_⟩
   . show(o.str&&O.strs os)=_;rw[b2,c2];rfl
   . show o.toD::O.toDs os=_;rw[b3,c3];rfl
 obtain⟨os,c1,c2,c3⟩:=c l H;exact⟨os,Rn h1 (by rw[zzB];exact OP<|q0t hl) c1,c2,c3⟩
end
def uo{as:AS}{fr:AF}{n:Nat}{u:Bool}(h:WA fr as [(u,.int n)])(hn:n<=1000):yB fr yO as=some ((List.range n).map λi:Nat=>(true,D.int<|0+(i:Int)),as):=by
 have:=xf h (by omega) (by omega)
 rwa [zyI]at this
theorem any_ints(b:Int):∀r:List Int,∃t,anyF (λy=>Xr 50 y<|.int b) (r.map D.int)=some t
 | []=>⟨_,rfl⟩
 |x::r=>by
  obtain⟨t,h⟩:=any_ints b r;refine⟨(x==b)||t, ?_⟩;show(some _).bind _=_;rw[zyL,h];rfl
theorem BB{b:Int}:∀{r:List Int},b ∈ r->∃j:Nat,j<r.length/\r[j]? = some b/\ES (λy=>Xr 50 y<|.int b) (r.map D.int)=some j
 |x::r,m=>by
  by_cases e:x=b
  . obtain⟨t,h⟩:=any_ints b r;refine⟨0,Nat.succ_pos _,by rw[e];rfl, ?_⟩;show(some _).bind _=_;rw[zyL,show(x==b)=true by simp[e]];rw[h];rfl
  . obtain⟨j,h1,h3,h2⟩:=BB<|(zzC.mp m).resolve_left λz=>e z.symm;refine⟨j+1,Nat.succ_lt_succ h1,by simpa using h3, ?_⟩;show(some _).bind _=_;rw[zyL,show(x==b)=false by simp[e]];rw[h2];rfl
def Fl(r:List Int)(b:Int):Int:=(((ES (λy=>Xr 50 y<|.int b)<|r.map D.int).getD 0:Nat):Int)
def Jb{n:Nat}{r:List Int}{b:Int}(hl:r.length=n)(hb:b ∈ r):zO n (Fl r b)/\Zd r (Fl r b)=b/\ES (λy=>Xr 50 y<|.int b) (r.map D.int)=some (Fl r b).toNat:=by
 obtain⟨j,j1,j2,j3⟩:=BB hb;have e:Fl r b=(j:Int):=by unfold Fl;rw[j3];rfl
 rw[e,zyI];refine⟨⟨by omega,by omega⟩, ?_,j3⟩;unfold Zd;rw[zyI,j2];rfl
def eW{as:AS}{r:List Int}{i j:Nat}{x:Int}(hl:r.length<=1000)(hx:x ∈ r)(hi:as[i]? = some (sT<|zk r))(hj:as[j]? = some (sI x)):WD (Mz .lst (fV i) (aC (fV j) aN) Hb) as true (.int<|Fl r x):=by
 obtain⟨a1,a2,a3⟩:=Jb rfl hx;refine ub (za hi) rfl (zj (za hj) zr) ?_ rfl;show(ES _ _).bind _=_;rw[a3];show(if(r.map D.int).length<=1000 then some _ else none)=_;rw[if_pos (by rw[zzB];exact hl),show(((Fl r x).toNat:Nat):Int)=Fl r x by have:=a1.1;omega]
section
variable{n:Nat}{F:List Int}
def Y5(h:F.Perm (Gz n)){x:Int}(hx:zO n x):zO n (Fl F x)/\Zd F (Fl F x)=x:=
 have k:=Jb (xQ h).1.1 ((xQ h).2 x hx.1 hx.2)
 ⟨k.1,k.2.1⟩
def Qw(h:F.Perm (Gz n)){v:Int}(hv:zO n v):zO n (Zd F v):=(rowAt (xQ h).1 hv).2
def LO(h:F.Perm (Gz n)){a:Int}(ha:zO n a):Fl F (Zd F a)=a:=
 have k:=Y5 h (Qw h ha)
 Jr h k.1 ha k.2
end
def pin:PZ->List Int->Prop
 | [],[]=>True
 |p::P,a::s=>zO p.2 a/\pin P s
 |_,_=>False
theorem EW:∀{P:PZ},PK P->∀v,pin P<|sp P v
 | [],_,_=>trivial
 |p::P,h,v=>⟨QJ (by have:=(h p<|zzF ..).2.1;exact q0d this),EW h.tail _⟩
theorem JU(f:Int->Nat->Int->Int->Int):∀{P:PZ}{s t:List Int},pin P s->pin P t->P.length=(z3 f P s t).length
 | [],[],[],_,_=>rfl
 |_::_,_::_,_::_,h,k=>congrArg (· + 1)<|JU f h.2 k.2
 | [],_::_,_,h,_=>h.elim
 |_::_,[],_,h,_=>h.elim
 | [],[],_::_,_,h=>h.elim
 |_::_,_::_,[],_,h=>h.elim
theorem Aq(f:Int->Nat->Int->Int):∀{P:PZ}{s:List Int},pin P s->P.length=(z2 f P s).length
 | [],[],_=>rfl
 |_::_,_::_,h=>congrArg (· + 1)<|Aq f h.2
 | [],_::_,h=>h.elim
 |_::_,[],h=>h.elim
abbrev eg:EF:=zh (aC zm<|aC zi ZA) wQ
theorem sX:∀{P:PZ}{s t:List Int},PK P->pin P s->pin P t->xF qb yx eg [none,none,none] (Y8 true (P.map pD) (s.map D.int)<|t.map D.int)=some ((z3 jK P s t).map Fm)
 | [],[],[],_,_,_=>rfl
 |p::P,a::s,b::t,h,ha,hb=>Pm rfl (Qt (zj (za rfl)<|zj (za rfl)<|zj (za rfl) zr)<|MM (h p<|zzF ..).1 ha.1 hb.1)<|sX h.tail ha.2 hb.2
 | [],_::_,_,_,h,_=>h.elim
 |_::_,[],_,_,h,_=>h.elim
 | [],[],_::_,_,_,h=>h.elim
 |_::_,_::_,[],_,_,h=>h.elim
abbrev fB:EF:=zh (aC zm<|aC zF<|aC zE wA) xI
theorem sV{x c:Int}{m:Nat}(hc:zO m c)(m6:m<=6):∀{P:PZ}{s:List Int},PK P->pin P s->xF (gT 2<|yG y8<|yG (gN 1) XM) yx fB [none,none,sI x,sI c] (Qc true (P.map pD)<|s.map D.int)=some ((z2 (λk n a=>dK k n x c a) P s).map Fm)
 | [],[],_,_=>rfl
 |p::P,a::s,h,ha=>Pm rfl (Qt (zj (za rfl)<|zj (za rfl)<|zj (za rfl)<|zj (za rfl) zr)<|Fg (h p<|zzF ..) hc m6 ha.1)<|sV hc m6 h.tail ha.2
 | [],_::_,_,h=>h.elim
 |_::_,[],_,h=>h.elim
def uq{P:PZ}{u v:Int}(h:PK P)(l2:P.length<=2):WD (zh (aC zi<|aC (zS (HI<|aC zi<|aC zF v7) [none,none,none] qb yx eg) aN) xv) [sT<|zk<|sp P v,sT<|Qa P,sT<|zk<|sp P u] true (.int<|jX P u v):=by
 have p1:=EW h u;have p2:=EW h v;have it:HI (aC zi<|aC zF v7) [sT<|zk<|sp P v,sT<|Qa P,sT<|zk<|sp P u]=some (Y8 true (P.map pD) ((sp P u).map D.int)<|(sp P v).map D.int,[sT<|zk<|sp P v,sT<|Qa P,sT<|zk<|sp P u]):=by
  show(if(P.map pD).length=((sp P u).map D.int).length/\((sp P u).map D.int).length=((sp P v).map D.int).length then _ else _)=_;rw[if_pos<|by simp only[zzB,Et,and_self]];rfl
 have wc:=Rn (cap:=[none,none,none]) it (by rw[Pz _ _ _ _ (by simp only[zzB,Et]) (by simp only[zzB,Et]),zzB];exact OP<|by omega)<|sX h p1 p2;have:=Sw (WD.e<|za (i:=1) rfl) (Pu wc)<|MR h<|JU jK p1 p2
 rwa [rE]at this
def kQ{P:PZ}{x c v:Int}{m:Nat}(h:PK P)(l2:P.length<=2)(hc:zO m c)(m6:m<=6):WD (zh (aC zi<|aC (zS (Yz<|aC zi v7) [none,none,some 2,some 3] (gT 2<|yG y8<|yG (gN 1) XM) yx fB) aN) xv) [sT<|zk<|sp P v,sT<|Qa P,sI x,sI c] true (.int<|dX P x c v):=by
 have p1:=EW h v;have it:Yz (aC zi v7) [sT<|zk<|sp P v,sT<|Qa P,sI x,sI c]=some _:=rfl;have wc:=Rn (cap:=[none,none,some 2,some 3]) it (by rw[Rb,zzB];exact OP<|by omega)<|sV hc m6 h p1;have:=Sw (WD.e<|za (i:=1) rfl) (Pu wc)<|MR h<|Aq _ p1
 rwa [rC]at this
def IQ{n:Nat}{g:GF}{f:SF}{S:List O->Option O->AS}{it:Nat->wK}{v:Nat->O}{w:Nat->Option O}(hn:n<=900)(H:∀i,i<n->∀os e,os.length<900->g (it i) (S os e)=some (S os<|w i)/\f (S os<|w i)=some (.nx<|S (os++[v i])<|w i))(e0:Option O):∃e',forL g f ((List.range n).map it) (S [] e0)=some (.nx<|S ((List.range n).map v) e'):=by
 obtain⟨as',hf,e',rfl⟩:=yW (λi as=>∃e,as=S ((List.range i).map v) e) _ 0 _ (λi x as hx hI=>by
  obtain⟨e,rfl⟩:=hI;rw[zyX];have hi:i<n:=by
   have:=(zzG.mp hx).1
   rwa [zzB,zyU]at this
  rw[zzI,List.getElem?_range hi]at hx;cases hx;obtain⟨h1,h2⟩:=H i hi ((List.range i).map v) e (by rw[zzB,zyU];omega);exact⟨_,h1,_,h2,w i,by rw[List.range_succ,zyM];rfl⟩) ⟨e0,rfl⟩
 rw[zzB,zyU,zyX]at hf;exact⟨e',hf⟩
def rK{as:AS}{i:Nat}{s:Bool}{r:List Int}(h:as[i]? = some (some<|.lf s<|zk r)):xC (fV i) as=some (r.map λx=>(true,D.int x),as):=by
 refine tY (za h) ?_;show some _=_;unfold kids;rw[zyB];rfl
def md{as:AS}{i:Nat}{T:TZ}(h:as[i]? = some (some<|Hc T)):xC (fV i) as=some (T.map λr=>(false,zk r),as):=by
 unfold xC;rw[FK h];show((match as[i]? with|some (some<|.nd .ls os)=>some _|some (some<|.nd .tp os)=>some _|_=>none:Option _).bind λl=>some _)=_;rw[h];show some _=_;unfold Ln;rw[zyB]
 congr 2
 refine List.map_congr_left λr _=>?_;show(false,(xN r).toD)=_;rw[(XO r).2]
section
variable{n m:Nat}{F:List Int}{P:PZ}
def eC{as:AS}{i:Nat}{T:TZ}(hF:Row n F)(hi:as[i]? = some (some<|Hc T))(hc:∀d:wK,gN 0 d (Z6 [none,some 5] as)=some [some<|.lf d.1 d.2,sT<|zk F])(hl:T.length<=900)(hr:∀r ∈ T,r.length<=900/\∀x ∈ r,zO n x):∃os,zS (xC<|fV i) [none,some 5] y8 yx ny as=some (.ow<|.nd .ls os,as)/\O.strs os=true/\O.toDs os=(T.map λr=>r.map<|Zd F).map zk:=by
 obtain⟨os,h1,h2,h3⟩:=Il T (md hi) (q0b hl) λr mr=>by
  refine⟨_,hc _, ?_⟩;have wi:=Mw (as:=[some<|.lf false<|zk r,sT<|zk F]) (cap:=[none,some 1]) (gg:=gN 0) r (rK (i:=0) rfl) (by have:=(hr r mr).1;exact q0b this) λx mx=>⟨_,rfl,zB (za (i:=1) rfl) (za (i:=0) rfl) (rowAt hF<|(hr r mr).2 x mx).1 rfl⟩;exact Pu wi
 exact⟨os,h1,h2,by rw[h3,zyB];rfl⟩
def tO(P:PZ)(F:List Int)(n a:Nat):List Int:=(List.range n).map λb:Nat=>jX P (Fl F a)<|Fl F b
def E5(P:PZ)(F:List Int)(n:Nat):TZ:=((List.range n).map<|tO P F n).map λr=>r.map<|Zd F
def IP(P:PZ)(F:List Int)(n:Nat)(x:Int)(c:Nat):List Int:=(List.range n).map λa:Nat=>dX P x c<|Fl F a
def qE(P:PZ)(F:List Int)(n m:Nat)(x:Int):TZ:=((List.range m).map<|IP P F n x).map λr=>r.map<|Zd F
def DN{g:Nat->Int}{v:Int}(hv:zO n v):Zd ((List.range n).map g) v=g v.toNat:=by
 unfold Zd;have:=hv.1;have:=hv.2;rw[zzI,List.getElem?_range<|by omega];rfl
def J0{k:Nat}{g:Nat->Nat->Int}{u v:Int}(hu:zO k u)(hv:zO n v):ym (((List.range k).map λa=>(List.range n).map<|g a).map λr=>r.map<|Zd F) u v=Zd F (g u.toNat v.toNat):=by
 have:=hu.1;have:=hu.2;unfold ym;rw[zzI,zzI,List.getElem?_range (show u.toNat<k by omega)];show Zd (((List.range n).map _).map _) v=_;rw[zyB,DN hv];rfl
def HL{k:Nat}{g:Nat->Nat->Int}(hF:Row n F)(hg:∀a b,a<k->b<n->zO n (g a b)):Tab k n (((List.range k).map λa=>(List.range n).map<|g a).map λr=>r.map<|Zd F):=by
 refine⟨by rw[zzB,zzB,zyU],λr mr=>?_⟩;obtain⟨q,mq,rfl⟩:=zxD.mp mr;obtain⟨a,ma,rfl⟩:=zxD.mp mq;refine⟨by rw[zzB,zzB,zyU],λx mx=>?_⟩;obtain⟨y,my,rfl⟩:=zxD.mp mx;obtain⟨b,mb,rfl⟩:=zxD.mp my;exact(rowAt hF<|hg a b (List.mem_range.mp ma)<|List.mem_range.mp mb).2
def SJ{i:Nat}(h:i<n):zO n (i:Int):=⟨q0a,q0h h⟩
def rA(hP:PK P)(hn:n=PN P)(hF:F.Perm (Gz n)){a b:Nat}(ha:a<n)(hb:b<n):zO n (jX P (Fl F a)<|Fl F b):=by
 have:=(nB hP).cl;rw[<-hn]at this;exact this _ _ (Y5 hF<|SJ ha).1 (Y5 hF<|SJ hb).1
def sL{x:Int}(hP:PK P)(hn:n=PN P)(m1:1<=m)(hm:∀p ∈ P,p.1=0->m=p.2)(hF:F.Perm (Gz n)){c a:Nat}(hc:c<m)(ha:a<n):zO n (dX P x c<|Fl F a):=by
 have:=(iE (x:=x) m1 hP hm).cl;rw[<-hn]at this;exact this _ _ (SJ hc) (Y5 hF<|SJ ha).1
def OQ(hP:PK P)(hn:n=PN P)(hF:F.Perm (Gz n)):Tab n n (E5 P F n)/\LJ n (ym<|E5 P F n) (Zd F<|eX P)/\∀a b,zO n a->zO n b->ym (E5 P F n) (Zd F a) (Zd F b)=Zd F (jX P a b):=by
 have q:∀a b,zO n a->zO n b->ym (E5 P F n) _ _=Zd F _:=λa b ha hb=>by
  have ia:=Qw hF ha;have ib:=Qw hF hb;refine(J0 ia ib).trans ?_;rw[show(((Zd F a).toNat:Nat):Int)=Zd F a by have:=ia.1;omega,show(((Zd F b).toNat:Nat):Int)=Zd F b by have:=ib.1;omega,LO hF ha,LO hF hb]
 have hL:=nB hP;rw[<-hn]at hL;exact⟨HL (xQ hF).1 λa b ha hb=>rA hP hn hF ha hb,dw hL (λa ha=>Qw hF ha) (λa ha=>(Y5 hF ha).1) (λa ha=>(Y5 hF ha).2) q,q⟩
def Dj{x:Int}(hP:PK P)(hn:n=PN P)(m1:1<=m)(hm:∀p ∈ P,p.1=0->m=p.2)(hF:F.Perm (Gz n)):Tab m n (qE P F n m x)/\LD n m (ym<|E5 P F n) (Zd F<|eX P) (ym<|qE P F n m x):=by
 have hL:=nB hP;have hD:=iE (x:=x) m1 hP hm;rw[<-hn]at hL hD;refine⟨HL (xQ hF).1 λc a hc ha=>sL hP hn m1 hm hF hc ha,dJ (by omega) hL hD (λa ha=>Qw hF ha) (λa ha=>(Y5 hF ha).1) (λa ha=>(Y5 hF ha).2) (OQ hP hn hF).2.2 λc a hc ha=>?_⟩;have ia:=Qw hF ha;refine(J0 hc ia).trans ?_;rw[show(((Zd F a).toNat:Nat):Int)=Zd F a by have:=ia.1;omega,show(c.toNat:Int)=c by have:=hc.1;omega,LO hF ha]
end
abbrev fQ:SF:=lG
abbrev fA:SF:=lK
abbrev eQ:SF:=mK
abbrev ff:SF:=kj
abbrev ed:SF:=ml
abbrev eO:SF:=lX
abbrev fI:SF:=(zp false 7<|zZ dN)
abbrev eP:SF:=fW
abbrev cn:SF:=(zp false 7<|zS (xC K3) [none,some 5] y8 yx ny)
abbrev vD(P:PZ)(F:List Int)(n:Nat):D:=.lst ((List.range n).map λa:Nat=>zk<|sp P<|Fl F a)
abbrev A7(ns:List Int)(P:PZ)(n m:Nat)(F:List Int)(l:AS):AS:=sT (zk ns)::sI 0::sT (Qa P)::sI n::sI m::sT (zk F)::sT (vD P F n)::l
structure Hd(P:PZ)(n m:Nat)(F:List Int):Prop where
 p:Pt P
 nn:n=PN P
 m1:1<=m
 m6:m<=6
 z:∀p ∈ P,p.1=0->m=p.2
 f:F.Perm (Gz n)
def mY{as:AS}{P:PZ}(h:as[2]? = some (sT<|Qa P)):xC zF as=some (P.map λp=>(true,pD p),as):=Y3<|WD.e<|za h
def sQ{as:AS}{P:PZ}{fe:EF}{f:Int×Nat->Int}(hP:Pt P)(h:as[2]? = some (sT<|Qa P))(hf:∀p:Int×Nat,WD fe [sI p.1,sI p.2] true<|.int<|f p):WD (zh (aC zF<|aC (zS (xC zF) [none,none] (gT 2<|yG y8<|yG (gN 1) XM) yx fe) aN) xv) as true (.int<|ld P<|P.map f):=
 Sw (WD.e<|za h) (Pu<|Mw P (mY h) (by have:=hP.l2;omega) λp _=>⟨_,rfl,hf p⟩) (MR hP.k (zzB ..).symm)
def uM(ns:List Int):∃P n m F,Hd P n m F/\∀(g:SF) (d:D),Rt (g<|A7 ns P n m F [none,none,none,none,none,none,none,none,none,none]) d->Rt (ze fQ (ze fA<|ze eQ<|ze ff<|ze ed<|ze eO g) [sT<|zk ns,sI 0,none,none,none,none,none,none,none,none,none,none,none,none,none,none,none]) d:=by
 obtain⟨x0,hx0,w0⟩:=QM ns (k:=0) (by omega);obtain⟨x1,hx1,w1⟩:=QM ns (k:=1) (by omega);obtain⟨P,hP,rP⟩:=OW x0;have nN:=fL P;have n8:=hP.n8;have n1:=S3 hP.k;obtain⟨F,hF,rF⟩:=Iw n8;have s1:fQ [sT<|zk ns,sI 0,none,none,none,none,none,none,none,none,none,none,none,none,none,none,none]=some _:=yL (wF (WD.e<|w0 _ _ rfl<|za rfl) rP)<|zg rfl;have s2:fA [sT<|zk ns,sI 0,sT<|Qa P,none,none,none,none,none,none,none,none,none,none,none,none,none,none]=some (.nx [sT<|zk ns,sI 0,sT<|Qa P,sI<|PN P,none,none,none,none,none,none,none,none,none,none,none,none,none]):=by
  have w:=zK (sQ (as:=[sT<|zk ns,sI 0,sT<|Qa P,none,none,none,none,none,none,none,none,none,none,none,none,none,none]) (fe:=f2 zi zJ xt) hP rfl λp=>ZS (za rfl) zb)<|zb (x:=.int 1);rw[nN]at w;exact zG w<|zg rfl
 have q0:=zyN (x0/16) (show(4:Int)≠0 by decide);have q1:=zyH (x0/16) (show(0:Int)<4 by decide);obtain⟨m0,em⟩:∃k:Nat,(k:Int)=1+x0/16%4:=⟨(1+x0/16%4).toNat,by omega⟩;have s3:eQ [sT<|zk ns,sI 0,sT<|Qa P,sI<|PN P,none,none,none,none,none,none,none,none,none,none,none,none,none]=some (.nx [sT<|zk ns,sI 0,sT<|Qa P,sI<|PN P,sI m0,none,none,none,none,none,none,none,none,none,none,none,none]):=by
  have w:=zK (zb (x:=.int 1)) (zU (xi (w0 [sT<|zk ns,sI 0,sT<|Qa P,sI<|PN P,none,none,none,none,none,none,none,none,none,none,none,none,none] zi rfl<|za rfl) (zb (x:=.int 16)) (by decide)<|zz (by decide)<|by decide) (zb (x:=.int 4))<|by decide);rw[<-em]at w;exact zG w<|zg rfl
 obtain⟨m,m1,m6,mz,s4⟩:∃m:Nat,1<=m/\m<=6/\(∀p ∈ P,p.1=0->m=p.2)/\ff [sT<|zk ns,sI 0,sT<|Qa P,sI<|PN P,sI m0,none,none,none,none,none,none,none,none,none,none,none,none]=some (.nx [sT<|zk ns,sI 0,sT<|Qa P,sI<|PN P,sI m,none,none,none,none,none,none,none,none,none,none,none,none]):=by
  obtain _|⟨p,Q⟩:=P
  . exact absurd rfl hP.ne
  have wp:WD (f2 zF zV zx) [sT<|zk ns,sI 0,sT<|Qa (p::Q),sI<|PN (p::Q),sI m0,none,none,none,none,none,none,none,none,none,none,none,none] true (pD p):=yE (za rfl) (zb)<|Xu rfl;have tl:=hP.tl
  by_cases hz:p.1=0
  . have k:=hP.z6 p (zzF ..) hz;have k2:=hP.k p<|zzF ..;refine⟨p.2,by omega,k,λq mq e=>?_,y6 (eqT (zB wp zb rfl rfl) zb<|by rw[hz];rfl)<|zG (zB wp zb rfl rfl)<|zg rfl⟩
    rcases zzC.mp mq with rfl|mq
    . rfl
    . exact absurd e<|tl q mq
  . refine⟨m0,by omega,by omega,λq mq e=>?_,zq (eqT (zB wp zb rfl rfl) zb<|beq_eq_false_iff_ne.mpr hz) rfl⟩
    rcases zzC.mp mq with rfl|mq
    . exact absurd e hz
    . exact absurd e<|tl q mq
 have s5:ed [sT<|zk ns,sI 0,sT<|Qa P,sI<|PN P,sI m,none,none,none,none,none,none,none,none,none,none,none,none]=some _:=yL (xx (WD.e<|w1 _ _ rfl<|zK (za (x:=.int 0) rfl)<|zb) (WD.e<|za rfl) rF)<|zg rfl;have s6:eO [sT<|zk ns,sI 0,sT<|Qa P,sI<|PN P,sI m,sT<|zk F,none,none,none,none,none,none,none,none,none,none,none]=some (.nx<|A7 ns P (PN P) m F [none,none,none,none,none,none,none,none,none,none]):=by
  obtain⟨os,o1,o2,o3⟩:=Il (cap:=[none,some 2,some 5]) (gg:=gN 0) (List.range<|PN P) (uo (as:=[sT<|zk ns,sI 0,sT<|Qa P,sI<|PN P,sI m,sT<|zk F,none,none,none,none,none,none,none,none,none,none,none]) (zj (za (i:=3) rfl) zr)<|q0J n1 n8) (by rw[zyU];exact q0J n1 n8) λa ma=>by
   have ha:=List.mem_range.mp ma;rw[Int.zero_add];refine⟨_,rfl,xx (WD.e<|za (i:=1) rfl) (WD.e<|eW (i:=2) (j:=0) (by have:=(xQ hF).1.1;omega) ((xQ hF).2 a (q0a)<|q0h ha) rfl rfl) ⟨_,A_ hP.k (by have:=hP.l2;omega),XO _⟩⟩
  exact yL (p:=6) ⟨_,o1,o2,congrArg D.lst o3⟩<|zg rfl
 exact⟨P,PN P,m,F,⟨hP,rfl,m1,m6,mz,hF⟩,λg d h=>zc s1<|zc s2<|zc s3<|zc s4<|zc s5<|zc s6 h⟩
abbrev jc:SF:=(zp false 9<|zZ dN)
abbrev n_:SF:=jl
abbrev iN:SF:=ei
abbrev lS:SF:=(zp false 15<|zZ dN)
abbrev ix:SF:=fF
abbrev g_:SF:=kH
section
variable{ns F:List Int}{P:PZ}{n m:Nat}
def tq(h:Hd P n m F):∃os b,O.strs os=true/\O.toDs os=(E5 P F n).map zk/\∀(g:SF) (d:D),Rt (g<|A7 ns P n m F [sN os,b,none,none,none,none,none,none,none,none]) d->Rt (ze fI (ze eP<|ze cn g)<|A7 ns P n m F [none,none,none,none,none,none,none,none,none,none]) d:=by
 have n8:=h.p.n8;rw[<-h.nn]at n8;have l2:=h.p.l2;have s7:fI (A7 ns P n m F [none,none,none,none,none,none,none,none,none,none])=some _:=yV (wq yi<|VI rfl)<|zg rfl;obtain⟨b,hb⟩:=IQ (n:=n) (g:=gN 8) (f:=(yq<|vX 7 (dC (zS (xC ZE) [none,some 2,some 8] y8 yx _) dN) vM)) (S:=λos e=>A7 ns P n m F [sN os,e,none,none,none,none,none,none,none,none]) (it:=λa=>(true,zk<|sp P<|Fl F a)) (q0m n8) (λa ha os e hl=>⟨rfl,UL rfl (Mw (List.range n) (Y3<|WD.e<|za rfl) (by rw[zyU];exact q0k n8) λb mb=>⟨_,rfl,uq h.p.k l2⟩) rfl<|slt<|q0i hl⟩) none;have s8:eP (A7 ns P n m F [sN [],none,none,none,none,none,none,none,none,none])=some (.nx<|A7 ns P n m F [some<|Hc<|(List.range n).map<|tO P F n,b,none,none,none,none,none,none,none,none]):=by
  refine yn (Oz<|za rfl) ?_;rw[zyB];refine hb.trans ?_;show _=some (Out.nx<|A7 ns P n m F [sN _,b,none,none,none,none,none,none,none,none]);rw[zyB];rfl
 have hR:=(xQ h.f).1;obtain⟨os,o1,o2,o3⟩:=eC (i:=7) (as:=A7 ns P n m F [some<|Hc<|(List.range n).map<|tO P F n,b,none,none,none,none,none,none,none,none]) hR rfl (λd=>rfl) (by rw[zzB,zyU];exact q0m n8) (λr mr=>by
  obtain⟨a,ma,rfl⟩:=zxD.mp mr;have ha:=List.mem_range.mp ma;refine⟨by unfold tO;rw[zzB,zyU];exact q0m n8,λx mx=>?_⟩;obtain⟨b,mb,rfl⟩:=zxD.mp mx;exact rA h.p.k h.nn h.f ha<|List.mem_range.mp mb)
 exact⟨os,b,o2,o3,λg d hg=>zc s7<|zc s8<|zc (yV o1<|zg rfl) hg⟩
abbrev s_(P:PZ)(n m:Nat)(F:List Int)(p:Str×TZ):Prop:=Tab m n p.2/\LD n m (ym<|E5 P F n) (Zd F<|eX P) (ym p.2)
abbrev UF(ns:List Int)(P:PZ)(n m:Nat)(F:List Int)(o7:List O)(ss:List Str)(o9:List O)(b8 b11 b12 b13 b14 b15:Option O):AS:=A7 ns P n m F [sN o7,b8,sN o9,sT<|.lst<|ss.map D.str,b11,b12,b13,b14,b15,none]
def Jq{o7:List O}{b:Option O}(h:Hd P n m F):∃ss o9 Ds b8 b11 b12 b13 b14,ss.length=7/\ss.Nodup/\Ows wb (s_ P n m F) o9 Ds/\1<=Ds.length/\Ds.length<=4/\Ds.map (·.1)=(List.range Ds.length).map (λj=>(ss[j]?).getD ("":Str))/\∀(g:SF) (d:D),Rt (g<|UF ns P n m F o7 ss o9 b8 b11 b12 b13 b14 none) d->Rt (ze jc (ze n_<|ze iN g)<|A7 ns P n m F [sN o7,b,none,none,none,none,none,none,none,none]) d:=by
 have n8:=h.p.n8;rw[<-h.nn]at n8;have l2:=h.p.l2;have m6:=h.m6;have hR:=(xQ h.f).1;obtain⟨x2,_,w2⟩:=QM ns (k:=2) (by omega);obtain⟨x3,_,w3⟩:=QM ns (k:=3) (by omega);obtain⟨ss,sl,sn,rs⟩:=Ba x2 (mn:=7) (by omega);have sg:∀i,i<7->ss[i]? = some ((ss[i]?).getD ("":Str)):=λi hi=>by rw[zzE<|q1G hi sl];rfl
 have s10:jc (A7 ns P n m F [sN o7,b,none,none,none,none,none,none,none,none])=some (.nx<|A7 ns P n m F [sN o7,b,sN [],none,none,none,none,none,none,none]):=yV (i:=9) (wq yi<|VI rfl)<|zg rfl;have s11:n_ (A7 ns P n m F [sN o7,b,sN [],none,none,none,none,none,none,none])=some (.nx<|UF ns P n m F o7 ss [] b none none none none none):=yL (p:=10) (xx (WD.e<|w2 _ _ rfl<|zK (za (i:=1) (x:=.int 0) (s:=true) rfl)<|zb (x:=.int 2)) (WD.e<|zb (x:=.int 7)) rs)<|zg rfl;have q0:=zyN x3 (show(4:Int)≠0 by decide);have q1:=zyH x3 (show(0:Int)<4 by decide);obtain⟨k,ek⟩:∃k:Nat,(k:Int)=1+x3%4:=⟨(1+x3%4).toNat,by omega⟩;obtain⟨as',hl,o9,Ds,b11,b12,b13,b14,rfl,hO,hN,hK⟩:=yW (g:=gN 11)
  (λi as=>∃(o9:List O) (Ds:DD) (b11 b12 b13 b14:Option O),as=UF ns P n m F o7 ss o9 b b11 b12 b13 b14 none/\Ows wb (s_ P n m F) o9 Ds/\Ds.map (·.1)=(List.range i).map (λj=>(ss[j]?).getD ("":Str))/\Ds.length=i) (y4 0 k) 0 (UF ns P n m F o7 ss [] b none none none none none) (λi y as hy hI=>by
   obtain⟨o9,Ds,b11,b12,b13,b14,rfl,hO,hN,hK⟩:=hI;obtain⟨rfl,hi⟩:=xk hy;rw[zyX]at hN hK ⊢;rw[Int.zero_add];obtain⟨x,_,wx⟩:=QM ns (k:=4+i) (by omega);have t1:zp true 12 kg (UF ns P n m F o7 ss o9 b (sI i) b12 b13 b14 none)=some (.nx<|UF ns P n m F o7 ss o9 b (sI i) (sI x) b13 b14 none):=by
    have w:=zK (zK (za (as:=UF ns P n m F o7 ss o9 b (sI i) b12 b13 b14 none) (i:=1) (x:=.int 0) (s:=true) rfl)<|zb (x:=.int 4))<|za (i:=11) (x:=.int i) (s:=true) rfl;rw[show(0:Int)+4+(i:Int)=((4+i:Nat):Int) by omega]at w;exact zG (i:=12) (wx _ _ rfl w)<|zg rfl
   have t2:zp false 13 (zZ dN) (UF ns P n m F o7 ss o9 b (sI i) (sI x) b13 b14 none)=some (.nx<|UF ns P n m F o7 ss o9 b (sI i) (sI x) (sN []) b14 none):=yV (i:=13) (wq yi<|VI rfl)<|zg rfl;obtain⟨e,he⟩:=IQ (n:=m) (g:=gN 14) (f:=(yq<|vX 13 (dC (zS (xC ZE) [none,some 2,some 12,some 14] y8 yx _) dN) vM)) (S:=λos e=>UF ns P n m F o7 ss o9 b (sI i) (sI x) (sN os) e none) (it:=λc:Nat=>(true,D.int<|0+(c:Int))) (w:=λc=>sI c) (q0K m6) (λc hc os e hl=>by
    rw[Int.zero_add];exact⟨rfl,UL (os:=os) (i:=13) rfl (Mw (List.range n) (Y3<|WD.e<|za (i:=6) rfl) (by rw[zyU];exact q0k n8) λa ma=>⟨_,rfl,kQ h.p.k l2 (SJ hc) m6⟩) rfl<|slt<|q0i hl⟩) b14
   have t3:yJ (yB (aC yh aN) yO) (gN 14) mJ (UF ns P n m F o7 ss o9 b (sI i) (sI x) (sN []) b14 none)=some (.nx<|UF ns P n m F o7 ss o9 b (sI i) (sI x) (some<|Hc<|(List.range m).map<|IP P F n x) e none):=by
    refine yn (uo (zj (za (i:=4) rfl) zr)<|q0M m6)<|he.trans ?_;show _=some (Out.nx<|UF ns P n m F o7 ss o9 b (sI i) (sI x) (sN _) e none);rw[zyB];rfl
   obtain⟨os,o1,o2,o3⟩:=eC (n:=n) (F:=F) (i:=13) (as:=UF ns P n m F o7 ss o9 b (sI i) (sI x) (some<|Hc<|(List.range m).map<|IP P F n x) e none) hR rfl (λd=>rfl) (by rw[zzB,zyU];exact q0K m6) (λr mr=>by
    obtain⟨c,mc,rfl⟩:=zxD.mp mr;have hc:=List.mem_range.mp mc;refine⟨by unfold IP;rw[zzB,zyU];exact q0m n8,λy my=>?_⟩;obtain⟨a,ma,rfl⟩:=zxD.mp my;exact sL h.p.k h.nn h.m1 h.z h.f hc<|List.mem_range.mp ma)
   have wt:WE _ (UF ns P n m F o7 ss o9 b (sI i) (sI x) (some<|Hc<|(List.range m).map<|IP P F n x) e none) (wb ((ss[i]?).getD ("":Str),qE P F n m x)):=yp (WD.e<|zB (za (i:=10) (s:=true) rfl) (za (i:=11) (x:=.int i) (s:=true) rfl) (Xu<|sg i<|by omega) rfl) ⟨_,o1,o2,congrArg D.lst o3⟩;obtain⟨os',p1,p2⟩:=IH (i:=9) (os:=o9) (l:=Ds) rfl hO (by omega) wt<|Dj h.p.k h.nn h.m1 h.z h.f;exact⟨_,rfl,_,zo t1<|zo t2<|zo t3 p2,os',_,_,_,_,_,rfl,p1,by rw[zyM,hN,List.range_succ,zyM];rfl,by rw[zzJ,hK];rfl⟩)
  ⟨[],[],none,none,none,none,rfl,Ows.nil,rfl,rfl⟩
 rw[yY,zyX]at hN hK;have hr:=xf (as:=UF ns P n m F o7 ss [] b none none none none none) (zj (zK (zb (x:=.int 1))<|zU (w3 _ _ rfl<|zK (za (i:=1) (x:=.int 0) (s:=true) rfl)<|zb (x:=.int 3)) (zb (x:=.int 4))<|by decide) zr) (by omega) (by omega);rw[<-ek,zyI]at hr;exact⟨ss,o9,Ds,b,b11,b12,b13,b14,sl,sn,hO,by omega,by omega,by rw[hK];exact hN,λg d hg=>zc s10<|zc s11<|zc (yn hr hl) hg⟩
end
section
variable{ns F:List Int}{P:PZ}{n m:Nat}
def dq:∀i:Nat,i<8->∃k:Int,0<k/\k<1000/\zx (zk [1,2,4,8,16,32,64,128]) (.int (i:Int))=some (.im<|.int k)
 |0,_=>⟨1,by decide,by decide,rfl⟩
 |1,_=>⟨2,by decide,by decide,rfl⟩
 |2,_=>⟨4,by decide,by decide,rfl⟩
 |3,_=>⟨8,by decide,by decide,rfl⟩
 |4,_=>⟨16,by decide,by decide,rfl⟩
 |5,_=>⟨32,by decide,by decide,rfl⟩
 |6,_=>⟨64,by decide,by decide,rfl⟩
 |7,_=>⟨128,by decide,by decide,rfl⟩
 |i+8,h=>absurd h (by omega)
def l8{as:AS}{a b c d e f g h:Int}:WE (zZ<|dC (fC<|.int a)<|dC (fC<|.int b)<|dC (fC<|.int c)<|dC (fC<|.int d)<|dC (fC<|.int e)<|dC (fC<|.int f)<|dC (fC<|.int g)<|dC (fC<|.int h) dN) as (zk [a,b,c,d,e,f,g,h]):=Zq (zu zb<|zu zb<|zu zb<|zu zb<|zu zb<|zu zb<|zu zb<|zu zb yi) (VI rfl) rfl rfl
def HW{as:AS}{fi:IF}{cap:List (Option Nat)}{gg:GF}{tt:TF}{fe:EF}{it:Nat->wK}(l:List Nat)(h1:fi as=some (l.map it,as))(hl:l.length<=1000000)(H:∀q ∈ l,∃as1 t,gg (it q) (Z6 cap as)=some as1/\WT tt as1 t/\WE fe as1 (.int q)):∃r:List Int,WE (zS fi cap gg tt fe) as (zk r):=by
 have:∃p:Nat->Bool,∀q ∈ l,∃as1,gg (it q) (Z6 cap as)=some as1/\WT tt as1 (p q)/\WE fe as1 (.int q):=by
  refine⟨λq=>((gg (it q)<|Z6 cap as).bind tt).elim false (·.1),λq mq=>?_⟩;obtain⟨as1,t,h1,h2,h3⟩:=H q mq;refine⟨as1,h1, ?_,h3⟩;show WT tt as1 (((gg _ _).bind tt).elim false _);rw[h1];unfold WT at h2 ⊢;show _=some ((tt as1).elim false _,as1);rw[h2];rfl
 obtain⟨p,hp⟩:=this;have w:=Sb l h1 hl λq mq=>by
  obtain⟨as1,h1,h2,h3⟩:=hp q mq;exact⟨as1,h1,h2,λ_=>h3⟩
 refine⟨(l.filter p).map λq:Nat=>q, ?_⟩;show WE _ _ (D.lst _);rw[zyB];exact w
def JR{o7 o9:List O}{ss:List Str}{b8 b11 b12 b13 b14:Option O}(h:Hd P n m F)(sl:ss.length=7):∃o15 S c11 c12,Ows Lk (λ_=>True) o15 S/\1<=S.length/\S.length<=3/\S.map (·.1)=(List.range S.length).map (λj=>(ss[4+j]?).getD ("":Str))/\∀(g:SF) (d:D),Rt (g<|UF ns P n m F o7 ss o9 b8 c11 c12 b13 b14<|sN o15) d->Rt (ze lS (ze ix g)<|UF ns P n m F o7 ss o9 b8 b11 b12 b13 b14 none) d:=by
 have n8:=h.p.n8;rw[<-h.nn]at n8;obtain⟨x3,_,w3⟩:=QM ns (k:=8) (by omega);have sg:∀i,i<7->ss[i]? = some ((ss[i]?).getD ("":Str)):=λi hi=>by rw[zzE<|q1G hi sl];rfl
 have s13:lS (UF ns P n m F o7 ss o9 b8 b11 b12 b13 b14 none)=some (.nx<|UF ns P n m F o7 ss o9 b8 b11 b12 b13 b14<|sN []):=yV (i:=15) (wq yi<|VI rfl)<|zg rfl;have q0:=zyN x3 (show(3:Int)≠0 by decide);have q1:=zyH x3 (show(0:Int)<3 by decide);obtain⟨k,ek⟩:∃k:Nat,(k:Int)=1+x3%3:=⟨(1+x3%3).toNat,by omega⟩;obtain⟨as',hl,o15,S,c11,c12,rfl,hO,hN,hK⟩:=yW (g:=gN 11)
  (λi as=>∃(o15:List O) (S:SS) (b11 b12:Option O),as=UF ns P n m F o7 ss o9 b8 b11 b12 b13 b14 (sN o15)/\Ows Lk (λ_=>True) o15 S/\S.map (·.1)=(List.range i).map (λj=>(ss[4+j]?).getD ("":Str))/\S.length=i) (y4 0 k) 0 (UF ns P n m F o7 ss o9 b8 b11 b12 b13 b14<|sN []) (λi y as hy hI=>by
   obtain⟨o15,S,b11,b12,rfl,hO,hN,hK⟩:=hI;obtain⟨rfl,hi⟩:=xk hy;rw[zyX]at hN hK ⊢;rw[Int.zero_add];obtain⟨x,_,wx⟩:=QM ns (k:=9+i) (by omega);have t1:zp true 12 lr (UF ns P n m F o7 ss o9 b8 (sI i) b12 b13 b14<|sN o15)=some (.nx<|UF ns P n m F o7 ss o9 b8 (sI i) (sI<|x/7) b13 b14<|sN o15):=by
    have w:=zK (zK (za (as:=UF ns P n m F o7 ss o9 b8 (sI i) b12 b13 b14<|sN o15) (i:=1) rfl)<|zb (x:=.int 9))<|za (i:=11) rfl;rw[show(0:Int)+9+(i:Int)=((9+i:Nat):Int) by omega]at w;exact zG (i:=12) (xi (wx _ _ rfl w) (zb) (by decide)<|zz (by decide)<|by decide)<|zg rfl
   obtain⟨r,wr⟩:=HW (as:=UF ns P n m F o7 ss o9 b8 (sI i) (sI<|x/7) b13 b14<|sN o15) (cap:=[none,some 12]) (gg:=gN 0) (tt:=(fT<|f2 (f2 _ yN zM) zJ<|zy .Eq)) (List.range n) (uo (zj (za (i:=3) rfl) zr)<|q0k n8) (by rw[zyU];exact q1Q n8) λq mq=>by
    have hq:=List.mem_range.mp mq;rw[Int.zero_add];obtain⟨z,z0,z1,ez⟩:=dq q (by omega);exact⟨[sI q,sI<|x/7],_,rfl,eqT (zU (xi (za (i:=1) rfl) (OU l8 (WD.e<|za (i:=0) rfl) ez) z0<|zz (by omega)<|by omega) zb<|by decide) zb rfl,WD.e<|za (i:=0) rfl⟩
   have wn:WD (f2 (fV 10) (f2 Zw WY zt) zx) (UF ns P n m F o7 ss o9 b8 (sI i) (sI<|x/7) b13 b14<|sN o15) true (.str<|(ss[4+i]?).getD ("":Str)):=by
    have w:=zK (zb (x:=.int 4))<|za (as:=UF ns P n m F o7 ss o9 b8 (sI i) (sI<|x/7) b13 b14<|sN o15) (i:=11) rfl;rw[show(4:Int)+(i:Int)=((4+i:Nat):Int) by omega]at w;exact zB (za (i:=10) rfl) w (Xu<|sg (4+i)<|by omega) rfl
   obtain⟨os',p1,p2⟩:=IH (i:=15) (os:=o15) (l:=S) (x:=((ss[4+i]?).getD ("":Str),r)) rfl hO (by omega) (yp (WD.e wn) wr) True.intro;exact⟨_,rfl,_,zo t1 p2,os',_,_,_,rfl,p1,by rw[zyM,hN,List.range_succ,zyM];rfl,by rw[zzJ,hK];rfl⟩)
  ⟨[],[],b11,b12,rfl,Ows.nil,rfl,rfl⟩
 rw[yY,zyX]at hN hK;have hr:=xf (as:=UF ns P n m F o7 ss o9 b8 b11 b12 b13 b14<|sN []) (zj (zK (zb (x:=.int 1))<|zU (w3 _ _ rfl<|zK (za (i:=1) (x:=.int 0) (s:=true) rfl)<|zb (x:=.int 8)) (zb (x:=.int 3))<|by decide) zr) (by omega) (by omega);rw[<-ek,zyI]at hr;exact⟨o15,S,c11,c12,hO,by omega,by omega,by rw[hK];exact hN,λg d hg=>zc s13<|zc (yn hr hl) hg⟩
def J6{ss:List Str}(nd:ss.Nodup){i j:Nat}(hi:i<ss.length)(hj:j<ss.length)(e:ss[i]=ss[j]):i=j:=by
 have p:=List.pairwise_iff_getElem.mp nd
 rcases Nat.lt_trichotomy i j with h|h|h
 . exact absurd e<|p i j hi hj h
 . exact h
 . exact absurd e.symm<|p j i hj hi h
def EL{ss:List Str}{k a:Nat}(nd:ss.Nodup)(hk:a+k<=ss.length):((List.range k).map λj=>(ss[a+j]?).getD ("":Str)).Nodup:=by
 refine List.pairwise_map.mpr<|(List.nodup_range).imp_of_mem λ{i j} mi mj hne he=>hne ?_;have hi:=List.mem_range.mp mi;have hj:=List.mem_range.mp mj;rw[zzE (show a+i<ss.length from q0B hk hi),zzE (show a+j<ss.length from q0B hk hj)]at he;have:=J6 nd (show a+i<ss.length from q0B hk hi) (show a+j<ss.length from q0B hk hj) he;omega
structure Cx.Gd(c:Cx):Prop where
 ok:c.Ok
 sl:c.S.length<=4
 sn:(c.S.map (·.1)).Nodup
 dd:1<=c.Ds.length
def S6(ns:List Int):∃c:Cx,c.Gd/\RE (Zl [(true,zk ns),(true,.int 0)]) c.g:=by
 obtain⟨P,n,m,F,h,g1⟩:=uM ns;obtain⟨o7,b,j1,j2,g2⟩:=tq h;obtain⟨ss,o9,Ds,b8,b11,b12,b13,b14,sl,sn,hD,d1,d4,dn,g3⟩:=Jq h;obtain⟨o15,S,c11,c12,hS,s1,s3,sm,g4⟩:=JR h sl;obtain⟨tJ,lJ,qJ⟩:=OQ h.p.k h.nn h.f;have hR:=(xQ h.f).1;have e0:=(nB h.p.k).ce;rw[<-h.nn]at e0;have n8:=h.p.n8;have n1:=S3 h.p.k;rw[<-h.nn]at n8 n1;let Z:=UF ns P n m F o7 ss o9 b8 c11 c12 b13 b14<|sN o15;have s15:g_ Z=some (.nx<|A7 ns P n m F [sN o7,b8,sN o9,sT<|.lst<|ss.map D.str,c11,c12,b13,b14,sN o15,sI<|Zd F<|eX P]):=by
  have w:=sQ (as:=Z) h.p rfl λp=>by
   have w:=yr (as:=[sI p.1,sI p.2]) (g:=My) (zj (Re (za (i:=0) rfl) (zb (x:=.int 3)) rfl) zr) rfl rfl
   rwa [show(if(p.1==3)=true then(1:Int)else 0)=eK p.1 by unfold eK;by_cases h:p.1=3<;>simp[h]]at w
  rw[eI]at w;exact zG (zB (za rfl) w (rowAt hR e0).1 rfl)<|zg rfl
 have wr:lD (A7 ns P n m F [sN o7,b8,sN o9,sT<|.lst<|ss.map D.str,c11,c12,b13,b14,sN o15,sI<|Zd F<|eX P])=some (_,_):=
  xW (za rfl) (xW (za rfl)<|K_ rfl<|xW (za rfl)<|K_ rfl<|K_ rfl rfl)
 have hfin:=Oe wr<|VI rfl;have hf7:(O.nd .ls o7).frz = .lf true (xp<|E5 P F n):=by
  show O.lf (O.strs o7) (.lst<|O.toDs o7)=_;rw[j1,j2]
 rw[hf7,hD.frz,hS.frz]at hfin;have rt:=GO hfin rfl;have nd1:(Ds.map (·.1)).Nodup:=by
  rw[dn];have:=EL (k:=Ds.length) (a:=0) sn (by omega);simp only[zyX]at this;exact this
 have nd2:(S.map (·.1)).Nodup:=by
  rw[sm];exact EL sn (by omega)
 exact⟨⟨n,m,E5 P F n,Zd F<|eX P,Ds,S⟩,⟨⟨⟨n1,n8,h.m1,h.m6,tJ,(rowAt hR e0).2.1,(rowAt hR e0).2.2,by show Ds.length<=6;omega,λp mp=>(hD.al p mp).1,nd1⟩,⟨lJ,λp mp=>(hD.al p mp).2⟩⟩,by show S.length<=4;omega,nd2,d1⟩,zL rfl<|g1 _ _<|g2 _ _<|g3 _ _<|g4 _ _<|zc s15 ⟨_,rt,rfl,rfl⟩⟩
end
abbrev dO:SF:=(zp true 1 ik)
abbrev fZ:SF:=kM
abbrev fN:SF:=(zp true 3<|f2 zE zJ zt)
abbrev et:SF:=(zp true 4<|f2 yh zJ zt)
abbrev eN:SF:=l9
abbrev cf:SF:=kJ
abbrev dP:SF:=kP
abbrev dF:SF:=(zp false 11<|zZ dN)
abbrev cb:SF:=eD
abbrev iO:SF:=(zp false 14<|zZ dN)
abbrev gk:SF:=fK
def tR{ds:List Int}{a n:Nat}(h:a+n<=ds.length):QE (zk ds) (some (a:Int)) (some ((a+n:Nat):Int))=some (.fl<|((ds.drop a).take n).map D.int):=by
 show some _=_
 congr 2
 unfold PF.cutD;rw[HT.WB,HT.WB,zzB,Nat.min_eq_left h,Nat.min_eq_left (show a<=ds.length by omega),<-List.map_drop,<-List.map_take,Nat.add_sub_cancel_left]
def si{ds:List Int}{a n N:Nat}(h:a+n<=ds.length)(hd:∀x ∈ ds,zO N x)(e:n=N):Row N ((ds.drop a).take n):=by
 refine⟨by rw[zzS,List.length_drop];omega,λx m=>hd x<|List.mem_of_mem_drop<|List.mem_of_mem_take m⟩
def h_{f fl fh:EF}{as:AS}{ds:List Int}{a n:Nat}{lo hi:Int}(h:a+n<=ds.length)(hf:WD f as true (zk ds))(h1:WD fl as true (.int lo))(h2:WD fh as true (.int hi))(e1:lo=(a:Int))(e2:hi=((a+n:Nat):Int)):WE (WR f (oS fl) (oS fh) QE) as (zk<|(ds.drop a).take n):=by
 subst e1 e2;exact uI (WD.e hf) (Sg h1) (Sg h2)<|tR h
def DU{xs:List D}{k:Int}(h : -(2 ^ 63)<=k/\k<2 ^ 63/\xs.length*k.toNat<=sizeLine):Yq .Mult (.lst xs) (.int k)=some (.fl (List.replicate k.toNat xs).flatten):=if_pos h
def JL{as:AS}{a b:EF}{x:Int}{k:Nat}(ha:WD a as true (.int x))(hb:WD b as true (.int (k:Int)))(hk:k<=900):WE (f2 (zZ<|dC a dN) b zR) as (zk<|List.replicate k x):=by
 refine JJ (Zq (zu ha yi) (VI rfl) rfl rfl) (WD.e hb) ?_;show Yq .Mult (.lst [D.int x]) _=_;rw[DU ⟨by omega,by omega,by rw[zyI];exact OP (by show 1*k<=_;omega)⟩,zyI,List.flatten_replicate_singleton,List.map_replicate]
abbrev cy:EF:=WR zi (oS<|f2 zF zm zR) (oS<|f2 (f2 zF zm zR) zF zt) QE
def rT{as:AS}{j n k:Nat}{cap:List (Option Nat)}{ds:List Int}(n8:n<=8)(k8:k<=8)(hc:∀b:Int,gN 0 (true,.int b) (Z6 cap as)=some [sI b,sT<|zk ds,sI n])(hr:as[j]? = some (sI k))(hl:ds.length=n*k)(hd:∀x ∈ ds,zO n x):∃T:TZ,Tab k n T/\WE (zS (yB (aC (fV j) aN) yO) cap y8 yx cy) as (xp T):=by
 obtain⟨T,t1,t2,t3⟩:=qT zk (zj (za hr) zr) (q0k k8) λb b0 b1=>by
  have ha:n*b.toNat+n<=n*k:=by rw[<-Nat.mul_succ];exact Nat.mul_le_mul_left n (by omega)
  have eb:(b.toNat:Int)=b:=q1i b0
  have w:WD (f2 zF zm zR) [sI b,sT<|zk ds,sI n] true _:=y7 (za rfl) (za rfl) (zz (by omega)<|by omega) (zz (by omega)<|by omega);refine⟨_,_,hc b,h_ (a:=n*b.toNat) (q2l ha hl) (za (i:=1) rfl) w (zK w<|za (i:=2) rfl) (by rw[zzV,eb]) (by rw[Int.natCast_add,zzV,eb]),si (q2l ha hl) hd rfl⟩
 exact⟨T,⟨t1,t2⟩,t3⟩
def Jl{ns:List Int}:∃r:List Int,r.length<=12/\QE (zk ns) none (some 12)=some (.fl<|r.map D.int):=by
 refine⟨ns.take<|min 12 ns.length,by rw[zzS];omega, ?_⟩;show some (R0.fl<|PF.cutD _ none<|some ((12:Nat):Int))=_
 congr 2
 unfold PF.cutD;rw[HT.WB,HT.K0,zzB,List.drop_zero,Nat.sub_zero,<-List.map_take]
def ud{f:EF}{as:AS}{r:List Int}(h:WE f as (zk r)):WD (fP (aC f aN) xq) as true (.int r.length):=by
 have:=Ho (g:=xq) h rfl
 rwa [zzB]at this
def IW{ns:List Int}{as:AS}(h:as[0]? = some (sT<|zk ns)):∃cs:List Int,cs.length=12/\WE ik as (zk cs):=by
 obtain⟨r,hr,e⟩:=Jl;have ws:WE (WR zm oN _ QE) as (zk r):=PR (za h) rfl (Sg zb) e;have w1:=Pu<|Mw (cap:=[none]) (gg:=gN 0) r (Y3 ws) (by omega) λx _=>⟨_,rfl,za (i:=0) rfl⟩;rw[List.map_id']at w1;have w2:WD l_ as true (.int ((12-r.length:Nat):Int)):=by
  have:=ZS (zb (x:=.int 12))<|ud ws
  rwa [show 12-r.length=((12-r.length:Nat):Int) by omega]at this
 refine⟨r++List.replicate (12-r.length) 0,by rw[zzJ,List.length_replicate];omega, ?_⟩;refine JJ w1 (JL zb w2<|by omega) ?_;rw[zyM];exact if_pos (by rw[zzB,zzB,List.length_replicate];exact OP<|by omega)
section
variable{ns cs:List Int}{o z:Int}{n m k s:Nat}
abbrev B8(ns cs:List Int)(o:Int)(n m k s:Nat)(z:Int)(l:AS):AS:=sT (zk ns)::sT (zk cs)::sI o::sI n::sI m::sI k::sI s::sI z::l
abbrev Fu(ns cs:List Int)(o:Int)(n m k s:Nat)(z:Int)(ss:List Str)(b9:Option O)(J:TZ)(o11:List O)(b12 b13 b14 b15:Option O):AS:=B8 ns cs o n m k s z [sT<|.lst<|ss.map D.str,b9,sT<|xp J,sN o11,b12,b13,b14,b15]
structure Bd(cs:List Int)(n m k s:Nat):Prop where
 c:cs.length=12
 n1:1<=n
 n8:n<=8
 m1:1<=m
 m6:m<=6
 k6:k<=6
 s4:s<=4
def nV(ns:List Int):∃cs o n m k s z ss b9 J,Bd cs n m k s/\ss.length=10/\ss.Nodup/\Tab n n J/\0<=z/\∀(g:SF) (d:D),Rt (g<|Fu ns cs o n m k s z ss b9 J [] none none none none) d->Rt (ze dO (ze fZ<|ze fN<|ze et<|ze eN<|ze cf<|ze dP<|ze dF g) [sT<|zk ns,none,none,none,none,none,none,none,none,none,none,none,none,none,none,none]) d:=by
 obtain⟨cs,hc,wc⟩:=IW (as:=[sT<|zk ns,none,none,none,none,none,none,none,none,none,none,none,none,none,none,none]) rfl;have s1:=yL (p:=1) wc<|zg rfl;obtain⟨c,w0⟩:=Zy (as:=[sT<|zk ns,sT<|zk cs,none,none,none,none,none,none,none,none,none,none,none,none,none,none]) (za (i:=1) rfl) (zb (x:=.int 0)) (by omega) (by omega);have wd:WE _ [sT<|zk ns,sT<|zk cs,none,none,none,none,none,none,none,none,none,none,none,none,none,none] (zk [c%2,c/2%8,c/2/8%6,c/2/8/6%7,c/2/8/6/7%5,c/2/8/6/7/5%8]):=Hl (sz:=[2,8,6,7,5,8]) (by decide) (by decide) (WD.e w0)<|Zq (zu zb<|zu zb<|zu zb<|zu zb<|zu zb<|zu zb yi) (VI rfl) rfl rfl;have bd:∀(x y:Int),0<y->∃r:Nat,(r:Int)=x%y/\(r:Int)<y:=λx y hy=>by
  have:=zyN x (show y≠0 from q1u hy);have:=zyH x hy;exact⟨(x%y).toNat,by omega,by omega⟩
 obtain⟨n',en,n8⟩:=bd (c/2) 8 (by decide);obtain⟨m',em,m8⟩:=bd (c/2/8) 6 (by decide);obtain⟨k,ek,k8⟩:=bd (c/2/8/6) 7 (by decide);obtain⟨s,es,s8⟩:=bd (c/2/8/6/7) 5 (by decide);obtain⟨z,ez,z8⟩:=bd (c/2/8/6/7/5) 8 (by decide);rw[<-en,<-em,<-ek,<-es,<-ez]at wd;generalize c%2=o at wd;have s2:fZ [sT<|zk ns,sT<|zk cs,none,none,none,none,none,none,none,none,none,none,none,none,none,none]=some _:=SD wd rfl;have s3:fN [sT<|zk ns,sT<|zk cs,sI o,sI n',sI m',sI k,sI s,sI z,none,none,none,none,none,none,none,none]=some _:=zG (zK (za (i:=3) rfl)<|zb)<|zg rfl;have s4:et [sT<|zk ns,sT<|zk cs,sI o,sI ((n'+1:Nat):Int),sI m',sI k,sI s,sI z,none,none,none,none,none,none,none,none]=some _:=zG (i:=4) (zK (za (i:=4) rfl)<|zb)<|zg rfl;have n9:n'+1<=8:=by omega
 have nn:=Nat.mul_le_mul n9 n9;obtain⟨x,_,wx⟩:=QM ns (k:=12) (by omega);obtain⟨ss,sl,sn,rs⟩:=Ba x (mn:=10) (by omega);have s5:eN (B8 ns cs o (n'+1) (m'+1) k s z [none,none,none,none,none,none,none,none])=some _:=yL (p:=8) (xx (WD.e<|wx _ _ rfl<|zb) (WD.e<|zb) rs)<|zg rfl;obtain⟨c1,w1⟩:=Zy (as:=B8 ns cs o (n'+1) (m'+1) k s z [sT<|.lst<|ss.map D.str,none,none,none,none,none,none,none]) (za (i:=1) rfl) (zb (x:=.int 1)) (by omega) (by omega);have wm:=y7 (za (as:=B8 ns cs o (n'+1) (m'+1) k s z [sT<|.lst<|ss.map D.str,none,none,none,none,none,none,none]) (i:=3) rfl) (za (i:=3) rfl) (zz (q2q en em ek es ez)<|q2t en em ek es ez)<|zz (q2q en em ek es ez)<|q2t en em ek es ez;rw[<-zzV]at wm;have s6:=yL (p:=9) (Hl (λy my=>by rw[List.eq_of_mem_replicate my];omega) (by rw[List.length_replicate];exact q1M nn) (WD.e w1)<|JL (za (i:=3) rfl) wm<|q1M nn)<|zg rfl;obtain⟨J,tJ,wJ⟩:=rT (as:=B8 ns cs o (n'+1) (m'+1) k s z [sT<|.lst<|ss.map D.str,sT<|zk<|dg c1 _,none,none,none,none,none,none]) (j:=3) (cap:=[none,some 9,some 3]) n9 n9 (λb=>rfl) rfl (by rw[Kb,List.length_replicate])<|Oa (q2r en em ek es ez) _ _;have s7:=yL (p:=10) wJ<|zg rfl;exact⟨cs,o,n'+1,m'+1,k,s,z,ss,_,J,⟨hc,q2r en em ek es ez,n9,by omega,by omega,by omega,by omega⟩,sl,sn,tJ,by omega,λg d h=>zc s1<|zc s2<|zc s3<|zc s4<|zc s5<|zc s6<|zc s7<|zc (yV (wq yi<|VI rfl)<|zg rfl) h⟩
end
section
variable{ns cs:List Int}{o z:Int}{n m k s:Nat}{ss:List Str}{b9:Option O}{J:TZ}
def oP(h:Bd cs n m k s)(sl:ss.length=10):∃o11 Ds b12 b13,Ows wb (λp=>Tab m n p.2) o11 Ds/\Ds.length=k/\Ds.map (·.1)=(List.range k).map (λj=>(ss[j]?).getD ("":Str))/\cb (Fu ns cs o n m k s z ss b9 J [] none none none none)=some (.nx<|Fu ns cs o n m k s z ss b9 J o11 b12 b13 none none):=by
 have n1:=h.n1;have n8:=h.n8;have m6:=h.m6;have k6:=h.k6;have hc:=h.c;have nm:=Nat.mul_le_mul n8 m6;have sg:∀i,i<10->ss[i]? = some ((ss[i]?).getD ("":Str)):=λi hi=>by rw[zzE<|q1J hi sl];rfl
 obtain⟨as',hl,o11,Ds,b12,b13,rfl,hO,hN,hK⟩:=yW (g:=gN 12)
  (λi as=>∃(o11:List O) (Ds:DD) (b12 b13:Option O),as=Fu ns cs o n m k s z ss b9 J o11 b12 b13 none none/\Ows wb (λp=>Tab m n p.2) o11 Ds/\Ds.map (·.1)=(List.range i).map (λj=>(ss[j]?).getD ("":Str))/\Ds.length=i) (y4 0 k) 0 _ (λi y as hy hI=>by
   obtain⟨o11,Ds,b12,b13,rfl,hO,hN,hK⟩:=hI;obtain⟨rfl,hi⟩:=xk hy;rw[zyX]at hN hK ⊢;rw[Int.zero_add];obtain⟨c,wc⟩:=Zy (as:=Fu ns cs o n m k s z ss b9 J o11 (sI i) b13 none none) (za (i:=1) rfl) (zK (zb (x:=.int 2))<|za (i:=12) (s:=true) rfl) (by omega) (by omega);have wm:=y7 (za (as:=Fu ns cs o n m k s z ss b9 J o11 (sI i) b13 none none) (i:=3) rfl) (za (i:=4) rfl) (zz (q0W n1 n8)<|q0Y n1 n8) (zz (by omega)<|by omega);rw[<-zzV]at wm;have t1:=yL (p:=13) (Hl (λy my=>by rw[List.eq_of_mem_replicate my];exact q2o n1 n8) (by rw[List.length_replicate];exact q1C nm) (WD.e wc)<|JL (za (i:=3) rfl) wm<|q1C nm)<|zg rfl;obtain⟨T,tT,wT⟩:=rT (as:=Fu ns cs o n m k s z ss b9 J o11 (sI i) (sT<|zk<|dg c _) none none) (j:=4) (cap:=[none,some 13,some 3]) n8 (by omega) (λb=>rfl) rfl (by rw[Kb,List.length_replicate])<|Oa n1 _ _;obtain⟨os',p1,p2⟩:=IH (i:=11) (x:=((ss[i]?).getD "",T)) rfl hO (by omega) (yp (WD.e<|zB (za (i:=8) rfl) (za (i:=12) rfl) (Xu<|sg i<|by omega) rfl) wT) tT;exact⟨_,rfl,_,zo t1 p2,os',_,_,_,rfl,p1,by rw[zyM,hN,List.range_succ,zyM];rfl,by rw[zzJ,hK];rfl⟩)
  ⟨[],[],none,none,rfl,Ows.nil,rfl,rfl⟩
 rw[yY,zyX]at hN hK;have hr:=xf (as:=Fu ns cs o n m k s z ss b9 J [] none none none none) (zj (za (i:=5) rfl) zr) (by omega) (by omega);rw[zyI]at hr;exact⟨o11,Ds,b12,b13,hO,hK,hN,yn hr hl⟩
def qy{o11:List O}{b12 b13:Option O}(h:Bd cs n m k s)(sl:ss.length=10):∃o14 S b12' b15,Ows Lk (λ_=>True) o14 S/\S.length=s/\S.map (·.1)=(List.range s).map (λj=>(ss[9-j]?).getD ("":Str))/\gk (Fu ns cs o n m k s z ss b9 J o11 b12 b13 (sN []) none)=some (.nx<|Fu ns cs o n m k s z ss b9 J o11 b12' b13 (sN o14) b15):=by
 have n1:=h.n1;have n8:=h.n8;have s4:=h.s4;have hc:=h.c;have sg:∀i,i<10->ss[i]? = some ((ss[i]?).getD ("":Str)):=λi hi=>by rw[zzE<|q1J hi sl];rfl
 obtain⟨as',hl,o14,S,b12',b15,rfl,hO,hN,hK⟩:=yW (g:=gN 12)
  (λi as=>∃(o14:List O) (S:SS) (b12 b15:Option O),as=Fu ns cs o n m k s z ss b9 J o11 b12 b13 (sN o14) b15/\Ows Lk (λ_=>True) o14 S/\S.map (·.1)=(List.range i).map (λj=>(ss[9-j]?).getD ("":Str))/\S.length=i) (y4 0 s) 0 _ (λi y as hy hI=>by
   obtain⟨o14,S,b12,b15,rfl,hO,hN,hK⟩:=hI;obtain⟨rfl,hi⟩:=xk hy;rw[zyX]at hN hK ⊢;rw[Int.zero_add];obtain⟨c,wc⟩:=Zy (as:=Fu ns cs o n m k s z ss b9 J o11 (sI i) b13 (sN o14) b15) (za (i:=1) rfl) (zK (zb (x:=.int 8))<|za (i:=12) rfl) (by omega) (by omega);have t1:=yL (p:=15) (Hl (λy my=>by rw[List.eq_of_mem_replicate my];omega) (by rw[List.length_replicate];exact q2b n1 n8) (WD.e wc)<|JL (zb (x:=.int 2)) (za (i:=3) rfl)<|q2b n1 n8)<|zg rfl;obtain⟨r,wr⟩:=HW (as:=Fu ns cs o n m k s z ss b9 J o11 (sI i) b13 (sN o14)<|sT<|zk<|dg c<|List.replicate n 2) (cap:=[none,some 15]) (gg:=gN 0) (tt:=(fT<|f2 (f2 zi zm zx) zJ<|zy .Eq)) (List.range n) (uo (zj (za (i:=3) rfl) zr)<|q0J n1 n8) (by rw[zyU];omega) λq mq=>by
    have hq:=List.mem_range.mp mq;rw[Int.zero_add];obtain⟨v,wv⟩:=Zy (as:=[sI q,sT<|zk<|dg c<|List.replicate n 2]) (za (i:=1) rfl) (za (i:=0) rfl) (q0a) (by rw[Kb,List.length_replicate];exact q0h hq);exact⟨_,_,rfl,eqT wv zb rfl,WD.e<|za (i:=0) rfl⟩
   have wn:WD (f2 (fV 8) (f2 (fC<|.int 9) (fV 12) xt) zx) (Fu ns cs o n m k s z ss b9 J o11 (sI i) b13 (sN o14)<|sT<|zk<|dg c<|List.replicate n 2) true (.str<|(ss[9-i]?).getD ("":Str)):=by
    have w:=ZS (as:=Fu ns cs o n m k s z ss b9 J o11 (sI i) b13 (sN o14)<|sT<|zk<|dg c<|List.replicate n 2) (zb (x:=.int 9))<|za (i:=12) rfl;rw[show(9:Int)-i=((9-i:Nat):Int) by omega]at w;exact zB (za rfl) w (Xu<|sg (9-i)<|by omega) rfl
   obtain⟨os',p1,p2⟩:=IH (i:=14) (x:=((ss[9-i]?).getD ("":Str),r)) rfl hO (by omega) (yp (WD.e wn) wr) True.intro;exact⟨_,rfl,_,zo t1 p2,os',_,_,_,rfl,p1,by rw[zyM,hN,List.range_succ,zyM];rfl,by rw[zzJ,hK];rfl⟩)
  ⟨[],[],b12,none,rfl,Ows.nil,rfl,rfl⟩
 rw[yY,zyX]at hN hK;have hr:=xf (as:=Fu ns cs o n m k s z ss b9 J o11 b12 b13 (sN []) none) (zj (za (i:=6) rfl) zr) (by omega) (by omega);rw[zyI]at hr;exact⟨o14,S,b12',b15,hO,hK,hN,yn hr hl⟩
def tD{ss:List Str}{k a:Nat}(nd:ss.Nodup)(ha:a<ss.length)(hk:k<=a):((List.range k).map λj=>(ss[a-j]?).getD ("":Str)).Nodup:=by
 refine List.pairwise_map.mpr<|(List.nodup_range).imp_of_mem λ{i j} mi mj hne he=>hne ?_;have hi:=List.mem_range.mp mi;have hj:=List.mem_range.mp mj;rw[zzE (show a-i<ss.length from q0g ha),zzE (show a-j<ss.length from q0g ha)]at he;have:=J6 nd (show a-i<ss.length from q0g ha) (show a-j<ss.length from q0g ha) he;omega
def Es(ns:List Int):∃c:Cx,Alg c.n c.m c.J c.e c.Ds/\c.S.length<=4/\(c.S.map (·.1)).Nodup/\RE (wV [(true,zk ns)]) c.g:=by
 obtain⟨cs,o,n,m,k,s,z,ss,b9,J,h,sl,sn,tJ,z0,g1⟩:=nV ns;obtain⟨o11,Ds,b12,b13,hD,dl,dn,e9⟩:=oP h sl;obtain⟨o14,S,c12,b15,hS,slen,sm,e11⟩:=qy h sl;have n1:=h.n1;have k6:=h.k6;have s4:=h.s4;have e10:iO (Fu ns cs o n m k s z ss b9 J o11 b12 b13 none none)=some _:=yV (wq yi<|VI rfl)<|zg rfl;have hz:=QJ (x:=z) h.n1;have wr:lZ (Fu ns cs o n m k s z ss b9 J o11 c12 b13 (sN o14) b15)=some (_,_):=
  xW (za rfl) (xW (za rfl)<|xW (za rfl)<|xW (zU (za rfl) (za rfl)<|q0p n1)<|K_ rfl<|K_ rfl rfl)
 have hfin:=Oe wr<|VI rfl;rw[hD.frz,hS.frz]at hfin;have rt:=GO hfin rfl;have nd1:(Ds.map (·.1)).Nodup:=by
  rw[dn];have:=EL (k:=k) (a:=0) sn (by omega);simp only[zyX]at this;exact this
 have nd2:(S.map (·.1)).Nodup:=by
  rw[sm];exact tD sn (by omega) (by omega)
 exact⟨⟨n,m,J,z%n,Ds,S⟩,⟨h.n1,h.n8,h.m1,h.m6,tJ,hz.1,hz.2,by show Ds.length<=6;omega,hD.al,nd1⟩,by show S.length<=4;omega,nd2,zL rfl<|g1 _ _<|zc e9<|zc e10<|zc e11 ⟨_,rt,rfl,rfl⟩⟩
end
theorem Au(k:Nat):∀r s:List Int,sU (Xr<|k+1) (r.map D.int) (s.map D.int)=some (r==s)
 | [],[]=>rfl
 | [],_::_=>rfl
 |_::_,[]=>rfl
 |a::r,b::s=>by
  show(some _).bind _=_;rw[Au k r s];rfl
def Jx(r s:List Int):Xr 60 (zk r) (zk s)=some (r==s):=Au 58 r s
def On:∀xs:List D,Xr 60 (.lst xs) (.lst [])=some xs.isEmpty
 | []=>rfl
 |_::_=>rfl
def Rf(r:Option Out)(I:AS->Prop):Prop:=(∃as,r=some (.nx as)/\I as)\/r=some (.rt<|.lf true<|.bl false)
theorem Rf.loop{g:GF}{f:SF}(I:Nat->AS->Prop):∀(xs:List wK) (k:Nat) (as:AS),(∀i x as,xs[i]? = some x->I (k+i) as->∃as1,g x as=some as1/\Rf (f as1) (I<|k+i+1))->I k as->Rf (forL g f xs as) (I<|k+xs.length)
 | [],k,as,_,h=>.inl ⟨as,rfl,h⟩
 |x::xs,k,as,H,h=>by
  obtain⟨as1,h1,h2⟩:=H 0 x as rfl h
  rcases h2 with⟨as2,h2,h3⟩|h2
  . have:=Rf.loop I xs (k+1) as2 (λi y as hy hI=>by
     have:=H (i+1) y as hy (by rw[show k+(i+1)=k+1+i from q0e];exact hI)
     rwa [show k+(i+1)+1=k+1+i+1 by omega]at this) h3
    rw[show k+1+xs.length=k+(x::xs).length by rw[zzT];exact q0r]at this;have e:forL g f (x::xs) as=forL g f xs as2:=by
     show(g x as).bind _=_;rw[h1];show(f as1).bind _=_;rw[h2];rfl
    rwa [e]
  . right;show(g x as).bind _=_;rw[h1];show(f as1).bind _=_;rw[h2];rfl
def Rf.seq{f g:SF}{as as1:AS}{I:AS->Prop}(h:f as=some (.nx as1))(k:Rf (g as1) I):Rf (ze f g as) I:=by
 rcases k with⟨a,b,c⟩|k
 . exact .inl ⟨a,zo h b,c⟩
 . exact .inr<|zo h k
def Rf.no{c:TF}{as:AS}{I:AS->Prop}{t:Bool}(h:WT c as t)(k:t=false->I as):Rf (yR c (zw<|fC<|.bl false) yM as) I:=by
 cases t with
 |false=>exact .inl ⟨as,zq h rfl,k rfl⟩
 |true=>exact .inr (y6 h rfl)
def Rf.bind{f g:SF}{as:AS}{I K:AS->Prop}(h:Rf (f as) I)(k:∀as1,I as1->Rf (g as1) K):Rf (ze f g as) K:=by
 rcases h with⟨a,b,c⟩|h
 . exact(k a c).seq b
 . exact .inr<|vV h
def jU{a b:EF}{as:AS}{x y:Int}{s t:Bool}(ha:WD a as s (.int x))(hb:WD b as t (.int y)):WT (fT<|f2 a b<|zy .NotEq) as (!(x==y)):=yf (Ov ha hb rfl) rfl
def p8{x y:Int}(h:(!(x==y))=false):x=y:=by
 rw[Bool.not_eq_false']at h;exact beq_iff_eq.mp h
section
variable{n m:Nat}{J T:TZ}{a b:Int}
abbrev D9(m:Nat)(J T:TZ)(a b:Int)(l:AS):AS:=sI m::sT (xp J)::sT (xp T)::sI a::sI b::l
abbrev Jc(m:Nat)(J T:TZ)(a b i k:Int):Prop:=ym T ((i+k)%m) (ym J a b)=ym J (ym T i a) (ym T k b)
def DV(hJ:Tab n n J)(hT:Tab m n T)(m1:1<=m)(m6:m<=6)(ha:zO n a)(hb:zO n b):∃t,RE (Uy [(true,.int m),(true,xp J),(true,xp T),(true,.int a),(true,.int b)]) (.bl t)/\(t=true->∀i k,zO m i->zO m k->Jc m J T a b i k):=by
 have hr:=λl=>by
  have:=xf (as:=D9 m J T a b l) (zj (za (i:=0) rfl) zr) (by omega) (by omega)
  rwa [zyI]at this
 have key:=Rf.loop (g:=gN 5) (λi as=>∃x y z w,as=D9 m J T a b [x,y,z,w]/\∀i':Nat,i'<i->∀k,zO m k->Jc m J T a b i' k) (y4 0 m) 0 (D9 m J T a b [none,none,none,none]) (λi y as hy hI=>by
  obtain⟨x,y,z,w,rfl,hI⟩:=hI;obtain⟨rfl,hi⟩:=xk hy;rw[zyX]at hI ⊢;rw[Int.zero_add];refine⟨D9 m J T a b [sI i,y,z,w],rfl, ?_⟩;have inn:=Rf.loop (g:=gN 6) (f:=(ze (zp true 7 _)<|ze (zp true 8 _) _)) (λk as=>∃y z w,as=D9 m J T a b [sI i,y,z,w]/\∀k':Nat,k'<k->Jc m J T a b i k') (y4 0 m) 0 (D9 m J T a b [sI i,y,z,w]) (λk y as hy hK=>by
   obtain⟨y,z,w,rfl,hK⟩:=hK;obtain⟨rfl,hk⟩:=xk hy;rw[zyX]at hK ⊢;rw[Int.zero_add];refine⟨D9 m J T a b [sI i,sI k,z,w],rfl, ?_⟩;have w1:=(Qg (as:=D9 m J T a b [sI i,sI k,z,w]) hT (QJ<|by omega) (Po hJ ha hb) (za (i:=2) rfl) (zU (zK (za (i:=5) rfl)<|za (i:=6) rfl) (za (i:=0) rfl)<|by omega)<|vJ hJ ha hb (za (i:=1) rfl) (za (i:=3) rfl)<|za (i:=4) rfl).1;have z1:=Qg (as:=D9 m J T a b [sI i,sI k,sI<|ym T (((i:Int)+k)%m)<|ym J a b,w]) hT (SJ hi) ha (za (i:=2) rfl) (za (i:=5) rfl)<|za (i:=3) rfl;have z2:=Qg (as:=D9 m J T a b [sI i,sI k,sI<|ym T (((i:Int)+k)%m)<|ym J a b,w]) hT (SJ hk) hb (za (i:=2) rfl) (za (i:=6) rfl)<|za (i:=4) rfl;refine(Rf.no (jU (za (i:=7) rfl)<|za (i:=8) rfl) λh=>⟨_,_,_,rfl,λk' hk'=>?_⟩).seq (zG (vJ hJ z1.2 z2.2 (za (i:=1) rfl) z1.1 z2.1)<|zg rfl) |>.seq (zG w1<|zg rfl)
   rcases Nat.lt_or_eq_of_le (Nat.le_of_lt_succ hk')with h1|rfl
   . exact hK k' h1
   . exact p8 h) ⟨_,_,_,rfl,λk' hk'=>absurd hk'<|Nat.not_lt_zero _⟩
  rw[yY,zyX]at inn;have fin:∀{r},forL (gN 6) _ (y4 0 m) (D9 m J T a b [sI i,y,z,w])=r->eG (D9 m J T a b [sI i,y,z,w])=r:=λh=>yn (hr _) h
  rcases inn with⟨as2,h1,y',z',w',rfl,h2⟩|h1
  . refine .inl ⟨_,fin h1,_,_,_,_,rfl,λi' hi' k hk=>?_⟩
    rcases Nat.lt_or_eq_of_le (Nat.le_of_lt_succ hi')with h3|rfl
    . exact hI i' h3 k hk
    . have:=h2 k.toNat (by have:=hk.1;have:=hk.2;omega)
      rwa [show((k.toNat:Nat):Int)=k by have:=hk.1;omega]at this
  . exact .inr<|fin h1) ⟨_,_,_,_,rfl,λk' hk'=>absurd hk'<|Nat.not_lt_zero _⟩
 rw[yY,zyX]at key
 rcases key with⟨as2,h1,x',y',z',w',rfl,h2⟩|h1
 . refine⟨true,zL rfl<|zc (yn (hr _) h1)<|zA<|WD.e zb,λ_ i k hi hk=>?_⟩;have:=h2 i.toNat (by have:=hi.1;have:=hi.2;omega) k hk
   rwa [show((i.toNat:Nat):Int)=i by have:=hi.1;omega]at this
 . exact⟨false,zL rfl<|yk ⟨_,yn (hr _) h1,rfl,rfl⟩,λh=>nomatch h⟩
end
def p_{a b c d e:EF}{as:AS}{x y z u v o:D}{g:List (Bool×D)->Option O}(ha:WE a as x)(hb:WE b as y)(hc:WE c as z)(hd:WE d as u)(he:WE e as v)(hg:RE (g [(true,x),(true,y),(true,z),(true,u),(true,v)]) o):WE (zh (aC a<|aC b<|aC c<|aC d<|aC e aN) g) as o:=by
 obtain⟨r,h1,h2,rfl⟩:=hg;exact⟨r,vN (yZ ha<|yZ hb<|yZ hc<|yZ hd<|yZ he zr) (by show g [(zC x||true,x),_,_,_,_]=_;simp only[zyD];exact h1),h2,rfl⟩
def iG{a b:EF}{as:AS}{x y:Int}(ha:WD a as true (.int x))(hb:WD b as true (.int y))(h0:0<y)(h1:y<1000):WD (fP (aC a<|aC b aN) DY) as true (.tup [.int<|x/y,.int<|x%y]):=
 Bj (zj ha<|zj hb zr) (by show(if 0<y/\y<1073741824 then _ else _)=_;rw[if_pos ⟨h0,by omega⟩]) rfl
def sf{n:Nat}{r:List Int}{v:Int}{f:Int->Int}(hl:r.length=n)(hv:zO n v):Zd (r.map f) v=f (Zd r v):=by
 unfold Zd;have:=hv.1;have:=hv.2;rw[zzI,zzE (show v.toNat<r.length by omega)];rfl
abbrev G7(c:Cx)(l:AS):AS:=sT c.g::sI c.n::sI c.m::sT (xp c.J)::sI c.e::sT (.lst<|c.Ds.map wb)::sT (.lst<|c.S.map Lk)::l
structure pFac(c:Cx)(a b:Int):Prop where
 u:ym c.J c.e a=a
 v:ym c.J a c.e=a
 s:∀v,zO c.n v->ym c.J (ym c.J a b) v=ym c.J a (ym c.J b v)
 d:∀q ∈ c.Ds,∀i k,zO c.m i->zO c.m k->Jc c.m c.J q.2 a b i k
section
variable{c:Cx}
def DB(A:Alg c.n c.m c.J c.e c.Ds){p:Nat}(hp:p<c.n*c.n){x8 x9 x10 x11:Option O}:Rf (fu<|G7 c [sI p,x8,x9,x10,x11,none]) (λas=>(∃x7 x8 x9 x10 x11,as=G7 c [x7,x8,x9,x10,x11,none])/\pFac c ((p:Int)/c.n) ((p:Int)%c.n)):=by
 have n1:=A.n1;have n8:=A.n8;have hb:zO c.n ((p:Int)%c.n):=QJ n1;have ha:zO c.n ((p:Int)/c.n):=⟨Int.ediv_nonneg (q0a) (by omega),by
  rw[<-Int.natCast_ediv];have:=Nat.div_lt_of_lt_mul<|Nat.mul_comm .. ▸ hp;omega⟩
 have he:zO c.n c.e:=⟨A.e0,A.en⟩;have s1:n4 (G7 c [sI p,x8,x9,x10,x11,none])=some _:=SD (WD.e<|iG (za rfl) (za rfl) (by omega)<|by omega) rfl;generalize (p:Int)/c.n=a,(p:Int)%c.n=b at ha hb s1 ⊢;have hab:=Po A.j ha hb;have wJ:∀l,WD zE (G7 c l) true (xp c.J):=λl=>za rfl;refine Rf.seq s1<|Rf.bind (I:=λas=>as=G7 c [sI p,sI a,sI b,x10,x11,none]/\ym c.J c.e a=a/\ym c.J a c.e=a) (Rf.no (t:=!(ym c.J c.e a==a) || !(ym c.J a c.e==a)) (AX (jU (vJ A.j he ha (wJ _) (za rfl)<|za rfl)<|za rfl) (λh=>by rw[h,Bool.false_or];exact jU (vJ A.j ha he (wJ _) (za rfl)<|za rfl)<|za rfl) λh=>by rw[h];rfl) λh=>by
  rw[Bool.or_eq_false_iff]at h;exact⟨rfl,p8 h.1,p8 h.2⟩) ?_
 rintro _ ⟨rfl,u1,u2⟩
 obtain⟨i1,r1⟩:=vG A.j hab;obtain⟨i2,r2⟩:=vG A.j hb;refine Rf.bind (I:=λas=>as=G7 c [sI p,sI a,sI b,x10,x11,none]/\∀v,zO c.n v->ym c.J (ym c.J a b) v=ym c.J a (ym c.J b v)) (Rf.no (yf (EI (WD.e<|yE (wJ _) (vJ A.j ha hb (wJ _) (za rfl)<|za rfl) i1) (Pu<|Mw (GG c.J b) (Y3<|WD.e<|yE (wJ _) (za rfl) i2) (by rw[r2.1];exact q0J n1 n8) λv mv=>⟨_,rfl,vJ A.j ha (r2.2 v mv) (za rfl) (za rfl)<|za rfl⟩)<|Jx _ _) rfl) λh=>⟨rfl,λv hv=>?_⟩) ?_
 . rw[Bool.not_eq_false']at h;have e:=beq_iff_eq.mp h;show Zd (GG c.J _) v=ym c.J a (Zd _ v);rw[e,sf r2.1 hv]
 rintro _ ⟨rfl,u3⟩
 have key:=Rf.loop (g:=(gT 2<|yG (gN 10)<|yG (gN 11) XM)) (λi as=>∃y z,as=G7 c [sI p,sI a,sI b,y,z,none]/\∀j q,j<i->c.Ds[j]? = some q->∀i k,zO c.m i->zO c.m k->Jc c.m c.J q.2 a b i k) ((c.Ds.map wb).map λd=>(true,d)) 0 (G7 c [sI p,sI a,sI b,x10,x11,none]) (λi y as hy hI=>by
  obtain⟨y,z,rfl,hI⟩:=hI;rw[zyB,zzI]at hy;obtain⟨q,hq,rfl⟩:=zzX.mp hy;rw[zyX]at hI ⊢;refine⟨G7 c [sI p,sI a,sI b,sT<|.str q.1,sT<|xp q.2,none],rfl, ?_⟩;obtain⟨t,w,ht⟩:=DV A.j (A.ds q<|zyA hq) A.m1 A.m6 ha hb;refine Rf.no (Wd<|pC<|p_ (WD.e<|za (i:=2) rfl) (WD.e<|wJ _) (WD.e<|za (i:=11) rfl) (WD.e<|za (i:=8) rfl) (WD.e<|za (i:=9) rfl) w) λh=>⟨_,_,rfl,λj r hj hr=>?_⟩
  rcases Nat.lt_or_eq_of_le (Nat.le_of_lt_succ hj)with h1|rfl
  . exact hI j r h1 hr
  . rw[hq]at hr;cases hr;exact ht<|(Bool.not_eq_false' ..).mp h) ⟨_,_,rfl,λj _ hj=>absurd hj<|Nat.not_lt_zero _⟩
 rw[zyX,zzB,zzB]at key
 rcases key with⟨as2,h1,y,z,rfl,h2⟩|h1
 . refine .inl ⟨_,yn (Oz<|za rfl) h1,⟨_,_,_,_,_,rfl⟩,u1,u2,u3,λq mq=>?_⟩;obtain⟨j,hj,e⟩:=List.getElem_of_mem mq;exact h2 j q hj (by rw[zzE hj,e])
 . exact .inr<|yn (Oz<|za rfl) h1
end
section
variable{c:Cx}
def Dx(A:Alg c.n c.m c.J c.e c.Ds):∃t,RE (Xv [(true,c.g)]) (.bl t)/\(t=true->LawA c.n c.m c.J c.e c.Ds/\1<=c.Ds.length):=by
 have n1:=A.n1;have n8:=A.n8;have nn:=Nat.mul_le_mul n8 n8;have s1:t_ [sT c.g,none,none,none,none,none,none,none,none,none,none,none,none]=some _:=SD (WD.e<|za rfl) rfl;have wm:=y7 (za (as:=G7 c [none,none,none,none,none,none]) (i:=1) rfl) (za (i:=1) rfl) (zz (q0W n1 n8)<|q0Y n1 n8)<|zz (q0W n1 n8)<|q0Y n1 n8;rw[<-zzV]at wm;have hr:=xf (zj wm zr) (by omega) (by omega);rw[zyI]at hr;have key:=Rf.loop (g:=gN 7) (λi as=>(∃x7 x8 x9 x10 x11,as=G7 c [x7,x8,x9,x10,x11,none])/\∀p:Nat,p<i->pFac c ((p:Int)/c.n) ((p:Int)%c.n)) (y4 0<|c.n*c.n) 0 (G7 c [none,none,none,none,none,none]) (λi y as hy hI=>by
  obtain⟨⟨x7,x8,x9,x10,x11,rfl⟩,hI⟩:=hI;obtain⟨rfl,hi⟩:=xk hy;rw[zyX]at hI ⊢;rw[Int.zero_add];refine⟨_,rfl, ?_⟩
  rcases DB A hi with⟨as,h1,h2,h3⟩|h1
  . refine .inl ⟨as,h1,h2,λp hp=>?_⟩
    rcases Nat.lt_or_eq_of_le (Nat.le_of_lt_succ hp)with h4|rfl
    . exact hI p h4
    . exact h3
  . exact .inr h1) ⟨⟨_,_,_,_,_,rfl⟩,λj hj=>absurd hj<|Nat.not_lt_zero _⟩
 rw[yY,zyX]at key
 rcases key with⟨as2,h1,⟨x7,x8,x9,x10,x11,rfl⟩,h2⟩|h1
 . have pf:∀a b,zO c.n a->zO c.n b->pFac c a b:=λa b ha hb=>by
    have:=ha.1;have:=ha.2;have:=hb.1;have:=hb.2;have e1:(b.toNat+c.n*a.toNat)/c.n=a.toNat:=by rw[Nat.add_mul_div_left _ _ n1,Nat.div_eq_of_lt (by omega),zyX]
    have e2:(b.toNat+c.n*a.toNat)%c.n=b.toNat:=by rw[Nat.add_mul_mod_self_left,Nat.mod_eq_of_lt<|by omega]
    have:=h2 (b.toNat+c.n*a.toNat) (by
     have:c.n*a.toNat+c.n<=c.n*c.n:=by rw[<-Nat.mul_succ];exact Nat.mul_le_mul_left _ (by omega)
     omega)
    rwa [<-Int.natCast_ediv,<-Int.natCast_emod,e1,e2,zyY (by omega),zyY<|by omega]at this
   have he:zO c.n c.e:=⟨A.e0,A.en⟩;have z0:zO c.m 0:=⟨by omega,by have:=A.m1;exact q0p this⟩;have wf:=Sb (as:=G7 c [x7,x8,x9,x10,x11,none]) (cap:=[none,none,some 4]) (gg:=gT 2<|yG y8<|yG (gN 1) XM) c.Ds (Y3<|WD.e<|za (i:=5) rfl) (by have:=A.dl;exact q0R this) λq mq=>⟨_,rfl,jU (Qg (A.ds q mq) z0 he (za (i:=1) rfl) zb<|za (i:=2) rfl).1<|za (i:=2) rfl,λ_=>WD.e<|za (i:=0) rfl⟩;have s3:=yL (p:=12) wf<|zg rfl;have wn:∀{as:AS},WE (zZ dN) as (.lst []):=λ{as}=>X4 Xo rfl;generalize hF:(c.Ds.filter λq:Str×TZ=>!(ym q.2 0 c.e==c.e))=fl at s3;refine⟨(fl.map λq:Str×TZ=>D.str q.1).isEmpty&&(!(c.Ds.map wb).isEmpty && !(c.S.map Lk).isEmpty),zL rfl (zc s1<|zc (yn hr h1)<|zc s3<|zA<|WD.e<|LF (Iz (WD.e<|za rfl) wn<|On _) (λh=>by rw[h,Bool.true_and];exact LF (EI (WD.e<|za rfl) wn<|On _) (λh=>by rw[h,Bool.true_and];exact EI (WD.e<|za rfl) wn<|On _) λh=>by rw[h];rfl) λh=>by rw[h];rfl),λht=>?_⟩;have hE:fl=[]:=by
    rw[zyC,List.isEmpty_iff,List.map_eq_nil_iff]at ht;exact ht.1
   have hE2:1<=c.Ds.length:=by
    rw[zyC,zyC]at ht;have h:=ht.2.1;cases z:c.Ds with
    |nil=>rw[z]at h;exact nomatch h
    |cons a b=>exact Nat.succ_le_succ (Nat.zero_le _)
   refine⟨?_,hE2⟩;refine⟨⟨λa b ha hb=>Po A.j ha hb,he,λa ha=>(pf a a ha ha).u,λa ha=>(pf a a ha ha).v,λa b v ha hb hv=>(pf a b ha hb).s v hv⟩,λq mq=>⟨λk a hk ha=>(rowAt (vG (A.ds q mq) hk).2 ha).2, ?_,λa i b k ha hi hb hk=>(pf a b ha hb).d q mq i k hi hk⟩⟩
   by_cases hx:ym q.2 0 c.e=c.e
   . exact hx
   . have:q ∈ fl:=hF ▸ List.mem_filter.mpr ⟨mq,by rw[beq_eq_false_iff_ne.mpr hx];rfl⟩;rw[hE]at this;exact absurd this zxB
 . exact⟨false,zL rfl<|zc s1<|yk ⟨_,yn hr h1,rfl,rfl⟩,λh=>nomatch h⟩
end
def pP(ns:List Int):∃c:Cx,c.Gd/\RE (Qv [(true,zk ns)]) c.g:=by
 obtain⟨c0,g0,r0⟩:=S6 ns;have e0:∀l,Rt (zw (zh (aC zm _) Zl) (sT _::l)) c0.g:=λl=>zA<|xx (WD.e<|za rfl) (WD.e zb) r0;obtain⟨t,ht⟩:∃t,WT (BO _<|fT<|f2 (f2 _ yN zM) zJ _) [sT _,none] t:=by
  have wl:WT (fT<|f2 (fP v7 xq) zV<|zy .Gt) [sT<|zk ns,none] (decide _):=yf (zB (ud<|WD.e<|za rfl) zb rfl rfl) rfl
  by_cases h:(0:Int)<ns.length
  . obtain⟨v,wv⟩:=Zy (as:=[sT _,none]) (za (i:=0) rfl) (zb (x:=.int 0)) (by omega) (by omega);exact⟨_,Ao wl (λ_=>eqT (zU wv zb<|by decide) zb rfl) (λz=>by rw[zyO h]at z;exact nomatch z)⟩
  . exact⟨false,Ao wl (λz=>by rw[zyG h]at z;exact nomatch z) λ_=>rfl⟩
 cases t with
 |false=>exact⟨c0,g0,zL rfl<|zc (zq ht rfl)<|e0 _⟩
 |true=>
  obtain⟨c,A,s4,sn,rc⟩:=Es ns;obtain⟨t,rg,hg⟩:=Dx A;have s1:zp true 1 (zh v7 wV) [sT<|zk ns,none]=some _:=yL (wF (WD.e<|za rfl) rc)<|zg rfl;have w:=pC<|wF (WD.e<|za (as:=[sT<|zk ns,sT c.g]) (i:=1) rfl) rg;cases t with
  |true=>exact⟨c,⟨⟨A,(hg rfl).1⟩,s4,sn,(hg rfl).2⟩,zL rfl<|yk<|yK ht<|zc s1<|yK w<|zA<|WD.e<|za rfl⟩
  |false=>exact⟨c0,g0,zL rfl<|zc (y6 ht<|zo s1<|zq w rfl)<|e0 _⟩
def oM{fr:DF}{as:AS}{xs:List D}(h:WL fr as xs)(hl:Nat.ble xs.length 1000=true):WE (yd fr) as (.tup xs):=by
 obtain⟨os,h1,h2,h3⟩:=h;have e:os.length=xs.length:=by rw[<-h3,Y_]
 exact ue h1 (by rw[e];exact VI hl) h2<|congrArg D.tup h3
def AC{α:Type}{fi:IF}{cap:List (Option Nat)}{gg:GF}{fe:EF}{as:AS}{it:α->wK}{h:α->D}(l:List α)(h1:fi as=some (l.map it,as))(hl:l.length<=1000)(H:∀q ∈ l,∃as1,gg (it q) (Z6 cap as)=some as1/\WE fe as1 (h q)):WE (zS fi cap gg yx fe) as (.lst<|l.map h):=by
 obtain⟨os,o1,o2,o3⟩:=Il l h1 hl H;exact⟨_,o1,o2,congrArg D.lst o3⟩
def nG{as:AS}{i k n:Nat}{T:TZ}(k9:k<=900)(hT:Tab k n T)(h:as[i]? = some (sT<|xp T)):WE (zS (xC<|fV i) [none] y8 yx<|fP v7 lstP) as (xp T):=
 AC T (Y3<|WD.e<|za h) (by rw[hT.1];exact q0b k9) λr _=>⟨_,rfl,KA<|za rfl⟩
def uN{c:Cx}(h:c.Gd):RE (YQ [(true,c.g)]) c.g:=by
 have A:=h.ok.A;have n8:=A.n8;have m6:=A.m6;have dl:=A.dl;have s4:=h.sl;have s1:t_ [sT c.g,none,none,none,none,none,none]=some (.nx<|G7 c []):=SD (WD.e<|za rfl) rfl;have s2:lN (G7 c [])=some (.nx<|G7 c []):=yL (AC c.Ds (Y3<|WD.e<|za rfl) (q0M dl) λq mq=>⟨_,rfl,yp (WD.e<|za rfl)<|nG (q0K m6) (A.ds q mq) rfl⟩)<|zg rfl;exact zL rfl<|zc s1<|zc s2<|zA<|oM (zW (WD.e<|za rfl)<|zW (WD.e<|za rfl)<|zW (nG (q0m n8) A.j rfl)<|zW (WD.e<|za rfl)<|zW (WD.e<|za rfl)<|zW (AC c.S (Y3<|WD.e<|za rfl) (by omega) λq mq=>⟨_,rfl,yp (WD.e<|za rfl)<|KA<|za rfl⟩) Xo) rfl
def HQ{a b c:EF}{as:AS}{i j k:Int}{s t u:Bool}(ha:WD a as s (.int i))(hb:WD b as t (.int j))(hc:WD c as u (.int k))(h1:i<=j)(h2:j<=k):WD (Ei a b c (zy .LtE)<|zy .LtE) as true (.bl true):=by
 unfold WD at *;unfold Ei;rw[ha];simp only[zyL];rw[hb];simp only[zyL];simp only[RV.frz,O.frz,RV.view,O.toD,O.str,zyL,zy,Cm,sS,HY,D5,h1,h2,decide_true,hc];rfl
def G9{s:Bool}{x:Int}:UD [(s,.int x)]=sT (.bl true):=rfl
def MH{x k:Int}(h0:0<=x)(h1:x<=k):vm [(true,.int x),(true,.int 0),(true,.int k)]=sT (.bl true):=
 xV rfl (xS<|LF (Qt (zj (za rfl) zr) G9) (λ_=>HQ (za rfl) (za rfl) (za rfl) h0 h1) (λz=>nomatch z))
def uZ{r:List Int}{s t:Bool}(hl:r.length<=1000):RE (wL [(s,zk r),(t,zk r)]) (.bl true):=by
 have i1:WT (fT<|Ux zm "list") [some<|.lf s<|zk r,some<|.lf t<|zk r] true:=rfl;have n2:WT (fT<|f2 zm zi _) [some<|.lf s<|zk r,some<|.lf t<|zk r] _:=yf (Ov (za rfl) (za rfl)<|Jx r r) rfl;rw[beq_self_eq_true]at n2;have wf:=Sb (as:=[some<|.lf s<|zk r,some<|.lf t<|zk r]) (h:=λx:Int=>D.int x) (p:=λ_:Int=>false) (cap:=[none]) (gg:=gN 0) (tt:=Fs (fT<|Ux zm "bool")<|wH<|fT<|Ux zm "int") (fe:=fV 0) r (rK (i:=0) rfl) (q0t hl) λx _=>⟨_,rfl,rfl,λz=>nomatch z⟩;rw[List.filter_eq_nil_iff.mpr λ_ _=>zyV,List.map_nil]at wf;exact zL rfl<|zc (zq (AX (Wd i1) (λ_=>n2) (λz=>nomatch z)) rfl)<|zA<|WD.e<|Iz wf (X4 Xo rfl)<|On _
def uf{x:Int}{n:Nat}(n1:1<=n)(n8:n<=8):∃r:List Int,r.length<=59/\(∀v ∈ r,zO n v)/\RE (Pl [(true,.int x),(true,.int n),(true,.int 11)]) (zk r):=by
 have q0:=zyN x (show 12≠0 by decide);have q1:=zyH x (show 0<12 by decide);have r0:=zyN (x/512) (show 40≠0 by decide);have r1:=zyH (x/512) (show 0<40 by decide);have s1:zp true 3 (f2 zm (f2 zF zJ zt) zM) [sI x,sI n,sI 11,none]=some _:=zG (zU (za rfl) (zK (za (x:=.int 11) rfl) zb)<|by decide)<|zg rfl;obtain⟨k,k9,s2⟩:∃k:Nat,k<=59/\(yR _ (zp true 3 _) yM) [sI x,sI n,sI 11,sI<|x%12]=some (.nx [sI x,sI n,sI 11,sI k]):=by
  have wt:WT _ [sI x,sI n,sI 11,sI<|x%12] (x/64%8==1):=eqT (zU (xi (za (i:=0) rfl) zb (by decide)<|zz (by decide)<|by decide) zb<|by decide) zb rfl;cases hc:x/64%8==1 with
  |true=>
   rw[hc]at wt;obtain⟨k,ek⟩:∃k:Nat,k=20+x/512%40:=⟨(20+x/512%40).toNat,by omega⟩;refine⟨k,by omega,y6 wt ?_⟩;rw[ek];exact zG (zK zb<|zU (xi (za (i:=0) rfl) zb (by decide)<|zz (by decide)<|by decide) zb<|by decide) (zg rfl)
  |false=>
   rw[hc]at wt;refine⟨(x%12).toNat,by omega,zq wt ?_⟩;rw[zyY q0];rfl
 exact⟨_,by rw[Kb,List.length_replicate];exact k9,Oa n1 k _,zL rfl<|zc s1<|zc s2<|zA<|Hl (λy my=>by rw[List.eq_of_mem_replicate my];exact q2o n1 n8) (by rw[List.length_replicate];exact q1F k9) (WD.e<|xi (za rfl) zb (by decide)<|zz (by decide)<|by decide)<|JL (za rfl) (za rfl)<|q1F k9⟩
noncomputable abbrev Gj:List Str:=["way","trees"]
abbrev vz(c:Cx)(ts:List D):O:=.nd (.ob "Makes" Gj) [.lf true c.w,.nd .ls<|ts.map<|O.lf true]
abbrev B5(c:Cx)(ts:List D):D:=.ob "Makes" Gj [c.w,.lst ts]
section
variable{c:Cx}{ts:List D}{as:AS}{i:Nat}
theorem Oj:∀ts:List D,(ts.map<|O.lf true).all O.isLf=true
 | []=>rfl
 |_::r=>Oj r
def GR:G5 (some<|some<|vz c ts)=some (B5 c ts):=by
 show(if true=true/\(ts.map _).all O.isLf=true/\O.strs _=true then some _ else none)=_;rw[if_pos ⟨rfl,Oj ts,U8 ts⟩,TQ]
def EU:(vz c ts).str=true:=by
 show(true&&(O.strs _&&true))=_;rw[U8];rfl
def BU{m:Str}{tbl:List (Str×Fn)}{g:Fn}{a:EF}{x:D}{o:O}(h:as[i]? = some (some<|vz c ts))(hm:m ∉ Gj)(ht:Oi tbl "Makes"=some g)(ha:WE a as x)(hg:g [(true,B5 c ts),(true,x)]=some o)(ho:rj Gj o=true):Z0 i tbl m (aC a aN) as=some (.ow o,as):=by
 have hr:=yZ ha zr;unfold WA at hr;unfold Z0;rw[h,GR];show(if m ∈ Gj then none else some "Makes":Option Str).bind _=_;rw[if_neg hm];show(Oi tbl "Makes").bind _=_;rw[ht];rw[hr];show(G5 as[i]?).bind _=_;rw[h,GR,zyL];rw[Ym];show(g [_,(zC x||true,x)]).bind _=_;rw[zyD,hg];show(if rj Gj o=true then some _ else none)=_;rw[if_pos ho]
def XF{m:Str}{g:List wK->O->Option (D×O)}{fr:AF}{rs:List RV}{xs:List wK}{v:Int}{ts':List D}(h:as[i]? = some (some<|vz c ts))(hm:m ∉ Gj)(hr:fr as=some (rs,as))(ha:NQ i as rs=some xs)(hg:g xs (vz c ts)=some (.int v,vz c ts')):Vx i "Makes" m g fr as=some (.ow<|.lf true<|.int v,as.set i<|some<|vz c ts'):=by
 unfold Vx;rw[h];show(if m ∈ Gj then none else some "Makes":Option Str).bind _=_;rw[if_neg hm,zyL,if_pos rfl,hr];show(NQ i as rs).bind _=_;rw[ha];rw[h];show(g xs _).bind _=_;rw[hg];show(if zC _=true/\(vz c ts').str=true then _ else _)=_;rw[if_pos ⟨rfl,EU⟩]
def Hm{f:SF}{g:VF}{as1:AS}{x:Option (D×AS)}(h:f as=some (.nx as1))(k:g as1=x):Np f g as=x:=by
 unfold Np;rw[h];exact k
def uG:yt "Makes" [(true,c.w)]=some (vz c []):=by
 have h:Zb (Yw 2 (m3 "Makes"::[(true,c.w)].map Dg))=some [some _,sT c.w]:=yA (yH (i:=0) (WD.e<|za rfl) rfl (by decide +kernel) (by decide +kernel)<|by decide) (by
  unfold Jk;rw[wq yi<|VI rfl];exact if_pos (e:=none) (c:=("Makes":Str) ∈ xl/\("trees":Str) ∉ (["way"]:List Str)/\1<1000) ⟨by decide +kernel,by decide +kernel,by decide⟩)
 unfold yt oB;rw[if_pos (by rfl),h];rfl
def HF{d:D}(hl:ts.length<900):yT [(true,d)] (vz c ts)=some (.int ts.length,vz c<|ts++[d]):=by
 have s1:m4 0 1 xl "trees" [some<|vz c ts,sT d]=some (.nx [some<|vz c<|ts++[d],sT d]):=by
  show(if _ ∈ xl/\("trees":Str)="trees"/\("way":Str)≠"trees"/\(ts.map _).length<sizeLine then some _ else none)=_;rw[if_pos ⟨by decide +kernel,rfl,by decide +kernel,by rw[zzB];exact slt<|q0i hl⟩];show _=some (Out.nx [some<|.nd _ _,sT d]);rw[zyM];rfl
 have w:WD (jv 0 xl "trees") [some<|vz c<|ts++[d],sT d] true (.int ((ts.length+1:Nat):Int)):=by
  show(if("Makes":Str) ∈ xl/\("trees":Str)="trees"/\("way":Str)≠"trees" then some _ else none)=_;rw[if_pos ⟨by decide +kernel,rfl,by decide +kernel⟩,zzB,zzJ];rfl
 have w2:=ZS w<|zb (x:=.int 1);rw[show((ts.length+1:Nat):Int)-1=ts.length by omega]at w2;have hv:Yg [some _,sT d]=some _:=Hm s1 (by
  unfold FU;unfold WD at w2;rw[w2];rfl)
 unfold yT sR;rw[if_pos<|by rfl];show(Yg [some _,sT d]).bind _=_;rw[hv];show(if(vz c _).str=true/\zC _=true then _ else _)=_;rw[if_pos ⟨EU,rfl⟩]
def CJ(h:WD (fV i) as true (B5 c ts)):WD (f1 (fV i)<|zT xj "way") as true c.w:=by
 have:=RZ (n:="way") h (by decide +kernel:("Makes":Str) ∈ xj) rfl;rw[zyD]at this;exact this
def Ay(h:WD (fV i) as true (B5 c ts)):WD (f1 (fV i)<|zT xl "trees") as true (.lst ts):=by
 have:=RZ (n:="trees") h (by decide +kernel:("Makes":Str) ∈ xl) rfl;rw[zyD]at this;exact this
def II{v:Int}(hv:zO c.n v):RE (ZQ [(true,c.w),(true,.int v)]) (.bl true):=by
 have w:WD (f1 zm<|zT xO "size") [sT c.w,sI v] true (.int c.n):=by
  have:=RZ (n:="size") (za (as:=[sT c.w,sI v]) (i:=0) rfl) (by decide +kernel:("Ways":Str) ∈ xO) rfl;rw[zyD]at this;exact this
 exact zL rfl (zA<|z_ (WD.e<|za rfl) (WD.e zb) (WD.e<|ZS w<|zb)<|RE.of<|MH hv.1<|by have:=hv.2;omega)
def OX{v:Int}(hv:zO c.n v):xh [(true,B5 c ts),(true,.int v)]=sT .non:=by
 have h:wu (Zh 2 [(true,B5 c ts),(true,.int v)])=some _:=zq (Wd<|pC<|Fw (CJ<|za rfl) (by decide +kernel) rfl (WD.e<|za rfl)<|II hv) rfl;unfold xh xY;rw[if_pos (by rfl),h];rfl
def K2{k:Nat}{d:D}(hk:ts[k]? = some d):RE (ZH [(true,B5 c ts),(true,.int k)]) d:=by
 have kl:=(zzG.mp hk).1;have wl:WD (fP (aC (f1 zm _) aN) xq) [sT<|B5 c ts,sI k] true _:=Ho (WD.e<|Ay<|za rfl) rfl;have w:=pC (z_ (WD.e<|za (i:=1) rfl) (WD.e<|zb) (WD.e<|ZS wl<|zb (x:=.int 1))<|RE.of<|MH (q0a)<|by omega);refine zL rfl<|zc (zq (Wd w) rfl)<|zA<|WD.e<|OU (WD.e<|Ay<|za rfl) (WD.e<|za rfl) ?_;have:=Xu (f:=λd:D=>d) hk
 rwa [List.map_id']at this
end
section
variable{c:Cx}{ts:List D}{as:AS}{i:Nat}{r:List Int}
def ku{s:Bool}(h:as[i]? = some (some<|.lf s<|zk r)):YU (fV i) as=some (r.map λx=>(true,D.int x),as):=by
 rw[I0 h];unfold kids;rw[zyB];rfl
def uw{k:Int}(h:k<=300):vq [(true,.int k)]=sT .non:=by
 have h:Wo (Zh 1 [(true,.int k)])=some _:=zq (yf (zB (za rfl) zb rfl rfl) (by show some (decide _)=_;rw[zyG<|by omega])) rfl;unfold vq xY;rw[if_pos (by rfl),h];rfl
def FY{s:Bool}(h:c.Ok)(hl:r.length<=300)(hv:c.In r)(tl:ts.length<900):∃d,OT c d r/\yX [(s,zk r)] (vz c ts)=some (.int ts.length,vz c<|ts++[d]):=by
 obtain⟨d,⟨o,t1,t2,t3⟩,hd⟩:=p3 h (by omega) hv s;have s1:yR (wH<|fT<|Ux zi "list") Di yM [some<|vz c ts,some<|.lf s<|zk r,none]=some _:=zq (Wd (k:=true) rfl) rfl;obtain⟨as',h2,e,rfl⟩:=yW (g:=gN 2) (f:=yq<|Z0 0 YR "check_value" ZA) (λ_ as=>∃e,as=[some<|vz c ts,some<|.lf s<|zk r,e]) (r.map λx=>(true,D.int x)) 0 [some<|vz c ts,some<|.lf s<|zk r,none] (λj x as hx hI=>by
  obtain⟨e,rfl⟩:=hI;rw[zzI]at hx;obtain⟨v,hv',rfl⟩:=zzX.mp hx;refine⟨_,rfl,[some<|vz c ts,some<|.lf s<|zk r,sI v], ?_,_,rfl⟩;unfold yq;rw[BU rfl (by decide +kernel) rfl (WD.e<|za rfl) (OX<|hv v<|zyA hv') rfl];rfl) ⟨_,rfl⟩
 have s2:=yn (ku (i:=1) rfl) h2;have wl:WD (fP wA xq) [some<|vz c ts,some<|.lf s<|zk r,e] true (.int r.length):=by
  have:=yr (as:=[some<|vz c ts,some<|.lf s<|zk r,e]) (g:=xq) (zj (za (i:=1) rfl) zr) rfl rfl
  rwa [zzB]at this
 have s3:yq (zh (aC (fP wA xq) aN) vq) [some<|vz c ts,some<|.lf s<|zk r,e]=some (.nx [some<|vz c ts,some<|.lf s<|zk r,e]):=by
  unfold yq;have:=qG (WD.e wl) (uw<|by omega);unfold WD at this;rw[this];rfl
 have wy:WD (O7 0 xj "way") [some<|vz c ts,some<|.lf s<|zk r,e] true c.w:=if_pos (c:=("Makes":Str) ∈ xj/\("way":Str)="way") (e:=none) ⟨by decide +kernel,rfl⟩;have wt:=vN (zj wy<|zj (za (i:=1) rfl) zr) t1;have hk:=XF (i:=0) (c:=c) (m:="keep") rfl (by decide +kernel) (yZ ⟨o,wt,t2,t3⟩ zr) (by
  show some [(zC d||true,d)]=_;rw[zyD])<|HF tl
 refine⟨d,hd, ?_⟩;have hc:Yc [some<|vz c ts,some<|.lf s<|zk r,none]=some _:=Hm s1 (Hm s2<|Hm s3<|by
  unfold FU;rw[hk];rfl)
 unfold yX sR;rw[if_pos<|by rfl];show(Yc [some<|vz c ts,some<|.lf s<|zk r,none]).bind _=_;rw[hc];show(if(vz c<|ts++[d]).str=true/\zC _=true then _ else _)=_;rw[if_pos ⟨EU,rfl⟩]
def CK{k:Nat}{d:D}(h:c.Ok)(hk:ts[k]? = some d)(hd:OT c d r)(hl:r.length<=900):YK [(true,B5 c ts),(true,.int k)]=some (xN r):=by
 obtain⟨o,t1,t2,t3⟩:=K2 hk;have wt:WE (Ye Yr "tree_at" zm wA) [sT _,sI k] d:=Fw (za rfl) (by decide +kernel) rfl (WD.e<|za rfl) ⟨o,t1,t2,t3⟩;refine xV rfl<|GO (vN (zj (CJ<|za rfl)<|yZ wt zr) ?_) (XO r).1;show XT [_,(zC d||true,d)]=_;rw[zyD];exact nP h hd<|q0b hl
end
section
variable{n m:Nat}{J:TZ}{e:Int}{Ds:DD}{S:SS}
def B9{p:Str×TZ}(nd:(Ds.map (·.1)).Nodup)(hp:p ∈ Ds):RE (YN [(true,Nb n m J e Ds S),(true,.str p.1)]) (vY p.2):=by
 have ww:WD (f1 zm<|zT XI "waits") [sT<|Nb n m J e Ds S,sT<|.str p.1] true _:=tw rfl (by decide +kernel) rfl;refine zL rfl<|zA<|QQ (WD.e ww) (WD.e<|za rfl) ?_;show Ji _=_;rw[GL hp nd];rfl
def tB{p:Str×TZ}(nd:(Ds.map (·.1)).Nodup)(hp:p ∈ Ds):RE (YD [(true,Nb n m J e Ds S),(true,.str p.1)]) (.bl true):=by
 have ww:WD (f1 zm<|zT XI "waits") [sT<|Nb n m J e Ds S,sT<|.str p.1] true _:=tw rfl (by decide +kernel) rfl;have i1:WD (Ux zi "str") [sT<|Nb n m J e Ds S,sT<|.str p.1] true _:=rfl;refine zL rfl<|zA<|WD.e<|LF i1 (λ_=>zB (za rfl) ww ?_ rfl) (λz=>nomatch z);show((some (PV _ _).isSome).bind λb=>some _)=_;rw[GL hp nd];rfl
end
def jr{f:EF}{as:AS}{k:Int}(h:WD f as true (.int k)):oS f as=some (some k,as):=by
 unfold oS;unfold WD at h;rw[h];rfl
def dH{as:AS}{a b:D}{i j:Nat}(hi:i<as.length)(hj:j<as.length):gT 2 (yG (gN i)<|yG (gN j) XM) (true,.tup [a,b]) as=some ((as.set i<|sT a).set j<|sT b):=by
 show yG _ _ (kids true [a,b]) as=_;rw[X0];show(gN i _ as).bind _=_;unfold gN;rw[if_pos hi];show((if j<(as.set i _).length then _ else _:Option AS)).bind _=_;rw[if_pos<|by rw[zzU];exact hj];rfl
def i_{as:AS}{f:EF}{a b:D}{i j:Nat}(h:WE f as (.tup [a,b]))(hi:i<as.length)(hj:j<as.length):Vu f (gT 2<|yG (gN i)<|yG (gN j) XM) as=some (.nx<|(as.set i<|sT a).set j<|sT b):=by
 obtain⟨o,h,h1,h2⟩:=h;exact SK h (by rw[h1,h2];exact dH hi hj)
def jb{a b d:EF}{as:AS}{s:Bool}{r:List Int}{i k:Nat}(ha:WD a as s (zk r))(hb:WD b as true (.int i))(hd:WD d as true (.int k))(h1:i<=k)(h2:k<=r.length):WE (WR a (oS b) (oS d) QE) as (zk<|(r.take k).drop i):=by
 refine PR ha (jr hb) (jr hd) ?_;show some _=_;unfold PF.cutD;rw[HT.WB,HT.WB,zzB,Nat.min_eq_left h2,Nat.min_eq_left<|zzO h1 h2,List.drop_take,<-List.map_drop,<-List.map_take]
section
variable{c:Cx}{x y d:D}{r s R:List Int}{p q:Nat}{ts:List D}{as:AS}
def oI(h:c.Ok){T:TZ}(hT:c.W T)(k:OT c d R):∃d',RE (Zg [(true,c.w),(true,d),(true,vY T)]) d'/\OT c d' (c.ap (some T) R):=by
 rcases k with⟨rfl,rfl⟩|⟨p,k⟩
 . exact⟨.non,zL rfl<|yk<|yK (yf (zB (za rfl) zb rfl rfl) rfl)<|zA<|WD.e zb,.n⟩
 . obtain⟨d',a,b⟩:=M3 h hT k;exact⟨d',a,b.o⟩
def TK.one(k:TK c d R 0):R.length=1:=by
 generalize e:0=p at k;cases k with
 |lf=>rfl
 |nd=>omega
theorem Fe(h:c.Ok):∀(n:Nat) {d:D}{R:List Int}{p:Nat}(i:Nat),TK c d R p->p<n->R.length<=1000->i<=R.length->∃a b,RE (yy n [(true,c.w),(true,d),(true,.int i)]) (.tup [a,b])/\OT c a (R.take i)/\OT c b (R.drop i)
 |0,_,_,_,_,_,h,_,_=>absurd h (Nat.not_lt_zero _)
 |n+1,d,R,p,i,k,hp,hl,hi=>by
  have v1:∀a b e,WD zi [sT c.w,sT d,sI i,a,b,e] true d:=λ_ _ _=>za rfl;have v2:∀a b e,WD zF [sT c.w,sT d,sI i,a,b,e] true (.int i):=λ_ _ _=>za rfl;have wy:∀a b e,WE zm [sT c.w,sT d,sI i,a,b,e] c.w:=λ_ _ _=>WD.e<|za rfl;have eqN:∀{f g:EF}{as:AS}{a b:Nat},WD f as true (.int a)->WD g as true (.int b)->WT (fT<|f2 f g<|zy .Eq) as (decide (a=b)):=λ{f g as a b} h1 h2=>yf (Re h1 h2 (by
   show some _=_
   by_cases z:a=b
   . subst z;rw[zyO rfl,beq_self_eq_true]
   . rw[zyG z,beq_eq_false_iff_ne.mpr<|by omega])) rfl
  have t1:=eqN (v2 none none none)<|zb (x:=.int 0);have t2:=eqN (v2 none none none)<|k.size<|v1 none none none
  by_cases e0:i=0
  . rw[zyO e0]at t1;subst e0;exact⟨.non,d,zL rfl<|yk<|yK t1<|zA<|yp (WD.e zb)<|WD.e<|v1 _ _ _,.n,k.o⟩
  rw[zyG e0]at t1
  by_cases e1:i=R.length
  . rw[zyO e1]at t2;refine⟨d,.non,zL rfl<|zc (zq t1 rfl)<|yk<|yK t2<|zA<|yp (WD.e<|v1 _ _ _)<|WD.e zb, ?_, ?_⟩
    . rw[e1,List.take_length];exact k.o
    . rw[e1,List.drop_length];exact .n
  rw[zyG e1]at t2;have p0:p≠0:=λz=>by subst z;have:=k.one;omega
  obtain⟨x,y,r,s,u,v,k0,k1,k2,_,_,rfl,rfl⟩:=YB h k p0;rw[zzJ]at hl hi e1;have s3:=yL (p:=3) (xx (wy none none none) (WD.e<|v1 _ _ _) k0)<|zg rfl;have u0:∀b e,WD (f2 zE zV zx) [sT c.w,sT d,sI i,sT<|.tup [x,y],b,e] true x:=λ_ _=>v9 rfl rfl;have u1:∀b e,WD (f2 zE zJ zx) [sT c.w,sT d,sI i,sT<|.tup [x,y],b,e] true y:=λ_ _=>v9 rfl rfl;have s4:=zG (i:=4) (st:=true) (k1.size<|u0 none none)<|zg rfl;have v4:∀e,WD yh [sT c.w,sT d,sI i,sT<|.tup [x,y],sI r.length,e] true (.int r.length):=λ_=>za rfl;have t5:=yf (JW (v2 (sT<|.tup [x,y]) (sI r.length) none)<|v4 none) rfl
  by_cases g:i<r.length
  . rw[zyO<|q0h g]at t5;obtain⟨a,b,a1,a2,a3⟩:=Fe h n i k1 (by omega) (q1v hl)<|q0D g;obtain⟨f,f1,f2⟩:=HC h a3 k2.o (by rw[List.length_drop];omega) (by omega);have s5:=yL (p:=5) (z_ (wy _ _ _) (WD.e<|u0 (sI r.length) none) (WD.e<|v2 _ _ _) a1)<|zg rfl;refine⟨a,f,zL rfl<|zc (zq t1 rfl)<|zc (zq t2 rfl)<|zc s3<|zc s4<|yk<|yK t5<|zc s5<|zA<|yp (WD.e<|v9 rfl rfl)<|z_ (wy _ _ _) (WD.e<|v9 rfl rfl) (WD.e<|u1 _ _) f1, ?_, ?_⟩
    . rw[List.take_append_of_le_length<|q0D g];exact a2
    . rw[List.drop_append_of_le_length<|q0D g];exact f2
  . rw[zyG<|by omega]at t5;obtain⟨a,b,a1,a2,a3⟩:=Fe h n (i-r.length) k2 (by omega) (by omega) (by omega);obtain⟨f,f1,f2⟩:=HC h k1.o a2 (q1v hl) (by rw[zzS];omega);have ws:=ZS (v2 (sT<|.tup [x,y]) (sI r.length) none)<|v4 none;rw[show i-r.length=((i-r.length:Nat):Int) by omega]at ws;have s5:=yL (p:=5) (z_ (wy _ _ _) (WD.e<|u1 _ _) (WD.e ws) a1)<|zg rfl;refine⟨f,b,zL rfl<|zc (zq t1 rfl)<|zc (zq t2 rfl)<|zc s3<|zc s4<|zc (zq t5 rfl)<|zc s5<|zA<|yp (z_ (wy _ _ _) (WD.e<|u0 _ _) (WD.e<|v9 rfl rfl) f1)<|WD.e<|v9 rfl rfl, ?_, ?_⟩
    . rw[List.take_append,List.take_of_length_le<|q0L g];exact f2
    . rw[List.drop_append,List.drop_of_length_le<|q0L g,List.nil_append];exact a3
def Ax(h:c.Ok)(k:OT c d R)(i:Nat)(hl:R.length<=1000)(hi:i<=R.length):∃a b,RE (yy 20 [(true,c.w),(true,d),(true,.int i)]) (.tup [a,b])/\OT c a (R.take i)/\OT c b (R.drop i):=by
 rcases k with⟨rfl,rfl⟩|⟨p,k⟩
 . cases Nat.le_zero.mp hi;exact⟨.non,.non,zL rfl<|yk<|yK (yf (Re (za rfl) zb rfl) rfl)<|zA<|yp (WD.e zb)<|WD.e<|za rfl,.n,.n⟩
 . exact Fe h 20 i k (k.lt hl) hl hi
theorem Iq(k:Nat):∀r:List Int,(r.map D.int).all (nc Gj<|k+1)=true
 | []=>rfl
 |_::r=>Iq k r
theorem AM(k:Nat):∀T:TZ,(T.map Gr).all (nc Gj<|k+2)=true
 | []=>rfl
 |r::T=>by
  show(((r.map D.int).all _)&&(T.map Gr).all _)=_;rw[Iq,AM k T];rfl
theorem TK.nc(k:TK c d R p):∀j,p+4<=j->nc Gj j d=true:=by
 induction k with
 |lf v t _=>
  intro j hj;obtain⟨j,rfl⟩:∃i,j=i+2:=⟨j-2,by omega⟩;rfl
 | @nd w t x y r s p q R a b _ _ hw e i1 i2=>
  intro j hj;obtain⟨j,rfl⟩:∃i,j=i+4:=⟨j-4,by omega⟩;have h1:=i1 (j+3) (by omega);have h2:=i2 (j+3) (by omega);have h3:PF.nc Gj (j+3) (Kn w)=true:=by
   cases w with
   |none=>rfl
   |some T=>exact AM j T
  show(decide _&&(true&&(true&&(PF.nc Gj _ _&&(true&&(PF.nc Gj _ x&&(PF.nc Gj _ y&&_)))))))=_;rw[h1,h2,h3];rfl
theorem OT.nc(k:OT c d R)(hl:R.length<=1000){j:Nat}(hj:24<=j):nc Gj j d=true:=by
 rcases k with⟨rfl,_⟩|⟨p,k⟩
 . obtain⟨j,rfl⟩:∃i,j=i+1:=⟨j-1,by omega⟩;rfl
 . exact k.nc j (by have:=k.lt hl;omega)
def uU{x a b:Int}(h0:a<=x)(h1:x<=b):vm [(true,.int x),(true,.int a),(true,.int b)]=sT (.bl true):=
 xV rfl (xS<|LF (Qt (zj (za rfl) zr) G9) (λ_=>HQ (za rfl) (za rfl) (za rfl) h0 h1) (λz=>nomatch z))
def Ja{x a b:Int}(h0:a<=x)(h1:x<=b):xJ [(true,.int x),(true,.int a),(true,.int b)]=sT .non:=by
 have h:Xn (Zh 3 [(true,.int x),(true,.int a),(true,.int b)])=some _:=zq (Wd<|pC<|WD.e<|I_ (WD.e<|za rfl) (WD.e<|za rfl) (WD.e<|za rfl)<|uU h0 h1) rfl;unfold xJ xY;rw[if_pos (by rfl),h];rfl
def Ia{f g h:EF}{x a b:Int}(wf:WE f as (.int x))(wg:WE g as (.int a))(wh:WE h as (.int b))(h0:a<=x)(h1:x<=b):yq (zh (aC f<|aC g<|aC h aN) xJ) as=some (.nx as):=by
 have:=I_ wf wg wh<|Ja h0 h1;unfold WD at this;unfold yq;rw[this];rfl
def JH(h:c.Ok){k:Nat}(hk:ts[k]? = some d)(hd:OT c d R)(hl:R.length<=900){i j:Nat}(h1:i<=j)(h2:j<=R.length):∃x y z,wz [(true,B5 c ts),(true,.int k),(true,.int i),(true,.int j)]=sT (.tup [x,y,z])/\OT c x (R.take i)/\OT c y ((R.take j).drop i)/\OT c z (R.drop j):=by
 obtain⟨a,z,a1,a2,a3⟩:=Ax h hd j (q0b hl) h2;obtain⟨x,y,b1,b2,b3⟩:=Ax h a2 i (by rw[zzS];omega) (by rw[zzS];omega);have wt:WE (Ye Yr "tree_at" zm wA) [sT<|B5 c ts,sI k,sI i,sI j,none,none,none] d:=Fw (za rfl) (by decide +kernel) rfl (WD.e<|za rfl)<|K2 hk;have s4:=yL (p:=4) wt<|zg rfl;have ws:WE (zh (aC yh aN) XU) [sT<|B5 c ts,sI k,sI i,sI j,sT d,none,none] (.int R.length):=wF (WD.e<|za rfl)<|DH hd;have s5:=Ia (WD.e<|za (i:=2) rfl) (WD.e<|zb (x:=.int 0)) ws (q0a) (by omega);have s6:=Ia (WD.e<|za (i:=3) rfl) (WD.e<|za (i:=2) rfl) ws (q2h h1)<|q2h h2;have s7:=yL (p:=5) (as:=[sT<|B5 c ts,sI k,sI i,sI j,sT d,none,none]) (z_ (WD.e<|CJ<|za (i:=0) rfl) (WD.e<|za (i:=4) rfl) (WD.e<|za (i:=3) rfl) a1)<|zg rfl;have s8:=yL (p:=6) (as:=[sT<|B5 c ts,sI k,sI i,sI j,sT d,sT<|.tup [a,z],none]) (z_ (WD.e<|CJ<|za (i:=0) rfl) (WD.e<|v9 (j:=5) (i:=0) rfl rfl) (WD.e<|za (i:=2) rfl) b1)<|zg rfl;rw[List.take_take,Nat.min_eq_left h1]at b2;exact⟨x,y,z,xV rfl<|zo s4<|zo s5<|zo s6<|zo s7<|zo s8<|xS<|pd (zu (v9 rfl rfl)<|zu (v9 rfl rfl)<|zu (v9 rfl rfl) yi) (VI rfl) rfl,b2,b3,a3⟩
def Sd{f:EF}{x:D}(h:WE f as x):WD (BN f) as true x:=by
 obtain⟨o,h1,h2,h3⟩:=h;unfold WD BN;rw[h1];show some (RV.ow<|.lf o.str o.toD,as)=_;rw[h2,h3]
def pY(h:c.Ok){u v w:D}{a b e:List Int}(ha:OT c u a)(hb:OT c v b)(he:OT c w e)(hl:a.length+b.length+e.length<=900):∃d,yF [(true,B5 c ts),(true,u),(true,v),(true,w)]=sT d/\OT c d (a++b++e):=by
 obtain⟨d1,p1,p2⟩:=HC h ha hb (by omega) (by omega);obtain⟨d,q1,q2⟩:=HC h p2 he (by rw[zzJ];omega) (by omega);exact⟨d,xV rfl<|xS<|Sd<|z_ (WD.e<|CJ<|za rfl) (z_ (WD.e<|CJ<|za rfl) (WD.e<|za rfl) (WD.e<|za rfl) p1) (WD.e<|za rfl) q1,q2⟩
end
section
variable{c:Cx}{ts:List D}{as:AS}{i:Nat}{d:D}{R:List Int}{k:Nat}
def rG{m:Str}{tbl:List (Str×Fn)}{g:Fn}{fr:AF}{xs:List (Bool×D)}{o:O}(h:as[i]? = some (some<|vz c ts))(hm:m ∉ Gj)(ht:Oi tbl "Makes"=some g)(b:WA fr as xs)(hg:g ((true,B5 c ts)::xs.map λx=>(zC x.2||x.1,x.2))=some o)(ho:rj Gj o=true):Z0 i tbl m fr as=some (.ow o,as):=by
 unfold WA at b;unfold Z0;rw[h,GR];show(if m ∈ Gj then none else some "Makes":Option Str).bind _=_;rw[if_neg hm];show(Oi tbl "Makes").bind _=_;rw[ht];rw[b];show(G5 as[i]?).bind _=_;rw[h,GR,zyL];rw[Ym];show(g _).bind _=_;rw[hg];show(if rj Gj o=true then some _ else none)=_;rw[if_pos ho]
def gA(h:as[0]? = some (some<|vz c ts)):WD (O7 0 xj "way") as true c.w:=by
 unfold WD O7;rw[h];exact if_pos (e:=none) ⟨by decide +kernel,rfl⟩
def jx{fr:AF}{d:D}(h:as[0]? = some (some<|vz c ts))(hr:WA fr as [(true,d)])(tl:ts.length<900):FU (Vx 0 "Makes" "keep" yT fr) as=some (.int ts.length,as.set 0<|some<|vz c<|ts++[d]):=by
 have hk:=XF (m:="keep") (g:=yT) h (by decide +kernel) hr (by
  show some [(zC d||true,d)]=_;rw[zyD])<|HF tl
 unfold FU;rw[hk];rfl
def eY{n m:Nat}{f:VF}{xs:List wK}{ts':List D}{v:Int}{l:AS}(hn:xs.length+1=m)(hc:f (Yw n (vz c ts::xs.map Dg))=some (.int v,some (vz c ts')::l)):sR n m f xs (vz c ts)=some (.int v,vz c ts'):=by
 unfold sR;rw[if_pos hn];rw[hc];show(if(vz c ts').str=true/\zC _=true then _ else _)=_;rw[if_pos ⟨EU,rfl⟩]
def Jm{x y z:D}{a b e:List Int}(ha:OT c x a)(hb:OT c y b)(he:OT c z e)(l1:a.length<=1000)(l2:b.length<=1000)(l3:e.length<=1000):rj Gj (.lf true<|.tup [x,y,z])=true:=by
 show(PF.nc Gj 59 x&&(PF.nc Gj 59 y&&(PF.nc Gj 59 z&&true)))=_;rw[ha.nc l1 (by omega),hb.nc l2 (by omega),he.nc l3<|by omega];rfl
section
variable(h:c.Ok)(hk:ts[k]? = some d)(hd:OT c d R)(hl:R.length<=900){i j:Nat}(h1:i<=j)(h2:j<=R.length)(tl:ts.length<900)
include h hk hd hl h1 h2 tl
def BL{p:Str×TZ}(hp:p ∈ c.Ds):∃d',OT c d' (R.take i++c.ap (some p.2) ((R.take j).drop i)++R.drop j)/\vv [(true,.int k),(true,.int i),(true,.int j),(true,.str p.1)] (vz c ts)=some (.int ts.length,vz c<|ts++[d']):=by
 obtain⟨x,y,z,t1,ox,oy,oz⟩:=JH h hk hd hl h1 h2;obtain⟨y',r1,oy'⟩:=oI h ⟨h.A.ds p hp,h.L.ld p hp⟩ oy;have lx:(R.take i).length<=900:=by rw[zzS];omega
 have ly:((R.take j).drop i).length<=900:=by rw[List.length_drop,zzS];omega
 have lz:(R.drop j).length<=900:=by rw[List.length_drop];omega
 obtain⟨d',g1,od⟩:=pY h ox oy' oz (by rw[Wl,List.length_drop,zzS,zzS,List.length_drop];omega);have w1:WD (Z0 0 Yo "three_parts" (aC zi<|aC zF v8)) [some<|vz c ts,sI k,sI i,sI j,sT<|.str p.1,none,none] true (.tup [x,y,z]):=rG rfl (by decide +kernel) rfl (zj (za rfl)<|zj (za rfl)<|zj (za rfl) zr) t1<|Jm ox oy oz (q0b lx) (q0b ly)<|q0b lz;have s1:=zG (st:=true) (i:=5) w1<|zg rfl;have wy:∀e,WD (O7 0 xj "way") [some<|vz c ts,sI k,sI i,sI j,sT<|.str p.1,sT<|.tup [x,y,z],e] true c.w:=λe=>gA rfl;have wd:WE (Ye UB "is_deed" (O7 0 xj "way")<|aC yh aN) [some<|vz c ts,sI k,sI i,sI j,sT<|.str p.1,sT<|.tup [x,y,z],none] (.bl true):=Fw (wy none) (by decide +kernel) rfl (WD.e<|za rfl)<|tB h.A.nd hp;have ww:WE (Ye Uv "wait_of" (O7 0 xj "way")<|aC yh aN) [some<|vz c ts,sI k,sI i,sI j,sT<|.str p.1,sT<|.tup [x,y,z],none] (vY p.2):=Fw (wy none) (by decide +kernel) rfl (WD.e<|za rfl)<|B9 h.A.nd hp;have s3:=yL (p:=6) (z_ (WD.e<|wy none) (WD.e<|v9 (j:=5) (i:=1) rfl rfl) ww r1)<|zg rfl;have w4:WD nY [some<|vz c ts,sI k,sI i,sI j,sT<|.str p.1,sT<|.tup [x,y,z],sT y'] true d':=rG rfl (by decide +kernel) rfl (zj (v9 rfl rfl)<|zj (za rfl)<|zj (v9 rfl rfl) zr) (by
  show yF [_,(zC x||true,x),(zC y'||true,y'),(zC z||true,z)]=_;rw[zyD,zyD,zyD];exact g1) (od.nc (by rw[zzJ,zzJ,Wl,List.length_drop,zzS,zzS,List.length_drop];omega)<|by omega)
 exact⟨d',od,eY rfl<|Hm s1<|Hm (zq (Wd<|pC wd) rfl)<|Hm s3<|jx rfl (zj w4 zr) tl⟩
end
end
def gW{a b:EF}{as:AS}{s:Bool}{r:List Int}{k:Nat}(ha:WD a as s (zk r))(hb:WD b as true (.int k))(hk:k<=r.length):WE (WR a oN (oS b) QE) as (zk<|r.take k):=by
 have c1:=Dc (xs:=(r.take k).map D.int) (ys:=(r.drop k).map D.int);rw[<-zyM,List.take_append_drop,zzB,zzS,Nat.min_eq_left hk]at c1;exact PR ha rfl (jr hb) c1
def qu{a b:EF}{as:AS}{s:Bool}{r:List Int}{k:Nat}(ha:WD a as s (zk r))(hb:WD b as true (.int k))(hk:k<=r.length):WE (WR a (oS b) oN QE) as (zk<|r.drop k):=by
 have c1:=Bq (xs:=(r.take k).map D.int) (ys:=(r.drop k).map D.int);rw[<-zyM,List.take_append_drop,zzB,zzS,Nat.min_eq_left hk]at c1;exact PR ha (jr hb) rfl c1
def Jf{a b:EF}{as:AS}{r s:List Int}(ha:WE a as (zk r))(hb:WE b as (zk s))(hl:r.length+s.length<=1000):WE (f2 a b zt) as (zk<|r++s):=by
 have:=JJ ha hb (add_lists<|by rw[zzB,zzB];exact OP<|by omega);rw[<-zyM]at this;exact this
def cc{r:Option O}{d:D}(hd:zC d=true)(h:RE r d):r=sT d:=by
 obtain⟨o,h,h1,h2⟩:=h;cases o with
 |lf s x=>subst h2;rw[show s=true from h1]at h;exact h
 |nd k os=>subst h2;cases k<;>cases hd
abbrev B3(rs:TZ):List O:=(rs.map zk).map<|O.lf true
theorem rz:∀r:List Int,rj Gj (xN r)=true
 | []=>rfl
 |_::r=>rz r
def BR{as:AS}{i:Nat}{rs:TZ}{b:EF}{k:Nat}{r:List Int}(h:as[i]? = some (sN<|B3 rs))(hb:WD b as true (.int k))(hr:rs[k]? = some r):WD (f2 (fV i) b zx) as true (zk r):=
 jf h (Oj _) (U8 _) hb (by rw[TQ];exact Xu hr)
section
variable{c:Cx}{R:List Int}
def JM(h:c.Ok){p:Str×TZ}(hp:p ∈ c.Ds)(hr:c.In R)(hl:R.length<=1000):RE (Ze [(true,c.g),(true,.str p.1),(true,zk R)]) (zk<|c.ap (some p.2) R):=by
 have W:c.W p.2:=⟨h.A.ds p hp,h.L.ld p hp⟩;have m1:=h.A.m1;have w0:WE (fP (aC (f2 zm Zw zx) aN) LY) [sT c.g,sT<|.str p.1,sT<|zk R,none] _:=rZ h.A.nd<|WD.e<|yE (za rfl) (zb) rfl;have s3:=yL (p:=3) (QQ (g:=zx) w0 (WD.e<|za (i:=1) rfl) (by
  show Ji _=_;rw[GL hp h.A.nd];rfl))<|zg rfl
 have ib:=Y3 (as:=[sT c.g,sT<|.str p.1,sT<|zk R,sT<|xp p.2])<|WD.e<|za (i:=2) rfl;have wm:=Ws (cap:=[none,some 3,some 0]) (gg:=gN 0) R ib (q0t hl) λv mv=>⟨_,rfl,WD.e<|zB (yE (za (i:=1) rfl) (zU (zb) (zB (g:=zx) (za (i:=2) rfl) (zb (x:=.int 1)) rfl rfl)<|q0p m1) (vG W.t h.m1).1) (za (i:=0) rfl) (rowAt (vG W.t h.m1).2<|hr v mv).1 rfl⟩;refine zL rfl<|zc s3<|zA ?_;show WE _ _ (.lst<|(R.map _).map D.int);rw[zyB];exact wm
end
def dU{as:AS}{a b d:D}{i j k:Nat}(hi:i<as.length)(hj:j<as.length)(hk:k<as.length):gT 3 (yG (gN i)<|yG (gN j)<|yG (gN k) XM) (true,.lst [a,b,d]) as=some (((as.set i<|sT a).set j<|sT b).set k<|sT d):=by
 show yG _ _ (kids true [a,b,d]) as=_;rw[X0];show(gN i _ as).bind _=_;unfold gN;rw[if_pos hi];show((if j<(as.set i _).length then _ else _:Option AS)).bind _=_;rw[if_pos<|by rw[zzU];exact hj];show((if k<((as.set i _).set j _).length then _ else _:Option AS)).bind _=_;rw[if_pos<|by rw[zzU,zzU];exact hk];rfl
def Cp(x:Int)(n:Nat)(hn:n<=1000):∃i j:Nat,i<=j/\j<=n/\RE (WI [(true,.int x),(true,.int n)]) (.tup [.int i,.int j]):=by
 have wd:=Hl (as:=[sI x,sI n,none,none,none]) (sz:=[27720,27720,5]) (by decide) (by decide) (WD.e<|za (i:=0) rfl)<|X4 (zW (WD.e zb)<|zW (WD.e zb)<|zW (WD.e zb) Xo) rfl;obtain⟨o,d1,d2,d3⟩:=wd;have s1:=SK d1 (by rw[d2,d3];exact dU (i:=2) (j:=3) (k:=4) (zg rfl) (zg rfl)<|zg rfl);generalize x%27720=a at s1;generalize x/27720%27720=b at s1;generalize x/27720/27720%5=k at s1;have hm:∀y:Int,∃q:Nat,y%(n+1)=q/\q<=n:=λy=>by
  have h0:=zyN y (show(n:Int)+1≠0 by omega);have h1:=zyH y<|show(0:Int)<n+1 from q0X hn;exact⟨(y%(n+1)).toNat,by omega,by omega⟩
 obtain⟨p,ep,pn⟩:=hm a;obtain⟨q,eq,qn⟩:=hm b;have s2:=zG (st:=true) (i:=2) (zU (za (as:=[sI x,sI n,sI a,sI b,sI k]) (i:=2) rfl) (zK (za (i:=1) rfl)<|zb (x:=.int 1))<|q0X hn)<|zg rfl;rw[ep]at s2;have s3:=zG (st:=true) (i:=3) (zU (za (as:=[sI x,sI n,sI p,sI b,sI k]) (i:=3) rfl) (zK (za (i:=1) rfl)<|zb (x:=.int 1))<|q0X hn)<|zg rfl;rw[eq]at s3;have e4:∀z,WT (fT<|f2 yh (fC<|.int z)<|zy .Eq) [sI x,sI n,sI p,sI q,sI k] (k==z):=λz=>eqT (za (i:=4) rfl) zb rfl;have v1:WD zi [sI x,sI n,sI p,sI q,sI k] true (.int n):=za (i:=1) rfl;have v2:WD zF [sI x,sI n,sI p,sI q,sI k] true (.int p):=za (i:=2) rfl;have v3:WD zE [sI x,sI n,sI p,sI q,sI k] true (.int q):=za (i:=3) rfl;have t0:=e4 0;cases z0:k==0 with
 |true=>
  rw[z0]at t0;exact⟨0,n,by omega,by omega,zL rfl<|zc s1<|zc s2<|zc s3<|yk<|yK t0<|zA<|yp (WD.e zb)<|WD.e v1⟩
 |false=>
  rw[z0]at t0;have t1:=e4 1;cases z1:k==1 with
  |true=>
   rw[z1]at t1;have w:=yr (g:=L_) (zj (zK v2<|zb)<|zj v1 zr) (by
    show some _=_;rw[show(if(n:Int)<(p:Int)+1 then(n:Int)else(p:Int)+1)=((min (p+1) n:Nat):Int) by split<;>omega]) rfl
   exact⟨p,min (p+1) n,by omega,by omega,zL rfl<|zc s1<|zc s2<|zc s3<|zc (zq t0 rfl)<|yk<|yK t1<|zA<|yp (WD.e v2)<|WD.e w⟩
  |false=>
   rw[z1]at t1;have w:=yr (g:=L_) (zj v2<|zj v3 zr) (by
    show some _=_;rw[show(if(q:Int)<p then(q:Int)else p)=((min p q:Nat):Int) by split<;>omega]) rfl
   have w':=yr (g:=Nw) (zj v2<|zj v3 zr) (by
    show some _=_;rw[show(if(q:Int) > p then(q:Int)else p)=((max p q:Nat):Int) by split<;>omega]) rfl
   exact⟨min p q,max p q,by omega,by omega,zL rfl<|zc s1<|zc s2<|zc s3<|zc (zq t0 rfl)<|zc (zq t1 rfl)<|zA<|yp (WD.e w)<|WD.e w'⟩
def pK(x:Int)(k:Nat)(hk:0<k):∃w:Nat,x%(k:Int)=w/\w<k:=by
 have h0:=zyN x<|show(k:Int)≠0 from q1n hk;have h1:=zyH x<|show(0:Int)<k from q0c hk;exact⟨(x%k).toNat,by omega,by omega⟩
def gF{a b:EF}{as as1:AS}{v w:Int}(ha:a as=some (.ow<|.lf true<|.int v,as1))(hb:WD b as1 true (.int w))(e:v=w):wH (fT<|zh (aC a<|aC b aN) yQ) as=some (false,as1):=by
 have hr:aC a (aC b aN) as=some ([.ow<|.lf true<|.int v,.ow<|.lf true<|.int w],as1):=by
  have:=zj hb zr;unfold WA at this;show(a as).bind _=_;rw[ha];show(aC b aN as1).bind _=_;rw[this];rfl
 have h2:zh (aC a<|aC b aN) yQ as=some (.ow<|.lf true<|.bl<|v==w,as1):=by
  unfold zh;rw[hr];rfl
 unfold wH fT;rw[h2,e,beq_self_eq_true];rfl
def fS{c:TF}{f g:SF}{as as1:AS}(h:c as=some (false,as1)):yR c f g as=g as1:=by
 unfold yR;rw[h];rfl
def tI{xs:List D}{x:D}:zx (.lst<|xs++[x]) (.int (-1))=some (.im x):=by
 have:L2.atI (xs++[x]) (-1)=some x:=by
  unfold L2.atI L2.ixN;rw[if_neg (by decide),zzJ,if_pos (by show -(((xs.length+1:Nat)):Int) <= -1;omega)];show _[(-1+((xs.length+1:Nat):Int)).toNat]? = _;rw[show(-1+((xs.length+1:Nat):Int)).toNat=xs.length by omega,zyR<|zzN _,Nat.sub_self];rfl
 show Ji _=_;rw[this];rfl
def dE{a b:EF}{as as1:AS}{v w:Int}(ha:a as=some (.ow<|.lf true<|.int v,as1))(hb:WD b as1 true (.int w))(e:v=w):fT (f2 a b<|zy .NotEq) as=some (false,as1):=by
 have h2:f2 a b (zy .NotEq) as=some (.ow<|.lf true<|.bl<|!(v==w),as1):=by
  unfold WD at hb;unfold f2;rw[ha];show(b as1).bind _=_;rw[hb];rfl
 unfold fT;rw[h2,e,beq_self_eq_true];rfl
def lU{f:EF}{as as1:AS}{os:List O}(h1:f as=some (.ow<|.nd .ls os,as1))(h2:O.strs os=true):YU f as=some ((O.toDs os).map λd=>(true,d),as1):=by
 unfold YU;rw[h1];have e:X_ as1 (.ow<|.nd .ls os)=some _:=rfl;show(X_ as1<|RV.ow<|.nd .ls os).bind (λq=>(Rj q.1).bind λds=>some _)=_;rw[e];show some (kids (O.strs os) _,as1)=_;rw[h2,X0]
def kY{f:EF}{as as1:AS}{x:D}(h:f as=some (.ow<|.lf true x,as1)):BN f as=some (.ow<|.lf true x,as1):=by
 unfold BN;rw[h];rfl
def jE{as:AS}{i:Nat}{rs:TZ}{r:List Int}(h:as[i]? = some (sN<|B3<|rs++[r])):WD (f2 (fV i) (f1 zJ EN) zx) as true (zk r):=
 jf h (Oj _) (U8 _) (pM zb) (by rw[TQ,zyM];exact tI)
def Hz{as:AS}{i:Nat}{rs:TZ}(h:as[i]? = some (sN<|B3 rs)):WD (fP (aC (fV i) aN) xq) as true (.int rs.length):=by
 have:=gy h
 rwa [zzB,zzB]at this
structure Ls(c:Cx)(ts:List D)(rs:TZ)(n:Nat):Prop where
 ln:ts.length=rs.length
 ot:∀(i:Nat) d r,ts[i]? = some d->rs[i]? = some r->OT c d r
 sz:∀r ∈ rs,r.length=n/\c.In r
section
variable{c:Cx}{rs:TZ}{n:Nat}
def Ls.snoc{ts:List D}{d:D}{r:List Int}(h:Ls c ts rs n)(hd:OT c d r)(h1:r.length=n)(h2:c.In r):Ls c (ts++[d]) (rs++[r]) n:=by
 refine⟨by rw[zzJ,zzJ,h.ln];rfl,λi e q he hq=>?_,λq mq=>?_⟩
 . rcases Nat.lt_or_ge i ts.length with hi|hi
   . rw[zyP hi]at he;rw[zyP<|by have:=h.ln;exact q0T hi this]at hq;exact h.ot i e q he hq
   . rw[zyR hi]at he;rw[zyR (by have:=h.ln;exact q0n this hi),<-h.ln]at hq;cases hk:i-ts.length with
     |zero=>
      rw[hk]at he hq;cases he;cases hq;exact hd
     |succ k=>
      rw[hk]at he;cases he
 . rcases zzM.mp mq with m|m
   . exact h.sz q m
   . rw[zzR.mp m];exact⟨h1,h2⟩
def ju{a b:EF}{as:AS}{k:Nat}{p:Str×TZ}(ha:WD a as true c.g)(hb:WD b as true (.int k))(hp:c.Ds[k]? = some p):WD (f2 (f2 a Zw zx) b zx) as true (wb p):=yE (yE ha zb rfl) hb<|Xu hp
def lW{a:EF}{as:AS}(ha:WD a as true c.g):WD (fP (aC (f2 a Zw zx) aN) xq) as true (.int (c.Ds.length:Nat)):=by
 have:=yr (g:=xq) (zj (yE (g:=zx) ha (zb (x:=.int 4)) rfl) zr) rfl rfl;rw[zzB]at this;exact this
def Ls.get{ts:List D}(h:Ls c ts rs n){k:Nat}(hk:k<rs.length):∃d r,ts[k]? = some d/\rs[k]? = some r/\OT c d r/\r.length=n/\c.In r:=by
 have h1:=zzE hk;have h2:=zzE (show k<ts.length by have:=h.ln;omega);exact⟨_,_,h2,h1,h.ot _ _ _ h2 h1,h.sz _<|zyA h1⟩
noncomputable abbrev xD(Ds:DD):DD:=((Ds.map (·.1)).zip Ds.reverse).map λq=>(q.1,q.2.2)
abbrev xc(c:Cx):Cx:=⟨c.n,c.m,c.J,c.e,xD c.Ds,c.S⟩
def Da(Ds:DD):(xD Ds).length=Ds.length:=by
 rw[zzB,List.length_zip,zzB,List.length_reverse,Nat.min_self]
def sZ(Ds:DD):(xD Ds).map (·.1)=Ds.map (·.1):=by
 rw[zyB];exact List.map_fst_zip (by rw[zzB,List.length_reverse];exact zzN _)
def JV{Ds:DD}{p:Str×TZ}(h:p ∈ xD Ds):∃q ∈ Ds,q.2=p.2:=by
 obtain⟨q,mq,rfl⟩:=zxD.mp h;exact⟨q.2,List.mem_reverse.mp (List.of_mem_zip<|mq).2,rfl⟩
def rQ(g:c.Gd):(xc c).Gd:=by
 have A:=g.ok.A;refine⟨⟨⟨A.n1,A.n8,A.m1,A.m6,A.j,A.e0,A.en,by rw[Da];exact A.dl,λp mp=>?_,by rw[sZ];exact A.nd⟩,⟨g.ok.L.lj,λp mp=>?_⟩⟩,g.sl,g.sn,by rw[Da];exact g.dd⟩
 . obtain⟨q,mq,e⟩:=JV mp;rw[<-e];exact A.ds q mq
 . obtain⟨q,mq,e⟩:=JV mp;rw[<-e];exact g.ok.L.ld q mq
def qM{Ds:DD}{k:Nat}{p:Str×TZ}(h:Ds[k]? = some p):∃q,q ∈ xD Ds/\q.1=p.1:=by
 have e:=congrArg (·[k]?)<|sZ Ds;simp only[zzI,h]at e;obtain⟨a,ha,hq⟩:=zzX.mp e;obtain⟨b,hb,rfl⟩:=zzX.mp ha;exact⟨_,zxD.mpr ⟨b,zyA hb,rfl⟩,hq⟩
def sA{as:AS}{i k x y z:Nat}{a b:Nat}{R:List Int}{p:Str×TZ}(h:c.Ok)(hp:p ∈ c.Ds)(hr:c.In R)(hl:R.length<=60)(h1:a<=b)(h2:b<=R.length)(e1:as[i]? = some (sT c.g))(e2:as[k]? = some (sT<|zk R))(e3:as[x]? = some (sI a))(e4:as[y]? = some (sI b))(e5:as[z]? = some (sT<|.str p.1)):WD (BN<|f2 (f2 (WR (fV k) oN (oS<|fV x) QE) (zh (aC (fV i)<|aC (fV z)<|aC (WR (fV k) (oS<|fV x) (oS<|fV y) QE) aN) Ze) zt) (WR (fV k) (oS<|fV y) oN QE) zt) as true (zk<|R.take a++c.ap (some p.2) ((R.take b).drop a)++R.drop b):=by
 have v3:=za e2;refine Sd<|Jf (Jf (gW v3 (za e3)<|by omega) (z_ (WD.e<|za e1) (WD.e<|za e5) (jb v3 (za e3) (za e4) h1 h2)<|JM h hp (λv mv=>hr v<|List.mem_of_mem_take<|List.mem_of_mem_drop mv) ?_) ?_) (qu v3 (za e4) h2) ?_
 . rw[List.length_drop,zzS];omega
 . rw[Wl,List.length_drop,zzS,zzS];omega
 . rw[zzJ,Wl,List.length_drop,zzS,zzS,List.length_drop];omega
def rd{a b:Nat}{R:List Int}{T:TZ}(h1:a<=b)(h2:b<=R.length):(R.take a++c.ap (some T) ((R.take b).drop a)++R.drop b).length=R.length:=by
 rw[zzJ,zzJ,Wl,List.length_drop,zzS,zzS,List.length_drop];omega
def OH{as:AS}{i:Nat}{rs:TZ}{f:EF}{r:List Int}(h:as[i]? = some (sN<|B3 rs))(hl:rs.length<900)(hf:WD f as true (zk r)):yq (vX i (dC f dN) vM) as=some (.nx<|as.set i<|sN<|B3<|rs++[r]):=by
 refine(AZ h (by rw[zzB,zzB];exact slt<|q0i hl) hf).trans ?_;show _=some (Out.nx<|as.set i<|sN<|((rs++[r]).map zk).map _);rw[zyM,zyM];rfl
def uF{as:AS}{i k:Nat}{ts:List D}{d:D}{R:List Int}{f:EF}(h:c.Ok)(e:as[i]? = some (some<|vz c ts))(hf:WD f as true (.int k))(hk:ts[k]? = some d)(hd:OT c d R)(hl:R.length<=900):WE (Z0 i Yl "listed" (aC f aN)) as (zk R):=⟨_,BU e (by decide +kernel) rfl (WD.e hf) (CK h hk hd hl)<|rz _,XO _⟩
def kU{as:AS}{f g:EF}{R:List Int}(hl:R.length<=900)(hf:WE f as (zk R))(hg:WD g as true (zk R)):yR (wH<|fT<|zh (aC f<|aC g aN) wL) (zw<|fC<|.bl false) yM as=some (.nx as):=zq (Wd<|pC<|xx hf (WD.e hg)<|uZ<|q0b hl) rfl
def jm{as:AS}{f g:EF}{R:List Int}(hf:WE f as (zk R))(hg:WD g as true (zk R)):yR (fT<|f2 f g<|zy .NotEq) (zw<|fC<|.bl false) yM as=some (.nx as):=by
 have w:=yf (EI hf (WD.e hg)<|Jx R R) rfl;rw[beq_self_eq_true]at w;exact zq w rfl
end
abbrev Us(ns:List Int)(c:Cx)(ts:List D)(rs:TZ)(a b:Option O)(us:List D)(ls:TZ)(l:AS):AS:=sT (zk ns)::sT c.g::some (vz c ts)::sN (B3 rs)::a::b::sT (xc c).g::some (vz (xc c) us)::sN (B3 ls)::l
abbrev d_:SF:=(zp true 11<|zh (aC zm<|aC (fV 10) aN) yj)
abbrev gI:SF:=nJ
abbrev dj:SF:=km
abbrev dQ:SF:=mT
abbrev d5:SF:=mG
abbrev fU(i s:Nat):SF:=(yq<|vX s (dC (BN<|f2 (f2 (WR (fV 16) oN (oS<|fV 13) QE) (zh (aC (fV i) pQ) Ze) zt) (WR (fV 16) (oS<|fV 14) oN QE) zt) dN) vM)
abbrev cg:SF:=jz
abbrev iW:SF:=jo
abbrev ij:SF:=js
abbrev ey:SF:=(ze d_<|ze gI<|ze dj<|ze dQ<|ze (zp true 16<|f2 zE (fV 12) zx)<|ze d5<|ze (fU 1 3)<|ze cg<|ze (zp true 16<|f2 (fV 8) (fV 12) zx)<|ze (fU 6 8)<|ze iW ij)
def OS{as:AS}{i k:Nat}{rs:TZ}(h:as[i]? = some (sN<|B3 rs))(e:rs.length=k+1):WD (f2 (fP (aC (fV i) aN) xq) zJ xt) as true (.int k):=by
 have w:=ZS (Hz h)<|zb (x:=.int 1)
 rwa [show(rs.length:Int)-1=k by omega]at w
def Ip{as:AS}{k a b:Nat}{s:Str}(e1:as[12]? = some (sI k))(e2:as[13]? = some (sI a))(e3:as[14]? = some (sI b))(e4:as[15]? = some (sT<|.str s)):WA rY as [(true,.int k),(true,.int a),(true,.int b),(true,.str s)]:=zj (za e1)<|zj (za e2)<|zj (za e3)<|zj (za e4) zr
section
variable{c:Cx}{ns:List Int}{a4 a5:Option O}
def tU(g:c.Gd){ts us:List D}{rs ls:TZ}{n:Nat}(h:Ls c ts rs n)(h':Ls (xc c) us ls n)(hn:n<=60)(e:rs.length=ls.length)(h1:1<=rs.length)(h2:rs.length<=200){k:Nat}(hk:k<=100){x9 x11 x12 x13 x14 x15 x16:Option O}:∃d r d' r' y11 y12 y13 y14 y15 y16,Ls c (ts++[d]) (rs++[r]) n/\Ls (xc c) (us++[d']) (ls++[r']) n/\ey (Us ns c ts rs a4 a5 us ls [x9,sI k,x11,x12,x13,x14,x15,x16])=some (.nx<|Us ns c (ts++[d]) (rs++[r]) a4 a5 (us++[d']) (ls++[r']) [x9,sI k,y11,y12,y13,y14,y15,y16]):=by
 have g':=rQ g;obtain⟨x,_,wx⟩:=QM ns hk;have s1:=zG (st:=true) (i:=11) (wx (Us ns c ts rs a4 a5 us ls [x9,sI k,x11,x12,x13,x14,x15,x16]) _ rfl<|za (i:=10) rfl)<|zg rfl;obtain⟨l,el⟩:∃l,rs.length=l+1:=⟨rs.length-1,by omega⟩;obtain⟨q,eq,ql⟩:=pK (x/12) rs.length h1;obtain⟨mk,mkl,s2⟩:∃mk:Nat,mk<rs.length/\gI (Us ns c ts rs a4 a5 us ls [x9,sI k,sI x,x12,x13,x14,x15,x16])=some (.nx<|Us ns c ts rs a4 a5 us ls [x9,sI k,sI x,sI mk,x13,x14,x15,x16]):=by
  have v3:WD WY (Us ns c ts rs a4 a5 us ls [x9,sI k,sI x,x12,x13,x14,x15,x16]) true (.int x):=za (i:=11) rfl;have w1:=OS (as:=Us ns c ts rs a4 a5 us ls [x9,sI k,sI x,x12,x13,x14,x15,x16]) (i:=3) rfl el;have w2:=zU (xi v3 (zb (x:=.int 12)) (by decide)<|zz (by decide)<|by decide) (Hz (i:=3) (rs:=rs) rfl) (by omega);rw[eq]at w2;have w3:=zU v3 (zb (x:=.int 3)) (by decide);obtain⟨z,ez,zl⟩:=pK x 3 (by decide);rw[show x%3=(z:Int)from ez]at w3;have wp:∀mk:Nat,zx (.lst [.int l,.int l,.int q]) (.int z)=some (.im<|.int mk)->gI (Us ns c ts rs a4 a5 us ls [x9,sI k,sI x,x12,x13,x14,x15,x16])=some _:=λmk hm=>zG (st:=true) (i:=12) (ip rfl<|QQ (g:=zx) (X4 (zW (WD.e<|Sd<|WD.e w1)<|zW (WD.e<|Sd<|WD.e w1)<|zW (WD.e<|Sd<|WD.e w2) Xo) rfl) (WD.e w3) hm)<|zg rfl;have:z=0\/z=1\/z=2:=by omega
  rcases this with rfl|rfl|rfl
  . exact⟨l,q1x el e,wp l rfl⟩
  . exact⟨l,q1x el e,wp l rfl⟩
  . exact⟨q,ql,wp q rfl⟩
 obtain⟨d,R,g1,g2,g3,g4,g5⟩:=h.get mkl;obtain⟨d',R',k1,k2,k3,k4,k5⟩:=h'.get (k:=mk) (by omega);obtain⟨i,j,b1,b2,pl⟩:=Cp (x/1000) R.length (by omega);have s3:=i_ (i:=13) (j:=14) (xx (WD.e<|xi (za (as:=Us ns c ts rs a4 a5 us ls [x9,sI k,sI x,sI mk,x13,x14,x15,x16]) (i:=11) (s:=true) rfl) (zb) (by decide)<|zz (by decide)<|by decide) (WD.e<|ud<|WD.e<|BR (i:=3) (rs:=rs) rfl (za (i:=12) rfl) g2) pl) (zg rfl)<|zg rfl;obtain⟨u,eu,ul⟩:=pK (x/7) c.Ds.length g.dd;have hpk:=zzE ul;generalize c.Ds[u]=p at hpk;have hp:=zyA hpk;obtain⟨p',hp',en⟩:=qM hpk;have wk:=zU (xi (za (as:=Us ns c ts rs a4 a5 us ls [x9,sI k,sI x,sI mk,sI i,sI j,x15,x16]) (i:=11) (s:=true) rfl) (zb (x:=.int 7)) (by decide)<|zz (by decide)<|by decide) (lW (c:=c)<|za (i:=1) rfl) (by have:=g.dd;exact q0p this);rw[eu]at wk;have s4:=zG (st:=true) (i:=15) (yE (g:=zx) (ju (c:=c) (za (i:=1) rfl) wk hpk) (zb (x:=.int 0)) rfl)<|zg rfl;have s5:=zG (st:=true) (i:=16) (BR (as:=Us ns c ts rs a4 a5 us ls [x9,sI k,sI x,sI mk,sI i,sI j,sT<|.str p.1,x16]) (i:=3) (rs:=rs) rfl (za (i:=12) rfl) g2)<|zg rfl;obtain⟨e1,o1,m1⟩:=BL g.ok g1 g3 (q1K g4 hn k4) b1 b2 (by have:=h.ln;omega) hp;obtain⟨e2,o2,m2⟩:=BL g'.ok k1 k3 (q1K k4 hn g4) b1 (by omega) (by have:=h'.ln;omega) hp';rw[en]at m2;have l1:=rd (c:=c) (T:=p.2) b1 b2;have l2:=rd (c:=xc c) (R:=R') (T:=p'.2) b1 (by omega);have w7:=λts us ls=>sA (as:=Us ns c ts rs a4 a5 us ls [x9,sI k,sI x,sI mk,sI i,sI j,sT<|.str p.1,sT<|zk R]) (i:=1) (k:=16) (x:=13) (y:=14) (z:=15) g.ok hp g5 (by omega) b1 b2 rfl rfl rfl rfl rfl;have w10:=λts rs us=>sA (c:=xc c) (p:=p') (as:=Us ns c ts rs a4 a5 us ls [x9,sI k,sI x,sI mk,sI i,sI j,sT<|.str p.1,sT<|zk R']) (i:=6) (k:=16) (x:=13) (y:=14) (z:=15) g'.ok hp' k5 (by omega) b1 (by omega) rfl rfl rfl rfl (by rw[en];rfl);have i1:=o1.in g.ok;have i2:=o2.in g'.ok;generalize R.take i++c.ap (some p.2) ((R.take j).drop i)++R.drop j=Q at l1 w7 i1 o1;generalize R'.take i++(xc c).ap (some p'.2) ((R'.take j).drop i)++R'.drop j=Q' at l2 w10 i2 o2;have n1:=h.snoc o1 (by omega) i1;have n2:=h'.snoc o2 (by omega) i2;have mo:=XF (as:=Us ns c ts rs a4 a5 us ls [x9,sI k,sI x,sI mk,sI i,sI j,sT<|.str p.1,sT<|zk R]) (i:=2) (c:=c) (m:="done") rfl (by decide +kernel) (Ip rfl rfl rfl rfl) rfl m1;have s6:=fS (f:=zw<|fC<|.bl false) (g:=yM) (gF mo (Hz (i:=3) (rs:=rs) rfl)<|by rw[h.ln]);have s7:=OH (i:=3) (rs:=rs) rfl (by omega)<|w7 (ts++[e1]) us ls;have s8:=kU (R:=Q) (q1U hn g4 k4 l1 l2) (uF (as:=Us ns c (ts++[e1]) (rs++[Q]) a4 a5 us ls [x9,sI k,sI x,sI mk,sI i,sI j,sT<|.str p.1,sT<|zk R]) (i:=2) (d:=e1) g.ok rfl (OS (i:=3) rfl<|by rw[zzJ,h.ln];rfl) List.getElem?_concat_length o1<|q1U hn g4 k4 l1 l2)<|jE (i:=3) (rs:=rs) rfl;have s9:=zG (st:=true) (i:=16) (BR (as:=Us ns c (ts++[e1]) (rs++[Q]) a4 a5 us ls [x9,sI k,sI x,sI mk,sI i,sI j,sT<|.str p.1,sT<|zk R]) (i:=8) (rs:=ls) rfl (za (i:=12) rfl) k2)<|zg rfl;have s10:=OH (i:=8) (rs:=ls) rfl (by omega)<|w10 (ts++[e1]) (rs++[Q]) us;have mo':=XF (as:=Us ns c (ts++[e1]) (rs++[Q]) a4 a5 us (ls++[Q']) [x9,sI k,sI x,sI mk,sI i,sI j,sT<|.str p.1,sT<|zk R']) (i:=7) (c:=xc c) (m:="done") rfl (by decide +kernel) (Ip rfl rfl rfl rfl) rfl m2;have s11:=fS (f:=zw<|fC<|.bl false) (g:=yM)<|dE mo' (OS (i:=3) rfl<|by rw[zzJ,h'.ln,e];rfl) rfl;have s12:=jm (R:=Q') (uF (as:=Us ns c (ts++[e1]) (rs++[Q]) a4 a5 (us++[e2]) (ls++[Q']) [x9,sI k,sI x,sI mk,sI i,sI j,sT<|.str p.1,sT<|zk R']) (i:=7) (d:=e2) g'.ok rfl (OS (i:=3) rfl<|by rw[zzJ,h'.ln,e];rfl) List.getElem?_concat_length o2<|by omega)<|jE (i:=8) (rs:=ls) rfl;exact⟨e1,Q,e2,Q',_,_,_,_,_,_,n1,n2,zo s1<|zo s2<|zo s3<|zo s4<|zo s5<|zo s6<|zo s7<|zo s8<|zo s9<|zo s10<|zo s11 s12⟩
end
theorem kh:∀(l:List Str) (m:DD),Qc true (l.map D.str) (m.map wb)=(l.zip m).map λq=>(true,D.tup [.str q.1,wb q.2])
 | [],_=>rfl
 |_::_,[]=>rfl
 |a::l,b::m=>congrArg (_ :: ·)<|kh l m
def Az(ns:List Int)(hns:ns.length<=63):Mf [(true,.lst<|ns.map .int)]=sT (.bl true):=by
 obtain⟨c,g,ra⟩:=pP ns;have g':=rQ g;have wm:∀(c:Cx) (g:c.Gd) (as:AS) (i:Nat),as[i]? = some (sT c.g)->zh (aC (zh (aC (zh (aC (fV i) aN) YQ) aN)<|yP "Ways") aN) (yt "Makes") as=some (.ow<|vz c [],as):=λc g as i h=>vN (yZ (wF (wF (WD.e<|za h)<|uN g)<|uR (S:=c.S) g.ok.A g.ok.L g.sl g.sn) zr) (by
  show yt "Makes" [(zC c.w||true,c.w)]=_;rw[zyD];exact uG)
 have s1:(zp true 1<|zh v7 Qv) [sT<|zk ns,none,none,none,none,none,none,none,none,none,none,none,none,none,none,none,none]=some (.nx [sT<|zk ns,sT c.g,none,none,none,none,none,none,none,none,none,none,none,none,none,none,none]):=yL (p:=1) (wF (WD.e<|za (i:=0) rfl) ra)<|zg rfl;have s2:=yV (i:=2) (wm c g [sT<|zk ns,sT c.g,none,none,none,none,none,none,none,none,none,none,none,none,none,none,none] 1 rfl)<|zg rfl;obtain⟨x3,_,w3⟩:=QM ns (k:=13) (by decide);obtain⟨r,r1,r2,rr⟩:=uf (x:=x3) g.ok.A.n1 g.ok.A.n8;have s3:=yV (i:=3) (wq (zu (Sd<|z_ (WD.e<|w3 [sT<|zk ns,sT c.g,some<|vz c [],none,none,none,none,none,none,none,none,none,none,none,none,none,none] _ rfl<|zb (x:=.int 13)) (WD.e<|zB (g:=zx) (z:=.int c.n) (za (i:=1) (x:=c.g) (s:=true) rfl) (zb (x:=.int 0)) rfl rfl) (WD.e<|zb (x:=.int 11)) rr) yi)<|VI rfl)<|zg rfl;have dW:∀as:AS,as[1]? = some (sT c.g)->WD (f2 zi Zw zx) as true (.lst<|c.Ds.map wb):=λas h=>yE (g:=zx) (za h) (zb (x:=.int 4)) rfl;have dl:=g.ok.A.dl;have w4:=Ws (as:=[sT<|zk ns,sT c.g,some<|vz c [],sN<|B3 [r],none,none,none,none,none,none,none,none,none,none,none,none,none]) (cap:=[none]) (gg:=gN 0) (fe:=f2 zm zV zx) c.Ds (Y3<|WD.e<|dW _ rfl) (q0R dl) λp _=>⟨[sT<|wb p],rfl,WD.e<|v9 (j:=0) rfl rfl⟩;have s4:=yL (p:=4) w4<|zg rfl;have it:Yz nr [sT<|zk ns,sT c.g,some<|vz c [],sN<|B3 [r],Option.some<|O.lf true<|.lst<|c.Ds.map λp=>D.str p.1,none,none,none,none,none,none,none,none,none,none,none,none]=some (((c.Ds.map (·.1)).zip c.Ds.reverse).map λq=>(true,D.tup [.str q.1,wb q.2]),[sT<|zk ns,sT c.g,some<|vz c [],sN<|B3 [r],Option.some<|O.lf true<|.lst<|c.Ds.map λp=>D.str p.1,none,none,none,none,none,none,none,none,none,none,none,none]):=by
  have wr:=qj<|dW [sT<|zk ns,sT c.g,some<|vz c [],sN<|B3 [r],Option.some<|O.lf true<|.lst<|c.Ds.map λp=>D.str p.1,none,none,none,none,none,none,none,none,none,none,none,none] rfl;rw[<-List.map_reverse]at wr;have hw:=yZ (WD.e<|za (i:=4) (s:=true) rfl)<|yZ wr zr;rw[<-kh,zyB];unfold WA at hw;unfold Yz nr;rw[hw];rfl
 have w5:=Ws (cap:=[none,none]) (gg:=gT 2<|yG y8<|yG (gN 1) XM) (fe:=yd<|dC zm<|dC (f2 zi zJ zx) dN) _ it (by rw[List.length_zip,zzB,List.length_reverse];omega) λq _=>⟨[sT<|.str q.1,sT<|wb q.2],rfl,yp (WD.e<|za (i:=0) rfl)<|WD.e<|v9 (j:=1) rfl rfl⟩;have s5:=yL (p:=5) w5<|zg rfl;have e5:(((c.Ds.map (·.1)).zip c.Ds.reverse).map λq:Str×(Str×TZ)=>D.tup [.str q.1,xp q.2.2])=(xD c.Ds).map wb:=by
  rw[zyB];rfl
 rw[e5]at s5;generalize Option.some (O.lf true<|.lst<|c.Ds.map λp=>D.str p.1)=a4 at s4 s5;have s6:zp true 6 kW [sT<|zk ns,sT c.g,some<|vz c [],sN<|B3 [r],a4,Option.some<|O.lf true<|.lst<|(xD c.Ds).map wb,none,none,none,none,none,none,none,none,none,none,none]=some (.nx [sT<|zk ns,sT c.g,some<|vz c [],sN<|B3 [r],a4,Option.some<|O.lf true<|.lst<|(xD c.Ds).map wb,sT (xc c).g,none,none,none,none,none,none,none,none,none,none]):=by
  refine yL (p:=6) (QQ (g:=Yq .Add) (x:=.tup [.int c.n,.int c.m,xp c.J,.int c.e]) (WD.e<|CZ (za (i:=1) rfl) rfl (jr zb) ?_) (yp (WD.e<|za (i:=5) rfl)<|WD.e<|v9 (j:=1) rfl rfl) ?_)<|zg rfl
  . rfl
  . exact if_pos (e:=none) (OP (n:=6)<|by decide)
 have s7:=yV (i:=7) (wm (xc c) g' [sT<|zk ns,sT c.g,some<|vz c [],sN<|B3 [r],a4,Option.some<|O.lf true<|.lst<|(xD c.Ds).map wb,sT (xc c).g,none,none,none,none,none,none,none,none,none,none] 6 rfl)<|zg rfl;generalize Option.some (O.lf true<|.lst<|(xD c.Ds).map wb)=a5 at s5 s6 s7;have s8:=yV (i:=8) (wq (zu (Sd<|KA<|BR (as:=[sT<|zk ns,sT c.g,some<|vz c [],sN<|B3 [r],a4,a5,sT (xc c).g,some<|vz (xc c) [],none,none,none,none,none,none,none,none,none]) (i:=3) (k:=0) (rs:=[r]) rfl (zb (x:=.int (0:Nat))) rfl) yi)<|VI rfl)<|zg rfl;obtain⟨d,o1,m1⟩:=FY (s:=true) (ts:=[]) (r:=r) g.ok (q1I r1) r2 (by decide);obtain⟨d',o2,m2⟩:=FY (s:=true) (ts:=[]) (r:=r) g'.ok (q1I r1) r2 (by decide);have q1:=XF (as:=Us ns c [] [r] a4 a5 [] [r] [none,none,none,none,none,none,none,none]) (i:=2) (c:=c) (m:="made") (g:=yX) rfl (by decide +kernel) (yZ (KA<|BR (i:=3) (k:=0) (rs:=[r]) rfl (zb (x:=.int (0:Nat))) rfl) zr) rfl m1;have q2:=XF (as:=Us ns c ([]++[d]) [r] a4 a5 [] [r] [none,none,none,none,none,none,none,none]) (i:=7) (c:=xc c) (m:="made") (g:=yX) rfl (by decide +kernel) (yZ (KA<|BR (i:=3) (k:=0) (rs:=[r]) rfl (zb (x:=.int (0:Nat))) rfl) zr) rfl m2;have i9:=lU (DE (xW (kY q1)<|xW (kY q2) (rfl:dN _=some ([],_)))<|VI rfl) rfl;have b9:∀x9,yR (wH<|fT<|zh (aC (fV 9)<|aC zV aN) yQ) (zw<|fC<|.bl false) yM (Us ns c [d] [r] a4 a5 [d'] [r] (sI 0::x9))=some (.nx<|Us ns c [d] [r] a4 a5 [d'] [r] (sI 0::x9)):=λx9=>zq (Wd (k:=true)<|yf (Qt (zj (za (i:=9) (x:=.int 0) (s:=true) rfl)<|zj (zb (x:=.int 0)) zr) rfl) rfl) rfl;have s9:=yn (g:=gN 9) i9<|xZ rfl (b9 _)<|xZ rfl (b9 _) rfl;have h0:∀{c:Cx}{d:D},c.In r->OT c d r->Ls c [d] [r] r.length:=λhi hd=>⟨rfl,(λi e q he hq=>by
  cases i with
  |zero=>cases he;cases hq;exact hd
  |succ i=>cases he),(λq mq=>by rw[zzR.mp mq];exact⟨rfl,hi⟩)⟩
 obtain⟨k,k9,hr⟩:∃k:Nat,k<=49/\yB jt D2 (Us ns c [d] [r] a4 a5 [d'] [r] [sI 0,none,none,none,none,none,none,none])=some (y4 14 k,Us ns c [d] [r] a4 a5 [d'] [r] [sI 0,none,none,none,none,none,none,none]):=by
  have w1:=ud<|WD.e<|za (as:=Us ns c [d] [r] a4 a5 [d'] [r] [sI 0,none,none,none,none,none,none,none]) (i:=0) (x:=zk ns) rfl;have w2:=yr (g:=L_) (zj w1<|zj (zb (x:=.int 63)) zr) rfl rfl;have w3:=yr (g:=Nw) (zj (zb (x:=.int 22))<|zj w2 zr) rfl rfl;generalize hm:(if(if(63:Int)<ns.length then(63:Int)else ns.length) > 22 then(if(63:Int)<ns.length then(63:Int)else ns.length)else 22)=M at w3;have m0:22<=M/\M<=63:=by
   rw[<-hm]
   split<;>split<;>omega
  have:=IY (zj (zb (x:=.int 14))<|zj w3 zr) (by omega) (by omega) (by omega) (by omega);exact⟨(M-14).toNat,by omega,this⟩
 obtain⟨as',hA,ts,us,rs,ls,y9,y10,y11,y12,y13,y14,y15,y16,rfl,hL,hL',eK,hK⟩:=yW (g:=gN 10) (f:=ey) (λi as=>∃(ts us:List D) (rs ls:TZ) (y9 y10 y11 y12 y13 y14 y15 y16:Option O),as=Us ns c ts rs a4 a5 us ls [y9,y10,y11,y12,y13,y14,y15,y16]/\Ls c ts rs r.length/\Ls (xc c) us ls r.length/\rs.length=ls.length/\rs.length=i+1) (y4 14 k) 0 (Us ns c [d] [r] a4 a5 [d'] [r] [sI 0,none,none,none,none,none,none,none]) (λi y as hy hI=>by
  obtain⟨ts,us,rs,ls,y9,y10,y11,y12,y13,y14,y15,y16,rfl,hL,hL',eK,hK⟩:=hI;obtain⟨rfl,hi⟩:=xk hy;obtain⟨e1,Q,e2,Q',z11,z12,z13,z14,z15,z16,n1,n2,hs⟩:=tU (ns:=ns) (a4:=a4) (a5:=a5) g hL hL' (by omega) eK (by omega) (by omega) (k:=14+i) (by omega) (x9:=y9) (x11:=y11) (x12:=y12) (x13:=y13) (x14:=y14) (x15:=y15) (x16:=y16);exact⟨_,rfl,_,hs,_,_,_,_,_,_,_,_,_,_,_,_,rfl,n1,n2,by rw[zzJ,zzJ,eK];rfl,by rw[zzJ,hK];show _+1=_;omega⟩) ⟨_,_,_,_,_,_,_,_,_,_,_,_,rfl,h0 r2 o1,h0 r2 o2,rfl,rfl⟩
 have s10:=yn hr hA;rw[yY]at hK;have hr2:=xf (as:=Us ns c ts rs a4 a5 us ls [y9,y10,y11,y12,y13,y14,y15,y16]) (zj (Hz (i:=3) (rs:=rs) rfl) zr) (by omega) (by omega);rw[zyI]at hr2;obtain⟨as',hB,z10,rfl⟩:=yW (g:=gN 10) (λ_ as=>∃z10,as=Us ns c ts rs a4 a5 us ls [y9,z10,y11,y12,y13,y14,y15,y16]) _ 0 (Us ns c ts rs a4 a5 us ls [y9,y10,y11,y12,y13,y14,y15,y16]) (λi y as hy hI=>by
  obtain⟨z10,rfl⟩:=hI;obtain⟨rfl,hi⟩:=xk hy;obtain⟨d,R,g1,g2,g3,g4,_⟩:=hL.get (k:=i) (by omega);obtain⟨d',R',k1,k2,k3,k4,_⟩:=hL'.get (k:=i)<|q0T hi eK;have w:WD (fV 10) (Us ns c ts rs a4 a5 us ls [y9,sI<|0+(i:Int),y11,y12,y13,y14,y15,y16]) true (.int i):=za (i:=10)<|congrArg (λz=>Option.some<|Option.some<|O.lf true<|D.int z)<|Int.zero_add (i:Int);exact⟨_,rfl,_,zo (kU (q0U g4 r1 k4) (uF (i:=2) g.ok rfl w g1 g3<|q0U g4 r1 k4)<|BR (i:=3) (rs:=rs) rfl w g2)<|jm (uF (i:=7) g'.ok rfl w k1 k3<|q0U k4 r1 g4)<|BR (i:=8) (rs:=ls) rfl w k2,_,rfl⟩) ⟨_,rfl⟩
 have s11:=yn hr2 hB;exact cc rfl<|zL rfl<|zc s1<|zc s2<|zc s3<|zc s4<|zc s5<|zc s6<|zc s7<|zc s8<|zc s9<|zc s10<|zc s11<|zA<|WD.e zb
end G41
end
end
open PySem PySem.W PyProof.Rows
set_option maxRecDepth 100000 in
set_option maxHeartbeats 0 in
theorem PySem.Challenge.cw_stretchdeeds_k41_deeds_on_stretches_holds : PySem.Challenge.rw_stretchdeeds_k41_deeds_on_stretches.Holds := by
 w_on;refine holds_law G41.ws λsaid=>?_
 refine holds_open (q:=G41.qv) (loose:=[]) (Xt:=G41.Xt) (XP:=XL G41.qv []) (Yf:=Hook.obs<|kHook G41.K G41.kA G41.kAe) (Ya:=Hook.val<|kHook G41.K G41.kA G41.kAe) (YP:=Hook.says<|kHook G41.K G41.kA G41.kAe) (N:=8000) G41.hl (Hook.of<|kHook G41.K G41.kA G41.kAe) (Hook.keeps<|kHook G41.K G41.kA G41.kAe) (λs e=>xl_of s (Bool.and_eq_true_iff.mp e).1) XL.keeps (by rfl) (by rfl) (by rfl) (λs e=>recFacts_of (Bool.and_eq_true_iff.mp e).2) (by rfl) (by first|assumption|decide +kernel) (by decide +kernel) ⟨rfl,rfl,rfl,rfl,rfl,by decide +kernel⟩ ?hw ?hc
 (case hw=>w_witness2)
 k_fill
 refine G41.walk (l:=PySem.Challenge.rw_stretchdeeds_k41_deeds_on_stretches) rfl rfl (λw h Y=>W.kIn_of Y) G41.Az ?F
 case F=>
  intro w mg fa h KX G hmg;refine' G41.oJ KX G hmg ?_ ?_ ?_ ?_ ?_ ?_ ?_ ?_ ?_ ?_ ?_ ?_ ?_ ?_ ?_ ?_ ?_ ?_ ?_ ?_ ?_ ?_ ?_ ?_ ?_ ?_ ?_ ?_ ?_ ?_ ?_ ?_ ?_ ?_ ?_ ?_ ?_ ?_ ?_ ?_ ?_ ?_ ?_ ?_ ?_ ?_ ?_ ?_ ?_ ?_ ?_ ?_ ?_ ?_ ?_ ?_ ?_ ?_ ?_ ?_ ?_ ?_ ?_ ?_ ?_ ?_ ?_ ?_ ?_ ?_ ?_ ?_ ?_ ?_ ?_ ?_ ?_ ?_ ?_ ?_ ?_ ?_ ?_ ?_ ?_ ?_ ?_ ?_ ?_ ?_ ?_ ?_ ?_ ?_ ?_ ?_ ?_ ?_ ?_ ?_ ?_ ?_ ?_ ?_ ?_ ?_ ?_ ?_ ?_ ?_ ?_ ?_ ?_ ?_ ?_ ?_ ?_ ?_ ?_ ?_ ?_ ?_ ?_ ?_ ?_ ?_ ?_ ?_ ?_ ?_ ?_ ?_ ?_ ?_ ?_ ?_ ?_ ?_ ?_ ?_ ?_ ?_ ?_ ?_ ?_ ?_ ?_ ?_ ?_ ?_ ?_ ?_ ?_ ?_ ?_ ?_ ?_ ?_ ?_ ?_ ?_ ?_ ?_ ?_ ?_ ?_ ?_ ?_ ?_ ?_ ?_
  all_goals try first|k_is|(change _=_;k_is)|exact⟨_,⟨_,_,_,_,_,_,_,_,_,rfl,by k_is,by k_is⟩,by k_is⟩|(refine⟨?_, ?_⟩;(change _=_;k_is);exact⟨_,⟨_,_,_,_,_,_,_,_,_,rfl,by k_is,by k_is⟩,by k_is⟩)|rfl
#print axioms PySem.Challenge.cw_stretchdeeds_k41_deeds_on_stretches_holds
